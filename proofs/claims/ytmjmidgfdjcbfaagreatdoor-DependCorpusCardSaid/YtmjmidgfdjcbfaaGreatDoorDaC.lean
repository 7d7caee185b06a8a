/-
  WALKS over package depend, first part: slices.IndexFunc at numbers; Check, firstOnCycle, valid.
-/
import Derived.Test.YtmjmidgfdjcbfaaGreatDoorDaR
import Derived.Deep.LoopGhost
import Derived.Deep.RegionHeld3
import Derived.Deep.DrawnRows
namespace Go.Proofs.YtmjmidgfdjcbfaaGreatDoor.Dep
open Go.RowKit Go.Shelf Go.Lib
set_option linter.unusedVariables false

set_option maxHeartbeats 1000000 in
theorem indexFunc_int {α : Type} {E : World → List Value → α → Prop} (hE : Stays E) {w : World} {v : Value} {xs : List α} (hv : Rows 1 E w v xs) (hl : xs.length ≤ maxLen) (g : FuncId) (lb : Array Value)
    (eg : ∀ args w, (callFunc g args).run Tryz.prog w = .ok (.enter g args) w) (p : α → Bool)
    (hp : ∀ (W : World) (x : α) (u0 : Value), Below w.heap.size w W → x ∈ xs → E W [u0] x → Calls Tryz.prog g (#[u0] ++ lb) W fun e w' => e = .returned (.bool (p x)) ∧ Below W.heap.size W w') :
    Calls Tryz.prog 33 #[v, .func (.func g) #[] lb] w fun e w' => e = .returned (.int .i64 (findZ p xs)) ∧ Below w.heap.size w w' := by
  obtain ⟨A, cap, rfl, hc⟩ := hv.form
  obtain ⟨n, hn⟩ : ∃ n, xs.length = n := ⟨_, rfl⟩
  have HV := Lib.hid (fun W (h : Below w.heap.size w W) => hv.below hE h)
  rw [hn] at hc hl HV ⊢
  have HN := Lib.hid hn
  have HP := Lib.hid hp
  unfold maxLen at hl
  clear hn hv hp hE
  go_enter Tryz.func33, Tryz.ntmps33
  go_wp2_with fail
  go_loopw [5, 8] (fun _ i wr => ∃ k : Nat, k ≤ n ∧ i = .int .i64 k ∧ Hid (∀ (j : Nat) (y : α), j < k → xs[j]? = some y → p y = false) ∧ Below w.heap.size w wr) (fun _ i _ => n - (Go.RowKit.intOf i).toNat)
  case atStart => exact ⟨0, Nat.zero_le _, rfl, Lib.hid (fun j y h => absurd h (by omega)), Below.refl _ _⟩
  case round =>
    obtain ⟨k, hk, rfl, hs, hb⟩ := hrel
    by_cases hlt : k < n
    · obtain ⟨x, hx⟩ : ∃ x, xs[k]? = some x := ⟨_, List.getElem?_eq_getElem (by rw [HN.out]; omega)⟩
      obtain ⟨bk, off, rfl, hbl, hj⟩ := (HV.out wr hb).at' (by rw [HN.out]; omega)
      obtain ⟨cs, hcl, hec, hcell⟩ := hj k x hx
      obtain ⟨u0, rfl⟩ : ∃ u0, cs = [u0] := by
        match cs, hcl with
        | [u0], _ => exact ⟨u0, rfl⟩
      have c0 := hcell 0 _ rfl
      rw [Nat.mul_one, Nat.add_zero] at c0
      have hcall := HP.out wr x u0 hb (List.mem_of_getElem? hx) hec
      obtain ⟨q, hq⟩ : ∃ q, p x = q := ⟨_, rfl⟩
      rw [hq] at hcall
      have HC := Lib.hid hcall
      have HX := Lib.hid hx
      have HQ := Lib.hid hq
      have HB := Lib.hid hb
      clear hcall hx hq hb hj hec hcell hbl
      cases q with
      | true =>
        go_wp2_with (go_at_fn g; refine HC.out.mono ?_; rintro e w' ⟨rfl, hb'⟩)
        go_ret
        exact ⟨by rw [findZ_hit HX.out HQ.out hs.out]; rfl, HB.out.trans (hb'.mono HB.out.size)⟩
      | false =>
        go_wp2_with (go_at_fn g; refine HC.out.mono ?_; rintro e w' ⟨rfl, hb'⟩; have HB' := Lib.hid hb'; clear hb')
        refine ⟨⟨k + 1, by omega, by go_num, Lib.hid (fun j y hj hy => ?_), HB.out.trans (HB'.out.mono HB.out.size)⟩, by simp only [Go.RowKit.intOf]; omega⟩
        by_cases e : j = k
        · subst e
          rw [HX.out] at hy
          cases hy
          exact HQ.out
        · exact hs.out j y (by omega) hy
    · obtain rfl : k = n := by omega
      have HB := Lib.hid hb
      clear hb
      go_wp2_with fail
      go_ret
      exact ⟨by rw [findZ_miss HN.out.symm hs.out]; rfl, HB.out⟩

theorem outside_any (x : Int) (A : Option Addr) (n cap B : Nat) (W : World) (hB : W.cell? ⟨B, 0, none⟩ = some (.slice A n cap)) :
    Calls Tryz.prog 31 (#[.int .i64 x] ++ #[.pointer (some ⟨B, 0, none⟩)]) W fun e w' => e = .returned (.bool (outH n x)) ∧ w' = W := by
  have htok : ∀ (a : Int), Calls Tryz.prog 32 #[.slice A n cap, .int .i64 a] W fun e w' => e = .returned (.bool (decide (0 ≤ a) && decide (a < (n : Int)))) ∧ w' = W := fun a => by
    by_cases h : 0 ≤ a
    · have hd : decide (0 ≤ a) = true := by simp [h]
      rw [hd, Bool.true_and]
      go_enter Tryz.func32, Tryz.ntmps32
      go_wp2_with fail
      go_ret
      exact ⟨rfl, rfl⟩
    · have hd : decide (0 ≤ a) = false := by simp; omega
      rw [hd, Bool.false_and]
      go_enter Tryz.func32, Tryz.ntmps32
      go_wp2_with fail
      go_ret
      exact ⟨rfl, rfl⟩
  have HT := Lib.hid (htok x)
  clear htok
  unfold outH
  by_cases h : x = -1
  · have hb : (x != -1) = false := by simp [h]
    have hd : decide (x = -1) = true := by simp [h]
    rw [hd, Bool.true_or, Bool.not_true]
    go_enter Tryz.func31, Tryz.ntmps31
    go_wp2_with fail
    go_ret
    exact ⟨rfl, rfl⟩
  · have hb : (x != -1) = true := by simp [h]
    have hd : decide (x = -1) = false := by simp [h]
    rw [hd, Bool.false_or]
    obtain ⟨q, hq⟩ : ∃ q, (decide (0 ≤ x) && decide (x < (n : Int))) = q := ⟨_, rfl⟩
    rw [hq] at HT ⊢
    clear hq
    go_enter Tryz.func31, Tryz.ntmps31
    go_wp2_with fail
    refine HT.out.mono ?_
    rintro e w1 ⟨rfl, rfl⟩
    go_wp2_with fail
    go_ret
    exact ⟨rfl, rfl⟩
theorem isToken_any (a : Int) (A : Option Addr) (n cap : Nat) (W : World) : Calls Tryz.prog 32 #[.slice A n cap, .int .i64 a] W fun e w' => e = .returned (.bool (decide (0 ≤ a ∧ a < (n : Int)))) ∧ w' = W := by
  by_cases h : 0 ≤ a
  · by_cases h2 : a < (n : Int)
    · have hd : decide (0 ≤ a ∧ a < (n : Int)) = true := by simp [h, h2]
      rw [hd]
      go_enter Tryz.func32, Tryz.ntmps32
      go_wp2_with fail
      go_ret
      exact ⟨rfl, rfl⟩
    · have hd : decide (0 ≤ a ∧ a < (n : Int)) = false := by simp [h2]
      rw [hd]
      go_enter Tryz.func32, Tryz.ntmps32
      go_wp2_with fail
      go_ret
      exact ⟨rfl, rfl⟩
  · have hd : decide (0 ≤ a ∧ a < (n : Int)) = false := by simp [h]
    rw [hd]
    go_enter Tryz.func32, Tryz.ntmps32
    go_wp2_with fail
    go_ret
    exact ⟨rfl, rfl⟩
theorem removed_any (x : Int) (W : World) : Calls Tryz.prog 69 (#[.int .i64 x] ++ #[]) W fun e w' => e = .returned (.bool (decide (x ≠ -1))) ∧ Below W.heap.size W w' := by
  by_cases h : x = -1
  · have hb : (x != -1) = false := by simp [h]
    rw [show decide (x ≠ -1) = false by simp [h]]
    go_enter Tryz.func69, Tryz.ntmps69
    go_wp2_with fail
    go_ret
    exact ⟨rfl, Below.refl _ _⟩
  · have hb : (x != -1) = true := by simp [h]
    rw [show decide (x ≠ -1) = true by simp [h]]
    go_enter Tryz.func69, Tryz.ntmps69
    go_wp2_with fail
    go_ret
    exact ⟨rfl, Below.refl _ _⟩
/-- The block of firstOnCycle. -/
structure DSt (w W : World) (N : Nat) (ds : List Int) : Prop where
  below : Below w.heap.size w W
  d : W.heap[N]? = some (.cells (intRow ds) 3 (0, 0))
theorem DSt.set {w W : World} {N : Nat} {ds : List Int} (h : DSt w W N ds) (hN : w.heap.size = N) (i : Nat) (x : Int) : DSt w (W.setCell ⟨N, i, none⟩ (.int .i64 x)) N (ds.set i x) :=
  ⟨h.below.trans ⟨rfl, rfl, rfl, by simp [World.setCell], fun k hk => Below.heap_setCell _ _ _ k (by show k ≠ N; omega)⟩, by rw [← intRow_set]; exact set_of h.d _⟩

set_option maxRecDepth 100000 in
set_option maxHeartbeats 16000000 in
theorem firstOnCycle_any {w : World} {v : Value} {h : List Int} (hv : Rows 1 EInt w v h) (hl : h.length ≤ 1000000) (hin : ∀ x ∈ h, x = -1 ∨ (0 ≤ x ∧ x < h.length)) :
    Calls Tryz.prog 34 #[v] w fun e w' => e = .returned (.int .i64 (findZ (cyc h) (List.range h.length))) ∧ Below w.heap.size w w' := by
  obtain ⟨A, cap, rfl, hc⟩ := hv.form
  obtain ⟨n, hn⟩ : ∃ n, h.length = n := ⟨_, rfl⟩
  have HV := Lib.hid (fun W (hb : Below w.heap.size w W) => hv.below stays_int hb)
  have hat : ∀ t, t < n → h[t]? = some (-1) ∨ ∃ b : Nat, h[t]? = some (b : Int) ∧ b < n := fun t ht => by
    have e := List.getElem?_eq_getElem (l := h) (i := t) (by omega)
    rcases hin _ (List.getElem_mem (l := h) (n := t) (by omega)) with e1 | e1
    · left; rw [e, e1]
    · right
      exact ⟨h[t].toNat, by rw [e]; congr 1; omega, by omega⟩
  rw [hn] at hc hl HV
  have HN := Lib.hid hn
  have HAT := Lib.hid hat
  obtain ⟨i1, hi1, hy0, hy1, hy2⟩ := info_parts' Tryz.infoInt2
  have hmk : ∀ W : World, (Instr.makeSlice 22 (.int .i64 n) (.int .i64 n)).run Tryz.prog W = .ok (.slice (some ⟨W.heap.size, 0, none⟩) n n) (W.alloc (.cells (intRow (List.replicate n 0)) 3)) := fun W => by
    have := run_make (P := Tryz.prog) W 22 3 i1 _ Tryz.underlying22 hi1 hy0 .i64 .i64 n n (by omega) (by omega) (by rw [hy2]; omega) (by omega)
    rw [Int.toNat_natCast, hy1, Nat.mul_one] at this
    rw [← made_int]
    exact this
  obtain ⟨N, hN⟩ : ∃ N, w.heap.size = N := ⟨_, rfl⟩
  obtain ⟨W0, hW0⟩ : ∃ W0, w.alloc (.cells (intRow (List.replicate n 0)) 3) = W0 := ⟨_, rfl⟩
  have hst0 : DSt w W0 N (depL h 0) := by
    have b1 := block_new w (.cells (intRow (List.replicate n 0)) 3)
    rw [hN] at b1
    rw [← hW0, depL_zero, hn]
    exact ⟨below_box w _, b1⟩
  have hcell : ∀ (W : World), Below w.heap.size w W → 0 < n → ∃ bk off, A = some ⟨bk, off, none⟩ ∧ bk < N ∧ ∀ (j : Nat) (x : Int), h[j]? = some x → W.cell? ⟨bk, off + j, none⟩ = some (.int .i64 x) := fun W hb h0 => by
    obtain ⟨bk, off, h1, h3, h2⟩ := at_int (HV.out W hb) (by rw [HN.out]; exact h0)
    obtain ⟨bk', off', h1', h3', _⟩ := at_int (HV.out w (Below.refl _ _)) (by rw [HN.out]; exact h0)
    rw [h1] at h1'
    cases h1'
    exact ⟨bk, off, h1, by omega, h2⟩
  have HST0 := Lib.hid hst0
  have HW0 := Lib.hid hW0
  have HNN := Lib.hid hN
  have HCELL := Lib.hid hcell
  clear hn hv hst0 hW0 hN hcell hin hat
  rw [HN.out]
  go_enter Tryz.func34, Tryz.ntmps34
  go_wp2_with fail
  rw [HW0.out, HNN.out]
  go_loopw [13] (fun sv wr => ∃ s : Nat, s ≤ n ∧ sv = .int .i64 s ∧ Hid (DSt w wr N (depL h s))) (fun sv _ => n - (Go.RowKit.intOf sv).toNat)
  case atStart => exact ⟨0, Nat.zero_le _, rfl, HST0⟩
  case round =>
    clear HST0 HW0 hmk
    obtain ⟨s, hsn, rfl, HS⟩ := hrel
    by_cases hlt : s < n
    · obtain ⟨bk, off, rfl, hbk, hcel⟩ := HCELL.out wr HS.out.below (by omega)
      have hlti : (s : Int) < (n : Int) := by omega
      rcases HAT.out s hlt with ha | ⟨b, ha, hb⟩
      · have u0 := hcel s _ ha
        have HNX := Lib.hid (show DSt w wr N (depL h (s + 1)) by rw [depL_root ha]; exact HS.out)
        clear hcel ha
        go_wp2_with fail
        exact ⟨⟨s + 1, by omega, by go_num, HNX⟩, by simp only [Go.RowKit.intOf]; omega⟩
      · have u0 := hcel s _ ha
        obtain ⟨c, hcc⟩ : ∃ c, (depL h s).getD b 0 = c := ⟨_, rfl⟩
        have hle := depL_le h s b (by rw [HN.out]; exact hb)
        rw [hcc] at hle
        have kw : wr.cell? ⟨N, b, none⟩ = some (.int .i64 c) := by
          rw [← hcc]
          exact cell_of HS.out.d (intRow_get (by rw [depL_len, HN.out]; exact hb))
        have fw : wr.frozen? ⟨N, b, none⟩ = false := frozen_of HS.out.d
        have HNX := Lib.hid (show DSt w (wr.setCell ⟨N, b, none⟩ (.int .i64 (c + 1))) N (depL h (s + 1)) by
          rw [depL_step ha (by rw [HN.out]; exact hb), hcc]
          exact HS.out.set HNN.out b (c + 1))
        have hbi : (b : Int) < (n : Int) := by omega
        have hb1 : ((b : Int) != -1) = true := by simp <;> omega
        have hc64 : IntKind.i64.wrap (c + 1) = c + 1 := by rw [IntKind.wrap_i64]; omega
        clear hcel ha hcc hle
        go_wp2_with fail
        exact ⟨⟨s + 1, by omega, by go_num, HNX⟩, by simp only [Go.RowKit.intOf]; omega⟩
    · obtain rfl : s = n := by omega
      have hR0 : RInv h (depL h s) 0 0 := by
        have := RInv.start h
        rw [HN.out] at this
        exact this
      have HR0 := Lib.hid hR0
      clear hR0
      obtain ⟨wo, rfl⟩ : ∃ wo, wo = wr := ⟨_, rfl⟩
      go_wp2_with fail
      go_loopw [28] (fun sv wr => ∃ (i : Nat) (ds : List Int) (a : Int), i ≤ s ∧ sv = .int .i64 i ∧ Hid (RInv h ds i a) ∧ Hid (∀ j, j < i → ds.getD j 0 ≠ 0) ∧ Hid (DSt w wr N ds)) (fun sv _ => s - (Go.RowKit.intOf sv).toNat)
      case atStart => exact ⟨0, _, _, Nat.zero_le _, rfl, HR0, Lib.hid (fun j hj => absurd hj (by omega)), HS⟩
      case round =>
        clear HR0 HS
        obtain ⟨i, ds, a0, hin, rfl, HR, HZ, HS⟩ := hrel
        by_cases hlt2 : i < s
        · have hlti : (i : Int) < (s : Int) := by omega
          have HR1 := Lib.hid (HR.out.begin HZ.out)
          clear HR HZ
          go_wp2_with fail
          obtain ⟨wo, rfl⟩ : ∃ wo, wo = wr := ⟨_, rfl⟩
          go_loopg [7] (left ds + 1) (fun gg av wr => ∃ (a : Int) (ds' : List Int), av = .int .i64 a ∧ (a = -1 ∨ (0 ≤ a ∧ a < s)) ∧ left ds' ≤ gg ∧ Hid (RInv h ds' (i + 1) a) ∧ Hid (DSt w wr N ds'))
          case atStart => exact ⟨i, ds, rfl, .inr ⟨by omega, hlti⟩, by omega, HR1, HS⟩
          case round =>
            clear HR1 HS
            obtain ⟨a, ds', rfl, har, hgg, HR, HS⟩ := hrel
            by_cases ha1 : a = -1
            · subst ha1
              have HZ2 := Lib.hid (HR.out.next (.inl rfl))
              clear har
              go_wp2_with fail
              exact ⟨⟨i + 1, ds', -1, by omega, by go_num, HR, HZ2, HS⟩, by simp only [Go.RowKit.intOf]; omega⟩
            · obtain ⟨t, rfl⟩ : ∃ t : Nat, a = (t : Int) := ⟨a.toNat, by omega⟩
              have htn : t < s := by omega
              have hti : (t : Int) < (s : Int) := by omega
              have ht1 : ((t : Int) != -1) = true := by simp <;> omega
              have hdl : ds'.length = s := by rw [HR.out.len, HN.out]
              obtain ⟨c, hcc⟩ : ∃ c, ds'.getD t 0 = c := ⟨_, rfl⟩
              have kw : wr.cell? ⟨N, t, none⟩ = some (.int .i64 c) := by
                rw [← hcc]
                exact cell_of HS.out.d (intRow_get (by omega))
              have HC := Lib.hid hcc
              have HDL := Lib.hid hdl
              clear hcc har ha1 hdl
              by_cases hc0 : c = 0
              · subst hc0
                have fw : wr.frozen? ⟨N, t, none⟩ = false := frozen_of HS.out.d
                obtain ⟨bk, off, rfl, hbk, hcel⟩ := HCELL.out wr HS.out.below (by omega)
                have HBK := Lib.hid hbk
                have hk2 : ∀ x, h[t]? = some x → (wr.setCell ⟨N, t, none⟩ (.int .i64 (-1))).cell? ⟨bk, off + t, none⟩ = some (.int .i64 x) := fun x hx => (World.cell?_of_block (Below.heap_setCell wr ⟨N, t, none⟩ _ bk (by show bk ≠ N; omega))).trans (hcel t x hx)
                clear hcel
                rcases HAT.out t htn with hx | ⟨b, hx, hb⟩
                · have u0 := hk2 _ hx
                  have HNX := Lib.hid (HR.out.root (by rw [HN.out]; exact htn) HC.out hx)
                  have hle := left_root (ds := ds') (by rw [HDL.out]; exact htn) HC.out
                  have HLE := Lib.hid hle
                  clear hk2 hx hle hbk
                  go_wp2_with fail
                  go_roundg (left (ds'.set t (-1)))
                  case measure => have := HLE.out; omega
                  case rel => exact ⟨-1, ds'.set t (-1), rfl, .inl rfl, Nat.le_refl _, HNX, Lib.hid (HS.out.set HNN.out t (-1))⟩
                · have u0 := hk2 _ hx
                  obtain ⟨hab, hge, hnx⟩ := HR.out.step (by rw [HN.out]; exact htn) HC.out hx (by rw [HN.out]; exact hb)
                  have hlb := (HR.out.ge (j := b) (by rw [HN.out]; exact hb)).2
                  rw [HN.out] at hlb
                  have hle := left_step (by rw [HDL.out]; exact htn) (by rw [HDL.out]; exact hb) hab HC.out hge
                  obtain ⟨d, hd⟩ : ∃ d, ds'.getD b 0 = d := ⟨_, rfl⟩
                  rw [hd] at hge hnx hle hlb
                  have k3 : (wr.setCell ⟨N, t, none⟩ (.int .i64 (-1))).cell? ⟨N, b, none⟩ = some (.int .i64 d) := by
                    have h3 := (HS.out.set HNN.out t (-1)).d
                    rw [cell_of h3 (intRow_get (by rw [List.length_set, HDL.out]; exact hb)), getD_setI _ _ _ _ (by rw [HDL.out]; exact htn), if_neg (fun e => hab e.symm), hd]
                  have f3 : (wr.setCell ⟨N, t, none⟩ (.int .i64 (-1))).frozen? ⟨N, b, none⟩ = false := frozen_of (HS.out.set HNN.out t (-1)).d
                  have HNX := Lib.hid hnx
                  have HLE := Lib.hid hle
                  have hbi : (b : Int) < (s : Int) := by omega
                  have hb1 : ((b : Int) != -1) = true := by simp <;> omega
                  have hd64 : IntKind.i64.wrap (d - 1) = d - 1 := by rw [IntKind.wrap_i64]; omega
                  have HSS := Lib.hid ((HS.out.set HNN.out t (-1)).set HNN.out b (d - 1))
                  clear hk2 hx hle hnx hd hab hge hlb hbk
                  go_wp2_with fail
                  go_roundg (left ((ds'.set t (-1)).set b (d - 1)))
                  case measure => have := HLE.out; omega
                  case rel => exact ⟨b, (ds'.set t (-1)).set b (d - 1), rfl, .inr ⟨by omega, hbi⟩, Nat.le_refl _, HNX, HSS⟩
              · have hcb : (c == 0) = false := by simp [hc0]
                have HZ2 := Lib.hid (HR.out.next (.inr ⟨t, rfl, by rw [HC.out]; exact hc0⟩))
                clear hc0
                go_wp2_with fail
                exact ⟨⟨i + 1, ds', t, by omega, by go_num, HR, HZ2, HS⟩, by simp only [Go.RowKit.intOf]; omega⟩
        · obtain rfl : i = s := by omega
          have hf := HR.out.find (fun j hj => HZ.out j (by rw [← HN.out]; exact hj))
          rw [HN.out] at hf
          have hrow : Rows 1 EInt wr (.slice (some ⟨N, 0, none⟩) i i) ds := rows_int (by rw [HR.out.len, HN.out]) (Nat.le_refl _) HS.out.d
          have hix := indexFunc_int stays_int hrow (by rw [HR.out.len, HN.out]; unfold maxLen; omega) 69 #[] (fun args w => by kernel_rfl) (fun x => decide (x ≠ -1)) (fun W x u0 _ _ hu => by
            obtain rfl : u0 = .int .i64 x := by
              have : [u0] = [Value.int .i64 x] := hu
              injection this
            exact removed_any x W)
          rw [hf] at hix
          have HIX := Lib.hid hix
          have HB := Lib.hid HS.out.below
          clear hix hrow hf HS HR HZ
          go_wp2_with fail
          refine HIX.out.mono ?_
          rintro e w1 ⟨rfl, hb1⟩
          have HB1 := Lib.hid (HB.out.trans (hb1.mono HB.out.size))
          clear hb1
          go_wp2_with fail
          go_ret
          exact ⟨rfl, HB1.out⟩
end Go.Proofs.YtmjmidgfdjcbfaaGreatDoor.Dep
