/-
  WALKS over package corpus: cycles.
-/
import Derived.Test.YtglafkonpbcegaaGreatQcE
import Derived.Test.YtglafkonpbcegaaGreatQgM
namespace Go.Proofs.YtglafkonpbcegaaGreat
open Go.RowKit Go.Shelf Go.Lib
set_option linter.unusedVariables false

def boolRow (l : List Bool) : Array Value := (l.map Value.bool).toArray
def natRow (l : List Nat) : Array Value := (l.map fun (n : Nat) => Value.int .i64 (n : Int)).toArray
theorem boolRow_get {l : List Bool} {i : Nat} (h : i < l.length) : (boolRow l)[i]? = some (.bool (l.getD i false)) := by
  simp [boolRow, h]
theorem natRow_get {l : List Nat} {i : Nat} (h : i < l.length) : (natRow l)[i]? = some (.int .i64 ((l.getD i 0 : Nat) : Int)) := by
  simp [natRow, h]
theorem boolRow_set (l : List Bool) (i : Nat) (b : Bool) : (boolRow l).setIfInBounds i (.bool b) = boolRow (l.set i b) := by
  simp [boolRow, List.map_set]
theorem natRow_set (l : List Nat) (i : Nat) (n : Nat) : (natRow l).setIfInBounds i (.int .i64 (n : Int)) = natRow (l.set i n) := by
  simp [natRow, List.map_set]
theorem made_bool (n : Nat) : madeCells #[.bool false] n = boolRow (List.replicate n false) := by
  apply Array.ext'
  simp [madeCells, boolRow, List.map_replicate]
  apply List.ext_getElem?
  intro i
  by_cases h : i < n
  · simp [h, Nat.mod_one]
  · simp [h]
theorem made_nat (n : Nat) : madeCells #[.int .i64 0] n = natRow (List.replicate n 0) := by
  apply Array.ext'
  simp [madeCells, natRow, List.map_replicate]
  apply List.ext_getElem?
  intro i
  by_cases h : i < n
  · simp [h, Nat.mod_one]
  · simp [h]
theorem Tryz.infoBool : (Tryz.prog.info? 4).map (fun i => (i.zero, i.size, i.bytes)) = some (some (.bool false), 1, 1) := by kernel_rfl
theorem Tryz.infoInt2 : (Tryz.prog.info? 3).map (fun i => (i.zero, i.size, i.bytes)) = some (some (.int .i64 0), 1, 8) := by kernel_rfl

set_option maxHeartbeats 1000000 in
theorem isToken_any (a : Int) (A : Option Addr) (n cap B : Nat) (W : World) (hB : W.cell? ⟨B, 0, none⟩ = some (.slice A n cap)) :
    Calls Tryz.prog 157 (#[.int .i64 a] ++ #[.pointer (some ⟨B, 0, none⟩)]) W fun e w' => e = .returned (.bool (decide (0 ≤ a) && decide (a < (n : Int)))) ∧ w' = W := by
  by_cases h : 0 ≤ a
  · have hd : decide (0 ≤ a) = true := by simp [h]
    rw [hd, Bool.true_and]
    go_enter Tryz.func157, Tryz.ntmps157
    go_wp2_with fail
    go_ret
    exact ⟨rfl, rfl⟩
  · have hd : decide (0 ≤ a) = false := by simp; omega
    rw [hd, Bool.false_and]
    go_enter Tryz.func157, Tryz.ntmps157
    go_wp2_with fail
    go_ret
    exact ⟨rfl, rfl⟩
theorem WInv.cyc {h : List Int} {s p a0 : Nat} {ws ws' : List Nat} (hI : WInv h s ws ws' p (a0 : Int)) (ha0 : a0 < h.length) (hw : ws'.getD a0 0 = s + 1) : cycP h a0 := by
  obtain ⟨j0, hj0, hit0⟩ := hI.new a0 hw
  have hp := hI.here ha0
  refine ⟨p - j0, by omega, ?_⟩
  have e := itN_add h j0 (p - j0) s
  rw [show j0 + (p - j0) = p by omega, hp, hit0] at e
  exact e.symm
theorem MInv.on {h : List Int} {cy cy' : List Bool} {a0 q a : Nat} (hM : MInv h cy cy' a0 q a) (hc : cycP h a0) : a < h.length ∧ ∃ b : Nat, stN h a = some b ∧ h[a]? = some (b : Int) ∧ b < h.length := by
  obtain ⟨t, ht, _⟩ := cyc_total hc (q + 1)
  rw [itN_snoc hM.here] at ht
  obtain ⟨h1, h2, h3⟩ := stN_lt ht
  exact ⟨h1, t, ht, h3, h2⟩
theorem getD_count {α : Type} [BEq α] {l : List α} {i : Nat} {d : α} (hi : i < l.length) : l[i]? = some (l.getD i d) := by simp [hi]
theorem hv_lt {w : World} {bk off n cap : Nat} {h : List Int} (hV : ∀ W, Below w.heap.size w W → Rows 1 EInt W (.slice (some ⟨bk, off, none⟩) n cap) h) (W : World) (hb : Below w.heap.size w W) (h0 : 0 < h.length) : bk < w.heap.size := by
  obtain ⟨b, o, e, hl, _⟩ := (hV w (Below.refl _ _)).at' h0
  cases e
  exact hl
/-- The three blocks of cycles. -/
structure CSt (w W : World) (N : Nat) (hv : Value) (ws : List Nat) (cy : List Bool) : Prop where
  below : Below w.heap.size w W
  hd : W.heap[N]? = some (.cells #[hv] 27 (0, 0))
  c : W.heap[N + 1]? = some (.cells (boolRow cy) 4 (0, 0))
  wk : W.heap[N + 2]? = some (.cells (natRow ws) 3 (0, 0))
theorem CSt.setW {w W : World} {N : Nat} {hv : Value} {ws : List Nat} {cy : List Bool} (h : CSt w W N hv ws cy) (hN : w.heap.size = N) (i n : Nat) : CSt w (W.setCell ⟨N + 2, i, none⟩ (.int .i64 (n : Int))) N hv (ws.set i n) cy :=
  ⟨h.below.trans ⟨rfl, rfl, rfl, by simp [World.setCell], fun k hk => Below.heap_setCell _ _ _ k (by show k ≠ N + 2; omega)⟩, block_other _ h.hd (by omega), block_other _ h.c (by omega), by rw [← natRow_set]; exact set_of h.wk _⟩
theorem CSt.setC {w W : World} {N : Nat} {hv : Value} {ws : List Nat} {cy : List Bool} (h : CSt w W N hv ws cy) (hN : w.heap.size = N) (i : Nat) (b : Bool) : CSt w (W.setCell ⟨N + 1, i, none⟩ (.bool b)) N hv ws (cy.set i b) :=
  ⟨h.below.trans ⟨rfl, rfl, rfl, by simp [World.setCell], fun k hk => Below.heap_setCell _ _ _ k (by show k ≠ N + 1; omega)⟩, block_other _ h.hd (by omega), by rw [← boolRow_set]; exact set_of h.c _, block_other _ h.wk (by omega)⟩

set_option maxRecDepth 100000 in
set_option maxHeartbeats 16000000 in
theorem cycles_any {w : World} {v : Value} {h : List Int} (hv : Rows 1 EInt w v h) (hl : h.length ≤ 1000000) :
    Calls Tryz.prog 136 #[v] w fun e w' => (∃ A cap, e = .returned (.slice A h.length cap) ∧ h.length ≤ cap ∧ (0 < h.length → ∃ b, A = some ⟨b, 0, none⟩ ∧ w.heap.size ≤ b ∧ w'.heap[b]? = some (.cells (boolRow ((List.range h.length).map fun (i : Nat) => cyc h (i : Int))) 4 (0, 0)))) ∧ Below w.heap.size w w' := by
  obtain ⟨A, cap, rfl, hc⟩ := hv.form
  obtain ⟨n, hn⟩ : ∃ n, h.length = n := ⟨_, rfl⟩
  have HV := Lib.hid (fun W (hb : Below w.heap.size w W) => hv.below stays_int hb)
  rw [hn] at hc hl HV ⊢
  have HN := Lib.hid hn
  obtain ⟨i0, hi0, hz0, hz1, hz2⟩ := info_parts' Tryz.infoBool
  obtain ⟨i1, hi1, hy0, hy1, hy2⟩ := info_parts' Tryz.infoInt2
  have hmk1 : ∀ W : World, (Instr.makeSlice 56 (.int .i64 n) (.int .i64 n)).run Tryz.prog W = .ok (.slice (some ⟨W.heap.size, 0, none⟩) n n) (W.alloc (.cells (boolRow (List.replicate n false)) 4)) := fun W => by
    have := run_make (P := Tryz.prog) W 56 4 i0 _ Tryz.underlying56 hi0 hz0 .i64 .i64 n n (by omega) (by omega) (by rw [hz2]; omega) (by omega)
    rw [Int.toNat_natCast, hz1, Nat.mul_one] at this
    rw [← made_bool]
    exact this
  have hmk2 : ∀ W : World, (Instr.makeSlice 27 (.int .i64 n) (.int .i64 n)).run Tryz.prog W = .ok (.slice (some ⟨W.heap.size, 0, none⟩) n n) (W.alloc (.cells (natRow (List.replicate n 0)) 3)) := fun W => by
    have := run_make (P := Tryz.prog) W 27 3 i1 _ Tryz.underlying27 hi1 hy0 .i64 .i64 n n (by omega) (by omega) (by rw [hy2]; omega) (by omega)
    rw [Int.toNat_natCast, hy1, Nat.mul_one] at this
    rw [← made_nat]
    exact this
  have hz3 : (Value.bool false).cells = #[Value.bool false] := rfl
  obtain ⟨N, hN⟩ : ∃ N, w.heap.size = N := ⟨_, rfl⟩
  obtain ⟨W0, hW0⟩ : ∃ W0, ((w.alloc (.cells #[.slice A n cap] 27)).alloc (.cells (boolRow (List.replicate n false)) 4)).alloc (.cells (natRow (List.replicate n 0)) 3) = W0 := ⟨_, rfl⟩
  have hst0 : CSt w W0 N (.slice A n cap) (List.replicate n 0) (List.replicate n false) := by
    have b1 := block_new w (.cells #[.slice A n cap] 27)
    have b2 := block_new (w.alloc (.cells #[.slice A n cap] 27)) (.cells (boolRow (List.replicate n false)) 4)
    have b3 := block_new ((w.alloc (.cells #[.slice A n cap] 27)).alloc (.cells (boolRow (List.replicate n false)) 4)) (.cells (natRow (List.replicate n 0)) 3)
    rw [alloc_sz] at b2
    rw [alloc_sz, alloc_sz] at b3
    rw [hN] at b1 b2 b3
    rw [← hW0]
    exact ⟨((below_box w _).trans ((below_box _ _).mono (by simp))).trans ((below_box _ _).mono (by simp <;> omega)), block_alloc _ (block_alloc _ b1), block_alloc _ b2, b3⟩
  have hc0 := CInv.start h
  rw [hn] at hc0
  have HST0 := Lib.hid hst0
  have HC0 := Lib.hid hc0
  have HW0 := Lib.hid hW0
  have HNN := Lib.hid hN
  have HSTEP := Lib.hid (fun (i : Nat) (hi : i < n) => show ∃ a, h[i]? = some a from ⟨_, List.getElem?_eq_getElem (by omega)⟩)
  have hcell : ∀ (W : World), Below w.heap.size w W → 0 < n → ∃ bk off, A = some ⟨bk, off, none⟩ ∧ ∀ (j : Nat) (x : Int), h[j]? = some x → W.cell? ⟨bk, off + j, none⟩ = some (.int .i64 x) := fun W hb h0 => by
    obtain ⟨bk, off, h1, _, h2⟩ := at_int (HV.out W hb) (by rw [HN.out]; exact h0)
    exact ⟨bk, off, h1, h2⟩
  have HCELL := Lib.hid hcell
  clear hn hv hst0 hc0 hW0 hN hcell
  go_enter Tryz.func136, Tryz.ntmps136
  go_wp2_with fail
  rw [HW0.out, HNN.out]
  try rw [show N + 1 + 1 = N + 2 from rfl]
  have hN := HNN.out
  go_loopw [18] (fun sv wr => ∃ (s : Nat) (ws : List Nat) (cy : List Bool), s ≤ n ∧ sv = .int .i64 s ∧ Hid (CInv h s ws cy) ∧ Hid (CSt w wr N (.slice A n cap) ws cy)) (fun sv _ => n - (Go.RowKit.intOf sv).toNat)
  case atStart => exact ⟨0, _, _, Nat.zero_le _, rfl, HC0, HST0⟩
  case round =>
    clear HC0 HST0 HW0 hmk1 hmk2
    obtain ⟨s, ws, cy, hsn, rfl, HC, HS⟩ := hrel
    by_cases hlt : s < n
    · obtain ⟨bk, off, rfl, hcel⟩ := HCELL.out wr HS.out.below (by omega)
      clear hcel
      have hlti : (s : Int) < (n : Int) := by omega
      have hs64 : IntKind.i64.wrap ((s : Int) + 1) = (s : Int) + 1 := by rw [IntKind.wrap_i64]; omega
      go_wp2_with fail
      obtain ⟨wo, rfl⟩ : ∃ wo, wo = wr := ⟨_, rfl⟩
      go_loopg [8] ((ws.countP (· == 0)) + 1) (fun gg av wr => ∃ (p : Nat) (a : Int) (ws' : List Nat), av = .int .i64 a ∧ ws'.countP (· == 0) ≤ gg ∧ Hid (WInv h s ws ws' p a) ∧ Hid (CSt w wr N (.slice (some ⟨bk, off, none⟩) n cap) ws' cy))
      case atStart => exact ⟨0, s, ws, rfl, by omega, Lib.hid (WInv.start HC.out.wl HC.out.le), HS⟩
      case round =>
        obtain ⟨p, a, ws', rfl, hgg, HI, HSS⟩ := hrel
        have h0c : wr.cell? ⟨N, 0, none⟩ = some (.slice (some ⟨bk, off, none⟩) n cap) := cell_of HSS.out.hd rfl
        have HT := Lib.hid (isToken_any a (some ⟨bk, off, none⟩) n cap N wr h0c)
        by_cases hr : 0 ≤ a ∧ a < n
        · obtain ⟨i, rfl⟩ : ∃ i : Nat, a = (i : Int) := ⟨a.toNat, by omega⟩
          have hin : i < n := by omega
          have htok : (decide (0 ≤ (i : Int)) && decide ((i : Int) < (n : Int))) = true := by simp [hin]
          rw [htok] at HT
          clear htok
          have hwl : ws'.length = n := by rw [HI.out.len, HN.out]
          have kw : wr.cell? ⟨N + 2, i, none⟩ = some (.int .i64 ((ws'.getD i 0 : Nat) : Int)) := cell_of HSS.out.wk (natRow_get (by omega))
          have fw : wr.frozen? ⟨N + 2, i, none⟩ = false := frozen_of HSS.out.wk
          obtain ⟨a2, ha2⟩ := HSTEP.out i hin
          obtain ⟨_, _, he, hcel⟩ := HCELL.out wr HSS.out.below (by omega)
          cases he
          have kh := hcel i a2 ha2
          obtain ⟨u, hu⟩ : ∃ u, ws'.getD i 0 = u := ⟨_, rfl⟩
          rw [hu] at kw
          have hii : (i : Int) < (n : Int) := by omega
          have HU := Lib.hid hu
          have HA2 := Lib.hid ha2
          have HWL := Lib.hid hwl
          clear hu hcel ha2 hr hwl
          by_cases hu0 : u = 0
          · subst hu0
            have hbN : bk < N := by
              have h1 := hv_lt HV.out wr HSS.out.below (by rw [HN.out]; omega)
              rw [HNN.out] at h1
              exact h1
            have kh2 : (wr.setCell ⟨N + 2, i, none⟩ (.int .i64 ((s : Int) + 1))).cell? ⟨bk, off + i, none⟩ = some (.int .i64 a2) := (World.cell?_of_block (Below.heap_setCell wr ⟨N + 2, i, none⟩ _ bk (by show bk ≠ N + 2; omega))).trans kh
            have h0c2 : (wr.setCell ⟨N + 2, i, none⟩ (.int .i64 ((s : Int) + 1))).cell? ⟨N, 0, none⟩ = some (.slice (some ⟨bk, off, none⟩) n cap) := (World.cell?_of_block (Below.heap_setCell wr ⟨N + 2, i, none⟩ _ N (by show N ≠ N + 2; omega))).trans h0c
            clear hbN
            go_wp2_with fail
            refine HT.out.mono ?_
            rintro e w1 ⟨rfl, rfl⟩
            go_wp2_with fail
            go_roundg ((ws'.set i (s + 1)).countP (· == 0))
            case measure =>
              have := count_set (· == 0) (s + 1) (by simp) ws' i 0 (by rw [getD_count (d := 0) (by rw [HWL.out]; exact hin), HU.out]) (by simp)
              omega
            case rel =>
              exact ⟨p + 1, a2, ws'.set i (s + 1), rfl, Nat.le_refl _, Lib.hid (HI.out.step (by rw [HN.out]; exact hin) HU.out HA2.out), Lib.hid (HSS.out.setW HNN.out i (s + 1))⟩
          · have hu1 : ((u : Int) == 0) = false := by simp [hu0]
            have hN2 := HU.out
            clear kh
            by_cases hus : u = s + 1
            · subst hus
              have e2 : (((s + 1 : Nat) : Int)) = (s : Int) + 1 := by omega
              rw [e2] at kw hu1
              clear e2 hN2
              go_wp2_with fail
              refine HT.out.mono ?_
              rintro e w1 ⟨rfl, rfl⟩
              go_wp2_with fail
              refine HT.out.mono ?_
              rintro e w1 ⟨rfl, rfl⟩
              go_wp2_with fail
              have HCY := Lib.hid (HI.out.cyc (by rw [HN.out]; exact hin) HU.out)
              clear kw fw h0c
              obtain ⟨wo2, rfl⟩ : ∃ wo2, wo2 = w1 := ⟨_, rfl⟩
              go_loopg [8] (cy.countP (· == false) + 1) (fun gg av wr => ∃ (q a : Nat) (cy' : List Bool), av = .int .i64 a ∧ cy'.countP (· == false) ≤ gg ∧ Hid (MInv h cy cy' i q a) ∧ Hid (CSt w wr N (.slice (some ⟨bk, off, none⟩) n cap) ws' cy'))
              case atStart => exact ⟨0, i, cy, rfl, by omega, Lib.hid (MInv.start HC.out.cl i), HSS⟩
              case round =>
                obtain ⟨q, a, cy', rfl, hgg2, HM, HS3⟩ := hrel
                obtain ⟨hal, b, hsb, hab, hbl⟩ := HM.out.on HCY.out
                rw [HN.out] at hal hbl
                have hcl : cy'.length = n := by rw [HM.out.len, HN.out]
                have kc : wr.cell? ⟨N + 1, a, none⟩ = some (.bool (cy'.getD a false)) := cell_of HS3.out.c (boolRow_get (by omega))
                have fc : wr.frozen? ⟨N + 1, a, none⟩ = false := frozen_of HS3.out.c
                have hai : (a : Int) < (n : Int) := by omega
                obtain ⟨t, ht⟩ : ∃ t, cy'.getD a false = t := ⟨_, rfl⟩
                rw [ht] at kc
                have HTT := Lib.hid ht
                have HSB := Lib.hid hsb
                have HCL := Lib.hid hcl
                have HAL := Lib.hid hal
                cases t with
                | false =>
                  obtain ⟨_, _, he, hcel⟩ := HCELL.out wr HS3.out.below (by omega)
                  cases he
                  have kh := hcel a b hab
                  have hbN : bk < N := by
                    have h1 := hv_lt HV.out wr HS3.out.below (by rw [HN.out]; omega)
                    rw [HNN.out] at h1
                    exact h1
                  have kh2 : (wr.setCell ⟨N + 1, a, none⟩ (.bool true)).cell? ⟨bk, off + a, none⟩ = some (.int .i64 (b : Int)) := (World.cell?_of_block (Below.heap_setCell wr ⟨N + 1, a, none⟩ _ bk (by show bk ≠ N + 1; omega))).trans kh
                  have h0c2 : (wr.setCell ⟨N + 1, a, none⟩ (.bool true)).cell? ⟨N, 0, none⟩ = some (.slice (some ⟨bk, off, none⟩) n cap) := (World.cell?_of_block (Below.heap_setCell wr ⟨N + 1, a, none⟩ _ N (by show N ≠ N + 1; omega))).trans (cell_of HS3.out.hd rfl)
                  clear hbN hcel kh hab ht hsb hcl hal hbl
                  go_wp2_with fail
                  go_roundg ((cy'.set a true).countP (· == false))
                  case measure =>
                    have := count_set (· == false) true (by simp) cy' a false (by rw [getD_count (d := false) (by rw [HCL.out]; exact HAL.out), HTT.out]) (by simp)
                    omega
                  case rel =>
                    exact ⟨q + 1, b, cy'.set a true, rfl, Nat.le_refl _, Lib.hid (HM.out.step (by rw [HN.out]; exact HAL.out) HSB.out), Lib.hid (HS3.out.setC HNN.out a true)⟩
                | true =>
                  have HNEXT := Lib.hid (HC.out.round HI.out (by rw [HN.out]; exact hlt) (by rw [HN.out]; exact hin) HU.out HM.out HTT.out)
                  clear hab ht hsb hcl hal hbl
                  go_wp2_with fail
                  exact ⟨⟨s + 1, ws', cy', by omega, by go_num, HNEXT, HS3⟩, by simp only [Go.RowKit.intOf]; omega⟩
            · have HNEXT := Lib.hid (HC.out.over HI.out (by rw [HN.out]; exact hlt) (.inr ⟨i, rfl, by rw [HN.out]; exact hin, by rw [HU.out]; exact hu0, by rw [HU.out]; exact hus⟩))
              have hus1 : ((u : Int) != (s : Int) + 1) = true := by simp; omega
              clear hus hN2
              go_wp2_with fail
              refine HT.out.mono ?_
              rintro e w1 ⟨rfl, rfl⟩
              go_wp2_with fail
              refine HT.out.mono ?_
              rintro e w1 ⟨rfl, rfl⟩
              go_wp2_with fail
              exact ⟨⟨s + 1, ws', cy, by omega, by go_num, HNEXT, HSS⟩, by simp only [Go.RowKit.intOf]; omega⟩
        · have htok : (decide (0 ≤ a) && decide (a < (n : Int))) = false := by
            rw [Bool.and_eq_false_iff]
            by_cases h0 : 0 ≤ a
            · right; simp; omega
            · left; simp; omega
          rw [htok] at HT
          have HNEXT := Lib.hid (HC.out.over HI.out (by rw [HN.out]; exact hlt) (.inl (by rw [HN.out]; exact hr)))
          clear htok hr
          go_wp2_with fail
          refine HT.out.mono ?_
          rintro e w1 ⟨rfl, rfl⟩
          go_wp2_with fail
          refine HT.out.mono ?_
          rintro e w1 ⟨rfl, rfl⟩
          go_wp2_with fail
          exact ⟨⟨s + 1, ws', cy, by omega, by go_num, HNEXT, HSS⟩, by simp only [Go.RowKit.intOf]; omega⟩
    · obtain rfl : s = n := by omega
      have hcy : cy = (List.range s).map fun (i : Nat) => cyc h (i : Int) := by
        have hc := HC.out
        rw [← HN.out] at hc
        have := hc.fin
        rw [HN.out] at this
        exact this
      have HCY := Lib.hid hcy
      clear hcy
      go_wp2_with fail
      go_ret
      refine ⟨⟨_, _, rfl, Nat.le_refl _, fun _ => ⟨_, rfl, ?_, ?_⟩⟩, HS.out.below⟩
      · rw [HNN.out]; omega
      · rw [← HCY.out]; exact HS.out.c
end Go.Proofs.YtglafkonpbcegaaGreat
