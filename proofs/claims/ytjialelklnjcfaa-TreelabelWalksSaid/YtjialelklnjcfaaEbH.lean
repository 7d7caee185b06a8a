/-
  WALKS over package treelabel, eighth part: rebuild.
-/
import Derived.Test.YtjialelklnjcfaaEbG
namespace Go.Proofs.Ytjialelklnjcfaa
open Go.RowKit Go.Shelf Go.Lib
set_option linter.unusedVariables false
set_option linter.unusedSimpArgs false

def ordI (n i : Nat) : List Int := (List.range n).map fun (j : Nat) => if j < i then (j : Int) else 0
theorem ordI_len (n i : Nat) : (ordI n i).length = n := by simp [ordI]
theorem ordI_zero (n : Nat) : ordI n 0 = List.replicate n 0 := by
  apply List.ext_getElem?
  intro j
  unfold ordI
  rw [List.getElem?_map, List.getElem?_replicate]
  by_cases h : j < n
  · rw [List.getElem?_range h, if_pos h]; simp
  · rw [List.getElem?_eq_none (by simp; omega), if_neg h]; rfl
theorem ordI_step {n i : Nat} (hi : i < n) : (ordI n i).set i (i : Int) = ordI n (i + 1) := by
  apply List.ext_getElem?
  intro j
  rw [List.getElem?_set, ordI_len]
  unfold ordI
  rw [List.getElem?_map, List.getElem?_map]
  by_cases e : i = j
  · subst e
    rw [if_pos rfl, if_pos hi, List.getElem?_range hi]
    simp
  · rw [if_neg e]
    by_cases h : j < n
    · rw [List.getElem?_range h]
      simp only [Option.map_some]
      by_cases h2 : j < i
      · rw [if_pos h2, if_pos (by omega)]
      · rw [if_neg h2, if_neg (by omega)]
    · rw [List.getElem?_eq_none (by simp; omega)]; rfl
theorem ordI_full (n : Nat) : ordI n n = (List.range n).map fun (j : Nat) => (j : Int) := by
  unfold ordI
  apply List.map_congr_left
  intro j hj
  rw [if_pos (List.mem_range.1 hj)]
theorem own_cut {w : World} {base : Nat} {A : Option Addr} {n cap k : Nat} {l : List Int} (h : w.ownsRow base 3 1 (.slice A n cap) n (l.map fun x => Value.int .i64 x)) (h0 : 0 < k) (hk : k ≤ n) : w.ownsRow base 3 1 (.slice A k cap) k ((l.take k).map fun x => Value.int .i64 x) := by
  obtain ⟨hl, h2⟩ := h
  rw [List.length_map] at hl
  refine ⟨by rw [List.length_map, List.length_take]; omega, ?_⟩
  rcases h2 with ⟨e, e0⟩ | ⟨g, c, cur, e, hb, hh, hc, hm, hs, ht⟩
  · omega
  · cases e
    refine .inr ⟨g, cap, cur, rfl, hb, hh, by omega, hm, hs, ?_⟩
    rw [Nat.mul_one] at ht ⊢
    rw [List.map_take, ← ht, List.take_take, Nat.min_eq_left hk]
theorem sliceJ_to (A : Option Addr) (n cap k : Nat) (hk : k ≤ n) (hn : n ≤ cap) (w : World) : (Instr.slice 22 (.slice A n cap) none (some (.int .i64 (k : Int))) none).run Try.prog w = .ok (.slice A k cap) w := by
  rw [run_slice_h w 22 _ _ _ (by kernel_rfl) .i64 k (by omega) (by omega)]
  have hz1 : (sizeOf (Try.prog.elem 22)).run Try.prog w = .ok 1 w := by kernel_rfl
  rw [hz1]
  cases A with
  | none => simp [Result.andThen, sliced]
  | some ad =>
    have h0 : ad.add 0 = ad := by simp [Addr.add]
    simp [Result.andThen, sliced, h0]
theorem own_new1 (W : World) (base : Nat) (hb : base ≤ W.heap.size) (x : Int) : (W.alloc (.cells #[.int .i64 x] 3)).ownsRow base 3 1 (.slice (some ⟨W.heap.size, 0, none⟩) 1 1) 1 ([x].map fun x => Value.int .i64 x) :=
  ⟨rfl, .inr ⟨W.heap.size, 1, _, rfl, hb, block_new W _, Nat.le_refl _, by unfold maxLen; omega, rfl, rfl⟩⟩
/-- rebuild's second loop: the parents' block bp, above in a row of its own. -/
structure RbS (w2 W : World) (bp : Nat) (ps ab : List Int) (va : Value) : Prop where
  below : Below bp w2 W
  p : W.heap[bp]? = some (.cells (intRow ps) 3 (0, 0))
  own : W.ownsRow (bp + 1) 3 1 va ab.length (ab.map fun x => Value.int .i64 x)
theorem RbS.store {w2 W : World} {bp : Nat} {ps ab : List Int} {va : Value} (h : RbS w2 W bp ps ab va) (i : Nat) (x : Int) : RbS w2 (W.setCell ⟨bp, i, none⟩ (.int .i64 x)) bp (ps.set i x) ab va := by
  refine ⟨h.below.setCell (p := ⟨bp, i, none⟩) (Nat.le_refl _) _, ?_, own_below h.own fun k hk => Below.heap_setCell W ⟨bp, i, none⟩ _ k (by have := (own_low h.own k hk).1; show k ≠ bp; omega)⟩
  rw [← intRow_set]
  exact set_of h.p _
theorem scan_in {L : List Lb} {ps ab : List Int} {i : Nat} {r : List Nat} {d : Nat} (hd : (L.getD i (0, 0, 0)).2.2 = (d : Int)) (hl : d < ab.length) : scanL L (i :: r) ps ab = scanL L r (ps.set i (ab.getD d 0)) (ab.take (d + 1) ++ [(i : Int)]) := by
  show (if _ then none else _) = _
  rw [hd, if_neg (by omega), Int.toNat_natCast]
theorem scan_out {L : List Lb} {ps ab : List Int} {i : Nat} {r : List Nat} (hd : (L.getD i (0, 0, 0)).2.2 < 0 ∨ (ab.length : Int) ≤ (L.getD i (0, 0, 0)).2.2) : scanL L (i :: r) ps ab = none := by
  show (if _ then none else _) = _
  rw [if_pos hd]
theorem scan_len {L : List Lb} : ∀ (r : List Nat) (ps ab : List Int) (q : List Int), scanL L r ps ab = some q → q.length = ps.length
  | [], ps, ab, q, h => by cases h; rfl
  | i :: r, ps, ab, q, h => by
    have h : (if _ then none else _) = some q := h
    split at h
    · cases h
    · rw [scan_len r _ _ q h, List.length_set]

/-- What rebuild hands back. -/
def RbPost (L : List Lb) (n : Nat) (w : World) (e : Ending) (w' : World) : Prop :=
  (∃ (ord : List Nat) (vr : Value), ord.Perm (List.range n) ∧ ord.Pairwise (fun i j => (L.getD i (0, 0, 0)).1 ≤ (L.getD j (0, 0, 0)).1) ∧
      e = .returned (.tuple #[vr, .bool (scanL L ord (List.replicate n 0) [-1]).isSome]) ∧ Rows 1 EInt w' vr ((scanL L ord (List.replicate n 0) [-1]).getD [])) ∧ Below w.heap.size w w'
set_option maxRecDepth 100000 in
set_option maxHeartbeats 8000000 in
theorem rebuild_any {w : World} {v : Value} {L : List Lb} (hv : Rows 3 ELb w v L) {n : Nat} (hn : L.length = n) (hn4 : n ≤ 4096) :
    Calls Try.prog 35 #[v] w (RbPost L n w) := by
  have HV := Lib.hid (fun W (hb : Below w.heap.size w W) => hv.below stays_lb hb)
  obtain ⟨A, cap, rfl, hc⟩ := hv.form
  have hA : ∀ b off, A = some ⟨b, off, none⟩ → 0 < n → b < w.heap.size := fun b off e h0 => by
    obtain ⟨b', off', e', hbl, _⟩ := at_lb hv (by omega)
    rw [e] at e'
    cases e'
    exact hbl
  rw [hn] at hc HV
  rw [hn]
  have HA := Lib.hid hA
  obtain ⟨i1, hi1, hy0, hy1, hy2⟩ := info_parts' Try.infoInt2
  have hmk : ∀ W : World, (Instr.makeSlice 22 (.int .i64 n) (.int .i64 n)).run Try.prog W = .ok (.slice (some ⟨W.heap.size, 0, none⟩) n n) (W.alloc (.cells (intRow (List.replicate n 0)) 3)) := fun W => by
    have := run_make (P := Try.prog) W 22 3 i1 _ Try.underlying22 hi1 hy0 .i64 .i64 n n (by omega) (by omega) (by rw [hy2]; omega) (by omega)
    rw [Int.toNat_natCast, hy1, Nat.mul_one] at this
    rw [← made_int]
    exact this
  obtain ⟨N0, hN0⟩ : ∃ N, w.heap.size = N := ⟨_, rfl⟩
  have HN0 := Lib.hid hN0
  have HN := Lib.hid hn
  -- the box of labels, the order's row
  obtain ⟨X0, hX0⟩ : ∃ X, w.alloc (.cells #[.slice A n cap] 23) = X := ⟨_, rfl⟩
  have hb0 := block_new w (.cells #[.slice A n cap] 23)
  have hs0 : X0.heap.size = N0 + 1 := by rw [← hX0, alloc_sz, hN0]
  have hbe0 : Below N0 w X0 := by rw [← hX0, ← hN0]; exact below_box _ _
  rw [hX0, hN0] at hb0
  obtain ⟨X1, hX1⟩ : ∃ X, X0.alloc (.cells (intRow (List.replicate n 0)) 3) = X := ⟨_, rfl⟩
  have hb1 := block_new X0 (.cells (intRow (List.replicate n 0)) 3)
  have hs1 : X1.heap.size = N0 + 2 := by rw [← hX1, alloc_sz, hs0]
  have hbe1 : Below N0 w X1 := by rw [← hX1]; exact hbe0.alloc (by omega) _
  have hb01 : X1.heap[N0]? = some (.cells #[.slice A n cap] 23 (0, 0)) := by rw [← hX1]; exact block_alloc _ hb0
  rw [hX1, hs0, ← ordI_zero] at hb1
  have HX0 := Lib.hid hX0
  have HX1 := Lib.hid hX1
  have HS0 := Lib.hid hs0
  have HS1 := Lib.hid hs1
  have HR0 := Lib.hid (show Below N0 w X1 ∧ X1.heap[N0]? = some (.cells #[.slice A n cap] 23 (0, 0)) ∧ X1.heap[N0 + 1]? = some (.cells (intRow (ordI n 0)) 3 (0, 0)) ∧ X1.heap.size = N0 + 2 from ⟨hbe1, hb01, hb1, hs1⟩)
  have c0 := cell_of (i := 0) hb0 rfl
  clear hb0 hb1 hb01 hbe0 hbe1 hX0 hX1 hN0 hs0 hs1 hi1 hy0 hy1 hy2 hn hA hv
  go_enter Try.func35, Try.ntmps35
  go_wp2_with fail
  rw [HX0.out, HX1.out, HN0.out]
  have HMK := Lib.hid hmk
  clear c0 hmk
  go_loopw [16] (fun kv wr => ∃ k : Nat, k ≤ n ∧ kv = .int .i64 k ∧ Hid (Below N0 w wr ∧ wr.heap[N0]? = some (.cells #[.slice A n cap] 23 (0, 0)) ∧ wr.heap[N0 + 1]? = some (.cells (intRow (ordI n k)) 3 (0, 0)) ∧ wr.heap.size = N0 + 2)) (fun kv _ => n - (Go.RowKit.intOf kv).toNat)
  case atStart => exact ⟨0, Nat.zero_le _, rfl, HR0⟩
  case round =>
    clear HR0 HX0 HX1 HS0 HS1
    obtain ⟨k, hk, rfl, HR⟩ := hrel
    by_cases hlt : k < n
    · have hki : (k : Int) < (n : Int) := by omega
      obtain ⟨r1, r2, r3, r4⟩ := HR.out
      have kc := cell_of (i := k) r3 (intRow_get (by rw [ordI_len]; exact hlt))
      have kf : wr.frozen? ⟨N0 + 1, k, none⟩ = false := frozen_of r3
      have HR2 := Lib.hid (show Below N0 w (wr.setCell ⟨N0 + 1, k, none⟩ (.int .i64 (k : Int))) ∧ (wr.setCell ⟨N0 + 1, k, none⟩ (.int .i64 (k : Int))).heap[N0]? = some (.cells #[.slice A n cap] 23 (0, 0)) ∧ (wr.setCell ⟨N0 + 1, k, none⟩ (.int .i64 (k : Int))).heap[N0 + 1]? = some (.cells (intRow (ordI n (k + 1))) 3 (0, 0)) ∧ (wr.setCell ⟨N0 + 1, k, none⟩ (.int .i64 (k : Int))).heap.size = N0 + 2 from
        ⟨r1.setCell (p := ⟨N0 + 1, k, none⟩) (by show N0 ≤ N0 + 1; omega) _, (Below.heap_setCell wr ⟨N0 + 1, k, none⟩ _ N0 (by show N0 ≠ N0 + 1; omega)).trans r2, by rw [← ordI_step hlt, ← intRow_set]; exact set_of r3 _, by rw [← r4]; simp [World.setCell]⟩)
      clear r1 r2 r3 r4 HR
      go_wp2_with fail
      exact ⟨⟨k + 1, by omega, by go_num, HR2⟩, by simp only [Go.RowKit.intOf]; omega⟩
    · obtain rfl : k = n := by omega
      obtain ⟨r1, r2, r3, r4⟩ := HR.out
      have HSO := Lib.hid (sortI_any HN.out hn4 N0 (N0 + 1) A cap (by omega) (by omega) (HV.out wr (by rw [HN0.out]; exact r1)) (fun b off e h0 => by have := HA.out b off e h0; rw [HN0.out] at this; omega) (cell_of (i := 0) r2 rfl) (by rw [← ordI_full]; exact Blk.of r3))
      clear r1 r2 r3 r4
      go_wp2_with fail
      refine HSO.out.mono ?_
      rintro e w2 ⟨rfl, ⟨ord, hp, hs, hrow⟩, hg⟩
      have hbe2 : Below N0 w w2 := by
        have := HR.out.1
        exact this.grown hg (by have := HR.out.2.2.2; omega) (fun k e => by cases e; omega)
      have hbx2 : w2.heap[N0]? = some (.cells #[.slice A k cap] 23 (0, 0)) := (hg.block N0 (by have := HR.out.2.2.2; omega) (fun e => by cases e)).trans HR.out.2.1
      have hsz2 : N0 + 2 ≤ w2.heap.size := by have := HR.out.2.2.2; have := hg.size; omega
      obtain ⟨bp, hbp⟩ : ∃ b, w2.heap.size = b := ⟨_, rfl⟩
      rw [hbp] at hsz2
      have hmk2 := HMK.out w2
      obtain ⟨X2, hX2⟩ : ∃ X, w2.alloc (.cells (intRow (List.replicate k 0)) 3) = X := ⟨_, rfl⟩
      obtain ⟨X3, hX3⟩ : ∃ X, X2.alloc (.cells #[.int .i64 (-1)] 3) = X := ⟨_, rfl⟩
      have hx2s : X2.heap.size = bp + 1 := by rw [← hX2, alloc_sz, hbp]
      have hst3 : RbS w2 X3 bp (List.replicate k 0) [-1] (.slice (some ⟨bp + 1, 0, none⟩) 1 1) := by
        have e1 : X2.heap[bp]? = some (.cells (intRow (List.replicate k 0)) 3 (0, 0)) := by rw [← hX2, ← hbp]; exact block_new _ _
        refine ⟨?_, ?_, ?_⟩
        · rw [← hX3, ← hX2, ← hbp]
          exact ((Below.refl _ w2).alloc (Nat.le_refl _) _).alloc (by simp) _
        · rw [← hX3]
          exact block_alloc _ e1
        · have := own_new1 X2 (bp + 1) (by omega) (-1)
          rw [hx2s, hX3] at this
          exact this
      have HST3 := Lib.hid hst3
      have HX2 := Lib.hid hX2
      have HX3 := Lib.hid hX3
      have HX2S := Lib.hid hx2s
      have HBP := Lib.hid hbp
      have HSZ2 := Lib.hid hsz2
      have HBX2 := Lib.hid (And.intro hbe2 hbx2)
      have HP := Lib.hid (And.intro hp hs)
      have hol : ord.length = k := by have := hp.length_eq; rw [List.length_range] at this; exact this
      have HOL := Lib.hid hol
      have HORD := Lib.hid (fun W (hb : Below bp w2 W) => hrow.below stays_int (by rw [HBP.out]; exact hb))
      have c2 := cell_of (i := 0) hbx2 rfl
      obtain ⟨fin, hfin⟩ : ∃ f, scanL L ord (List.replicate k 0) [-1] = f := ⟨_, rfl⟩
      have HFIN := Lib.hid hfin
      have HFIN0 := Lib.hid (show scanL L (ord.drop 0) (List.replicate k 0) [-1] = fin by rw [List.drop_zero]; exact hfin)
      clear hbe2 hbx2 hsz2 hbp hst3 hX2 hX3 hx2s hp hs hrow hg hol hfin
      go_wp2_with fail
      rw [HX2.out, HBP.out]
      (try rw [HX2S.out])
      rw [HX3.out]
      clear c2 hmk2
      go_loopw [7, 33] (fun av kv wr => ∃ (j : Nat) (ps ab : List Int), j ≤ k ∧ kv = .int .i64 j ∧ ps.length = k ∧ 0 < ab.length ∧ ab.length ≤ j + 1 ∧ Hid (scanL L (ord.drop j) ps ab = fin) ∧ Hid (RbS w2 wr bp ps ab av)) (fun av kv _ => k - (Go.RowKit.intOf kv).toNat)
      case atStart => exact ⟨0, _, _, Nat.zero_le _, rfl, by simp, by simp, by simp, HFIN0, HST3⟩
      case round =>
        clear HFIN0 HST3
        obtain ⟨j, ps, ab, hj, rfl, hpl, hab0, hab, HF, HR3⟩ := hrel
        obtain ⟨Av, cv, rfl, hcv⟩ := own_form HR3.out.own
        by_cases hlt2 : j < k
        · have hji : (j : Int) < (k : Int) := by omega
          obtain ⟨i, hi⟩ : ∃ i, ord[j]? = some i := ⟨_, List.getElem?_eq_getElem (by rw [HOL.out]; exact hlt2)⟩
          have hik : i < k := by
            have := (HP.out.1.mem_iff (a := i)).1 (List.mem_of_getElem? hi)
            exact List.mem_range.1 this
          have hii : (i : Int) < (k : Int) := by omega
          have hdrop : ord.drop j = i :: ord.drop (j + 1) := by
            obtain ⟨h1, h2⟩ := List.getElem?_eq_some_iff.1 hi
            rw [← h2]
            exact List.drop_eq_getElem_cons h1
          have hscan := HF.out
          rw [hdrop] at hscan
          obtain ⟨bo, oo, eo, -, hco⟩ := at_int (HORD.out wr HR3.out.below) (by rw [List.length_map, HOL.out]; omega)
          cases eo
          have o1 := hco j (i : Int) (by rw [List.getElem?_map, hi]; rfl)
          rw [Nat.zero_add] at o1
          have hbw : Below N0 w wr := HBX2.out.1.trans (HR3.out.below.mono (by have := HSZ2.out; omega))
          have c1 := cell_of (i := 0) ((HR3.out.below.block N0 (by have := HSZ2.out; omega)).trans HBX2.out.2) rfl
          obtain ⟨bl, ol, rfl, hbl, hcl⟩ := at_lb (HV.out wr (by rw [HN0.out]; exact hbw)) (by rw [HN.out]; omega)
          obtain ⟨a, ha⟩ : ∃ a, L[i]? = some a := ⟨_, List.getElem?_eq_getElem (by rw [HN.out]; exact hik)⟩
          obtain ⟨-, -, l3⟩ := hcl i a ha
          have hga : L.getD i (0, 0, 0) = a := getD_of ha
          obtain ⟨d, hd⟩ : ∃ d, a.2.2 = d := ⟨_, rfl⟩
          rw [hd] at l3
          obtain ⟨m, hm⟩ : ∃ m, ab.length = m := ⟨_, rfl⟩
          rw [hm] at hcv hab0 hab ⊢
          have HM := Lib.hid hm
          by_cases hin : 0 ≤ d ∧ d < (m : Int)
          · obtain ⟨e, rfl⟩ : ∃ e : Nat, d = (e : Int) := ⟨d.toNat, by omega⟩
            have hem : e < m := by omega
            have hei : (e : Int) < (m : Int) := by omega
            have hn1 : ¬ (e : Int) < 0 := by omega
            have hn2 : ¬ (e : Int) ≥ (m : Int) := by omega
            rw [scan_in (by rw [hga, hd]) (by rw [hm]; exact hem)] at hscan
            obtain ⟨g, hg⟩ : ∃ g, ab.getD e 0 = g := ⟨_, rfl⟩
            rw [hg] at hscan
            obtain ⟨ba, oa, eA, -, hca⟩ := at_int (own_rows HR3.out.own) (by rw [hm]; exact hab0)
            subst eA
            have a1 := hca e g (by rw [← hg, List.getD_eq_getElem?_getD, List.getElem?_eq_getElem (by rw [hm]; exact hem)]; rfl)
            have p1 := cell_of (i := i) HR3.out.p (intRow_get (by rw [hpl]; exact hik))
            have p2 : wr.frozen? ⟨bp, i, none⟩ = false := frozen_of HR3.out.p
            have hst4 := HR3.out.store i g
            have hown4 : (wr.setCell ⟨bp, i, none⟩ (.int .i64 g)).ownsRow (bp + 1) 3 1 (.slice (some ⟨ba, oa, none⟩) (e + 1) cv) (e + 1) ((ab.take (e + 1)).map fun x => Value.int .i64 x) := by
              have := hst4.own
              rw [hm] at this
              exact own_cut this (by omega) (by omega)
            have HST4 := Lib.hid hst4
            have HOWN4 := Lib.hid hown4
            have hsl : ∀ W, (Instr.slice 22 (.slice (some ⟨ba, oa, none⟩) m cv) none (some (.int .i64 ((e : Int) + 1))) none).run Try.prog W = .ok (.slice (some ⟨ba, oa, none⟩) (e + 1) cv) W := fun W => by
              have := sliceJ_to (some ⟨ba, oa, none⟩) m cv (e + 1) (by omega) hcv W
              rw [show ((e + 1 : Nat) : Int) = (e : Int) + 1 by omega] at this
              exact this
            have hw1 : IntKind.i64.wrap ((e : Int) + 1) = (e : Int) + 1 := by rw [IntKind.wrap_i64]; omega
            have HSC := Lib.hid hscan
            clear hst4 hown4 hscan hco hcl hca hdrop hga hd hg ha hi hbw HF
            go_upto_region 17 with fail
            obtain ⟨wr2, hwr2⟩ : ∃ X, wr.setCell ⟨bp, i, none⟩ (.int .i64 g) = X := ⟨_, rfl⟩
            rw [hwr2] at HST4 HOWN4 ⊢
            clear hwr2 a1 p1 p2 o1 c1 l3
            go_wp2_with (at_builtin; refine wpList_pushI rfl (.tmp 60) (.tmp 62) rfl (bp + 1) _ _ _ (i : Int) rfl rfl HOWN4.out (by omega) (by have := (Array.getElem?_eq_some_iff.1 HST4.out.p).1; omega) ?_; intro v' w' HO2 HB2 HK2)
            have hfit : RbS w2 w' bp (ps.set i g) (ab.take (e + 1) ++ [(i : Int)]) v' := by
              refine ⟨HB2.out _ _ HST4.out.below (by omega), (HK2.out bp (Array.getElem?_eq_some_iff.1 HST4.out.p).1 (fun eb => ?_)).trans HST4.out.p, ?_⟩
              · have := (own_low HOWN4.out bp eb).1
                omega
              · have hlen : (ab.take (e + 1) ++ [(i : Int)]).length = e + 1 + 1 := by
                  rw [List.length_append, List.length_take, HM.out]
                  simp
                  omega
                rw [hlen, List.map_append]
                exact HO2.out
            have HFIT := Lib.hid hfit
            clear hfit
            go_wp2_with fail
            exact ⟨⟨j + 1, _, _, by omega, by go_num, by rw [List.length_set]; exact hpl, by simp, by rw [List.length_append, List.length_take, HM.out]; simp; omega, HSC, HFIT⟩, by simp only [Go.RowKit.intOf]; omega⟩
          · rw [scan_out (by rw [hga, hd, hm]; omega)] at hscan
            subst hscan
            have HEND := Lib.hid (show Below N0 w wr from hbw)
            have HPO := HP
            clear hco hcl hdrop hga ha hi hbw HF hd
            by_cases hneg : d < 0
            · go_wp2_with fail
              go_ret2
              exact ⟨⟨ord, _, HP.out.1, HP.out.2, by rw [HFIN.out]; rfl, by rw [HFIN.out]; exact Rows.nil _⟩, by rw [HN0.out]; exact HEND.out⟩
            · have hge : d ≥ (m : Int) := by omega
              have hn1 : ¬ d < 0 := hneg
              go_wp2_with fail
              go_ret2
              exact ⟨⟨ord, _, HP.out.1, HP.out.2, by rw [HFIN.out]; rfl, by rw [HFIN.out]; exact Rows.nil _⟩, by rw [HN0.out]; exact HEND.out⟩
        · obtain rfl : j = k := by omega
          have hscan := HF.out
          rw [List.drop_of_length_le (by rw [HOL.out]; exact Nat.le_refl _)] at hscan
          have hfe : fin = some ps := hscan.symm
          subst hfe
          have hrp : Rows 1 EInt wr (.slice (some ⟨bp, 0, none⟩) j j) ps := rows_int hpl (Nat.le_refl _) HR3.out.p
          have HRP := Lib.hid hrp
          have HEND := Lib.hid (show Below N0 w wr from HBX2.out.1.trans (HR3.out.below.mono (by have := HSZ2.out; omega)))
          clear hrp hscan HF
          go_wp2_with fail
          go_ret2
          exact ⟨⟨ord, _, HP.out.1, HP.out.2, by rw [HFIN.out]; rfl, by rw [HFIN.out]; exact HRP.out⟩, by rw [HN0.out]; exact HEND.out⟩
end Go.Proofs.Ytjialelklnjcfaa
