/-
  WALKS over package corpus: increased, the closures of moved.
-/
import Derived.Test.YtglafkonpbcegaaGreatQeC
import Derived.Deep.RegionHeld3
import Derived.Deep.DrawnRows
namespace Go.Proofs.YtglafkonpbcegaaGreat
open Go.RowKit Go.Shelf Go.Lib
attribute [local go_sem ↓] Go.wp_at_zero Go.wp_at_succ

/-- Numbers far from the ends of int. -/
def Mid (x : Int) : Prop := -1000000 ≤ x ∧ x ≤ 1000000
def incZ (d x : Int) : Int := if x = -1 then -1 else x + d
def mvEx (d : Int) (x : Ex) : Ex := ⟨x.name, x.b + d, x.e + d, x.ps⟩
def mvNd (d m : Int) (x : Nd) : Nd := ⟨x.label, x.b + d, x.e + d, incZ m x.parent⟩
theorem inc_any (x d : Int) (hx : Mid x) (hd : Mid d) (w : World) :
    Calls Tryz.prog 107 #[.int .i64 x, .int .i64 d] w fun e w' => e = .returned (.int .i64 (incZ d x)) ∧ w = w' := by
  obtain ⟨h1, h2⟩ := hx
  obtain ⟨h3, h4⟩ := hd
  unfold incZ
  by_cases h : x = -1
  · rw [if_pos h]
    subst h
    go_enter Tryz.func107, Tryz.ntmps107
    go_wp2_with fail
    go_ret
    exact ⟨rfl, rfl⟩
  · rw [if_neg h]
    go_enter Tryz.func107, Tryz.ntmps107
    go_wp2_with fail
    go_ret
    exact ⟨rfl, rfl⟩
/-- What a closure answers that makes an element of four cells. -/
def Cb4 {β : Type} (E : World → List Value → β → Prop) (W : World) (y : β) (e : Ending) (w' : World) : Prop :=
  (∃ y0 y1 y2 y3 : Value, e = .returned (.agg #[y0, y1, y2, y3]) ∧ Fresh W.heap.size E w' [y0, y1, y2, y3] y ∧ ∀ u ∈ [y0, y1, y2, y3], u.oneCell' = true) ∧ Below W.heap.size W w'
theorem moved4_any (x d : Int) (hx : Mid x) (hd : Mid d) (P : Nat) (W : World) (hc : W.cell? ⟨P, 0, none⟩ = some (.int .i64 d)) :
    Calls Tryz.prog 109 (#[.int .i64 x] ++ #[.pointer (some ⟨P, 0, none⟩)]) W fun e w' => e = .returned (.int .i64 (incZ d x)) ∧ W = w' := by
  have HI := Lib.hid (inc_any x d hx hd)
  clear hx hd
  obtain ⟨z, hz⟩ : ∃ z, incZ d x = z := ⟨_, rfl⟩
  rw [hz] at HI ⊢
  clear hz
  go_enter Tryz.func109, Tryz.ntmps109
  go_wp2_with fail
  refine (HI.out _).mono ?_
  rintro e w' ⟨rfl, rfl⟩
  go_wp2_with fail
  go_ret
  exact ⟨rfl, rfl⟩

theorem Tryz.sizeM_moved1 : (Tryz.prog.info? 73).map (·.size) = some 4 := by kernel_rfl
set_option maxRecDepth 100000 in
set_option maxHeartbeats 4000000 in
theorem moved1_any (x : Ex) (v : Value) (d : Int) (P : Nat) (W : World) (hb : Mid x.b) (he : Mid x.e) (hd : Mid d) (hv : Rows 2 EPair W v x.ps) (hl : x.ps.length ≤ 100000) (hP : P < W.heap.size) (hc : W.cell? ⟨P, 0, none⟩ = some (.int .i64 d)) :
    Calls Tryz.prog 102 (#[.agg #[.string ⟨x.name.toArray⟩, .int .i64 x.b, .int .i64 x.e, v]] ++ #[.pointer (some ⟨P, 0, none⟩)]) W (Cb4 EEx W (mvEx d x)) := by
  obtain ⟨A, cap, rfl, hcp⟩ := hv.form
  have hcl := fun W' (h : Below W.heap.size W W') => clone_pair (hv.below stays_pair h) hl
  obtain ⟨nm, xb, xe, ps⟩ := x
  simp only at hb he hv hl hcl hcp ⊢
  obtain ⟨hb1, hb2⟩ := hb
  obtain ⟨he1, he2⟩ := he
  obtain ⟨hd1, hd2⟩ := hd
  obtain ⟨S, hS⟩ : ∃ s : ByteArray, (⟨nm.toArray⟩ : ByteArray) = s := ⟨_, rfl⟩
  have hfin : ∀ (w' : World) (A' : Option Addr) (c' : Nat), RowsF W.heap.size 2 EPair w' (.slice A' ps.length c') ps → Fresh W.heap.size EEx w' [.string S, .int .i64 (xb + d), .int .i64 (xe + d), .slice A' ps.length c'] (mvEx d ⟨nm, xb, xe, ps⟩) :=
    fun w' A' c' h w2 k => ⟨_, by rw [← hS]; rfl, h w2 k⟩
  have HFIN := Lib.hid hfin
  unfold Cb4
  rw [hS]
  obtain ⟨y, hy⟩ : ∃ y, mvEx d ⟨nm, xb, xe, ps⟩ = y := ⟨_, rfl⟩
  rw [hy] at HFIN ⊢
  obtain ⟨N0, hN0⟩ : ∃ N0, W.heap.size = N0 := ⟨_, rfl⟩
  obtain ⟨X, hX⟩ : ∃ X, (W.alloc (.cells #[.string S, .int .i64 xb, .int .i64 xe, .slice A ps.length cap] 73)).alloc (.cells #[.string ⟨#[]⟩, .int .i64 0, .int .i64 0, .slice none 0 0] 73) = X := ⟨_, rfl⟩
  have hbX : Below W.heap.size W X := by rw [← hX]; exact (below_box W _).trans ((below_box _ _).mono (by simp))
  have e1 : X.heap[N0]? = some (.cells #[.string S, .int .i64 xb, .int .i64 xe, .slice A ps.length cap] 73 (0, 0)) := by rw [← hX, ← hN0]; exact block_alloc _ (block_new W _)
  have e2 : X.heap[N0 + 1]? = some (.cells #[.string ⟨#[]⟩, .int .i64 0, .int .i64 0, .slice none 0 0] 73 (0, 0)) := by
    have := block_new (W.alloc (.cells #[.string S, .int .i64 xb, .int .i64 xe, .slice A ps.length cap] 73)) (.cells #[.string ⟨#[]⟩, .int .i64 0, .int .i64 0, .slice none 0 0] 73)
    rw [← hX, ← hN0]
    simpa using this
  have hXs : X.heap.size = N0 + 2 := by rw [← hX, ← hN0]; simp
  rw [hN0] at hbX hP hcl HFIN
  have p0 : X.cell? ⟨P, 0, none⟩ = some (.int .i64 d) := (hbX.cell (p := ⟨P, 0, none⟩) hP).trans hc
  have c0 : X.cell? ⟨N0, 0, none⟩ = some (.string S) := cell_of e1 rfl
  have c1 : X.cell? ⟨N0, 1, none⟩ = some (.int .i64 xb) := cell_of e1 rfl
  have c2 : X.cell? ⟨N0, 2, none⟩ = some (.int .i64 xe) := cell_of e1 rfl
  have c3 : X.cell? ⟨N0, 3, none⟩ = some (.slice A ps.length cap) := cell_of e1 rfl
  have HS := Lib.hid (fun W' (h : Below (N0 + 1) X W') => And.intro ((h.cell (p := ⟨N0, 0, none⟩) (Nat.lt_succ_self _)).trans c0) (And.intro ((h.cell (p := ⟨N0, 1, none⟩) (Nat.lt_succ_self _)).trans c1) (And.intro ((h.cell (p := ⟨N0, 2, none⟩) (Nat.lt_succ_self _)).trans c2) (And.intro ((h.cell (p := ⟨N0, 3, none⟩) (Nat.lt_succ_self _)).trans c3) ((h.cell (p := ⟨P, 0, none⟩) (Nat.lt_succ_of_lt hP)).trans p0)))))
  have hblk : ∀ W', Below X.drew.heap.size X.drew W' → W'.heap[N0 + 1]? = some (.cells #[.string ⟨#[]⟩, .int .i64 0, .int .i64 0, .slice none 0 0] 73 (0, 0)) := fun W' h => (h.block (N0 + 1) (by show N0 + 1 < X.heap.size; omega)).trans e2
  have HBLK := Lib.hid hblk
  have HCL := Lib.hid (hcl X.drew hbX.drew)
  have HX := Lib.hid hX
  have HXS := Lib.hid hXs
  have HN0 := Lib.hid hN0
  have HBX := Lib.hid hbX
  have w1 : IntKind.i64.wrap (xb + d) = xb + d := by rw [IntKind.wrap_i64]; omega
  have w2 : IntKind.i64.wrap (xe + d) = xe + d := by rw [IntKind.wrap_i64]; omega
  have hPne : ¬ P = N0 + 1 := by omega
  have hPne2 : ¬ N0 + 1 = P := by omega
  clear hcl hX hXs hbX e1 e2 hN0 hv hl hc hP hy hS hfin hblk hcp
  go_enter Tryz.func102, Tryz.ntmps102
  go_wp2_with fail
  rw [HX.out, HN0.out]
  go_region_held3 (fun w' => w'.cell? ⟨N0, 0, none⟩ = some (.string S) ∧ w'.cell? ⟨N0, 1, none⟩ = some (.int .i64 xb) ∧ w'.cell? ⟨N0, 2, none⟩ = some (.int .i64 xe) ∧ w'.cell? ⟨N0, 3, none⟩ = some (.slice A ps.length cap) ∧ w'.cell? ⟨P, 0, none⟩ = some (.int .i64 d))
    (first
      | go_keep
      | (exact HS.out _ (HB3.out))
      | (exact HS.out _ ((((HB3.out.setCell (Nat.le_refl _) _).setCell (Nat.le_refl _) _).setCell (Nat.le_refl _) _).setCell (Nat.le_refl _) _))
      | fail)
    ((first
      | (go_at_call 51; (with_reducible refine HCL.out.mono ?_); rintro e w3 ⟨A', c', rfl, ho, hb3⟩; have hk3 := HBLK.out _ hb3; have HB3 := Lib.hid (show Below (N0 + 1) X w3 from (Below.refl _ X).drew.trans (hb3.mono (by have := HXS.out; show N0 + 1 ≤ X.heap.size; omega))); have t0 : w3.cell? ⟨N0 + 1, 0, none⟩ = some (.string ⟨#[]⟩) := cell_of hk3 rfl; have t1 : w3.cell? ⟨N0 + 1, 1, none⟩ = some (.int .i64 0) := cell_of hk3 rfl; have t2 : w3.cell? ⟨N0 + 1, 2, none⟩ = some (.int .i64 0) := cell_of hk3 rfl; have t3 : w3.cell? ⟨N0 + 1, 3, none⟩ = some (.slice none 0 0) := cell_of hk3 rfl; have f0 : ∀ i, w3.frozen? ⟨N0 + 1, i, none⟩ = false := fun i => frozen_of hk3; have HO := Lib.hid ho; have HK3 := Lib.hid hk3; clear ho hb3 hk3)
      | fail))
  go_wp2_with fail
  have hz : ((((w3.setCell ⟨N0 + 1, 0, none⟩ (.string S)).setCell ⟨N0 + 1, 1, none⟩ (.int .i64 (xb + d))).setCell ⟨N0 + 1, 2, none⟩ (.int .i64 (xe + d))).setCell ⟨N0 + 1, 3, none⟩ (.slice A' ps.length c')).heap[N0 + 1]? = some (.cells #[.string S, .int .i64 (xb + d), .int .i64 (xe + d), .slice A' ps.length c'] 73 (0, 0)) :=
    set_of (set_of (set_of (set_of HK3.out _) _) _) _
  have hk : Kept (N0 + 2) w3 ((((w3.setCell ⟨N0 + 1, 0, none⟩ (.string S)).setCell ⟨N0 + 1, 1, none⟩ (.int .i64 (xb + d))).setCell ⟨N0 + 1, 2, none⟩ (.int .i64 (xe + d))).setCell ⟨N0 + 1, 3, none⟩ (.slice A' ps.length c')) :=
    ⟨by simp [World.setCell], fun k h1 h2 => by rw [Below.heap_setCell _ _ _ k (by show k ≠ N0 + 1; omega), Below.heap_setCell _ _ _ k (by show k ≠ N0 + 1; omega), Below.heap_setCell _ _ _ k (by show k ≠ N0 + 1; omega), Below.heap_setCell _ _ _ k (by show k ≠ N0 + 1; omega)]⟩
  have hXd : X.drew.heap.size = N0 + 2 := HXS.out
  have ho := HO.out
  rw [hXd] at ho
  have hf := HFIN.out _ _ _ ((ho.rowsF.kept hk).mono (by omega))
  exact bodyPost_ret (v := .agg #[.string S, .int .i64 (xb + d), .int .i64 (xe + d), .slice A' ps.length c']) (results_cell_row Tryz.results102 _ _ (N0 + 1) _ _ _ _ rfl hz Tryz.underlying73 rfl Tryz.sizeM_moved1) rfl
    ⟨⟨_, _, _, _, rfl, by rw [HN0.out]; exact hf, by simp [Value.oneCell']⟩, by rw [HN0.out]; exact HBX.out.trans ((((((Below.mono HB3.out (Nat.le_succ _)).setCell (Nat.le_succ _) _).setCell (Nat.le_succ _) _).setCell (Nat.le_succ _) _).setCell (Nat.le_succ _) _))⟩

theorem Tryz.sizeM_moved2 : (Tryz.prog.info? 39).map (·.size) = some 4 := by kernel_rfl
set_option maxRecDepth 100000 in
set_option maxHeartbeats 4000000 in
theorem moved2_any (x : Ex) (v : Value) (d : Int) (P : Nat) (W : World) (hb : Mid x.b) (he : Mid x.e) (hd : Mid d) (hv : Rows 2 EPair W v x.ps) (hl : x.ps.length ≤ 100000) (hP : P < W.heap.size) (hc : W.cell? ⟨P, 0, none⟩ = some (.int .i64 d)) :
    Calls Tryz.prog 104 (#[.agg #[.string ⟨x.name.toArray⟩, .int .i64 x.b, .int .i64 x.e, v]] ++ #[.pointer (some ⟨P, 0, none⟩)]) W (Cb4 EEx W (mvEx d x)) := by
  obtain ⟨A, cap, rfl, hcp⟩ := hv.form
  have hcl := fun W' (h : Below W.heap.size W W') => clone_pair (hv.below stays_pair h) hl
  obtain ⟨nm, xb, xe, ps⟩ := x
  simp only at hb he hv hl hcl hcp ⊢
  obtain ⟨hb1, hb2⟩ := hb
  obtain ⟨he1, he2⟩ := he
  obtain ⟨hd1, hd2⟩ := hd
  obtain ⟨S, hS⟩ : ∃ s : ByteArray, (⟨nm.toArray⟩ : ByteArray) = s := ⟨_, rfl⟩
  have hfin : ∀ (w' : World) (A' : Option Addr) (c' : Nat), RowsF W.heap.size 2 EPair w' (.slice A' ps.length c') ps → Fresh W.heap.size EEx w' [.string S, .int .i64 (xb + d), .int .i64 (xe + d), .slice A' ps.length c'] (mvEx d ⟨nm, xb, xe, ps⟩) :=
    fun w' A' c' h w2 k => ⟨_, by rw [← hS]; rfl, h w2 k⟩
  have HFIN := Lib.hid hfin
  unfold Cb4
  rw [hS]
  obtain ⟨y, hy⟩ : ∃ y, mvEx d ⟨nm, xb, xe, ps⟩ = y := ⟨_, rfl⟩
  rw [hy] at HFIN ⊢
  obtain ⟨N0, hN0⟩ : ∃ N0, W.heap.size = N0 := ⟨_, rfl⟩
  obtain ⟨X, hX⟩ : ∃ X, (W.alloc (.cells #[.string S, .int .i64 xb, .int .i64 xe, .slice A ps.length cap] 39)).alloc (.cells #[.string ⟨#[]⟩, .int .i64 0, .int .i64 0, .slice none 0 0] 39) = X := ⟨_, rfl⟩
  have hbX : Below W.heap.size W X := by rw [← hX]; exact (below_box W _).trans ((below_box _ _).mono (by simp))
  have e1 : X.heap[N0]? = some (.cells #[.string S, .int .i64 xb, .int .i64 xe, .slice A ps.length cap] 39 (0, 0)) := by rw [← hX, ← hN0]; exact block_alloc _ (block_new W _)
  have e2 : X.heap[N0 + 1]? = some (.cells #[.string ⟨#[]⟩, .int .i64 0, .int .i64 0, .slice none 0 0] 39 (0, 0)) := by
    have := block_new (W.alloc (.cells #[.string S, .int .i64 xb, .int .i64 xe, .slice A ps.length cap] 39)) (.cells #[.string ⟨#[]⟩, .int .i64 0, .int .i64 0, .slice none 0 0] 39)
    rw [← hX, ← hN0]
    simpa using this
  have hXs : X.heap.size = N0 + 2 := by rw [← hX, ← hN0]; simp
  rw [hN0] at hbX hP hcl HFIN
  have p0 : X.cell? ⟨P, 0, none⟩ = some (.int .i64 d) := (hbX.cell (p := ⟨P, 0, none⟩) hP).trans hc
  have c0 : X.cell? ⟨N0, 0, none⟩ = some (.string S) := cell_of e1 rfl
  have c1 : X.cell? ⟨N0, 1, none⟩ = some (.int .i64 xb) := cell_of e1 rfl
  have c2 : X.cell? ⟨N0, 2, none⟩ = some (.int .i64 xe) := cell_of e1 rfl
  have c3 : X.cell? ⟨N0, 3, none⟩ = some (.slice A ps.length cap) := cell_of e1 rfl
  have HS := Lib.hid (fun W' (h : Below (N0 + 1) X W') => And.intro ((h.cell (p := ⟨N0, 0, none⟩) (Nat.lt_succ_self _)).trans c0) (And.intro ((h.cell (p := ⟨N0, 1, none⟩) (Nat.lt_succ_self _)).trans c1) (And.intro ((h.cell (p := ⟨N0, 2, none⟩) (Nat.lt_succ_self _)).trans c2) (And.intro ((h.cell (p := ⟨N0, 3, none⟩) (Nat.lt_succ_self _)).trans c3) ((h.cell (p := ⟨P, 0, none⟩) (Nat.lt_succ_of_lt hP)).trans p0)))))
  have hblk : ∀ W', Below X.drew.heap.size X.drew W' → W'.heap[N0 + 1]? = some (.cells #[.string ⟨#[]⟩, .int .i64 0, .int .i64 0, .slice none 0 0] 39 (0, 0)) := fun W' h => (h.block (N0 + 1) (by show N0 + 1 < X.heap.size; omega)).trans e2
  have HBLK := Lib.hid hblk
  have HCL := Lib.hid (hcl X.drew hbX.drew)
  have HX := Lib.hid hX
  have HXS := Lib.hid hXs
  have HN0 := Lib.hid hN0
  have HBX := Lib.hid hbX
  have w1 : IntKind.i64.wrap (xb + d) = xb + d := by rw [IntKind.wrap_i64]; omega
  have w2 : IntKind.i64.wrap (xe + d) = xe + d := by rw [IntKind.wrap_i64]; omega
  have hPne : ¬ P = N0 + 1 := by omega
  have hPne2 : ¬ N0 + 1 = P := by omega
  clear hcl hX hXs hbX e1 e2 hN0 hv hl hc hP hy hS hfin hblk hcp
  go_enter Tryz.func104, Tryz.ntmps104
  go_wp2_with fail
  rw [HX.out, HN0.out]
  go_region_held3 (fun w' => w'.cell? ⟨N0, 0, none⟩ = some (.string S) ∧ w'.cell? ⟨N0, 1, none⟩ = some (.int .i64 xb) ∧ w'.cell? ⟨N0, 2, none⟩ = some (.int .i64 xe) ∧ w'.cell? ⟨N0, 3, none⟩ = some (.slice A ps.length cap) ∧ w'.cell? ⟨P, 0, none⟩ = some (.int .i64 d))
    (first
      | go_keep
      | (exact HS.out _ (HB3.out))
      | (exact HS.out _ ((((HB3.out.setCell (Nat.le_refl _) _).setCell (Nat.le_refl _) _).setCell (Nat.le_refl _) _).setCell (Nat.le_refl _) _))
      | fail)
    ((first
      | (go_at_call 51; (with_reducible refine HCL.out.mono ?_); rintro e w3 ⟨A', c', rfl, ho, hb3⟩; have hk3 := HBLK.out _ hb3; have HB3 := Lib.hid (show Below (N0 + 1) X w3 from (Below.refl _ X).drew.trans (hb3.mono (by have := HXS.out; show N0 + 1 ≤ X.heap.size; omega))); have t0 : w3.cell? ⟨N0 + 1, 0, none⟩ = some (.string ⟨#[]⟩) := cell_of hk3 rfl; have t1 : w3.cell? ⟨N0 + 1, 1, none⟩ = some (.int .i64 0) := cell_of hk3 rfl; have t2 : w3.cell? ⟨N0 + 1, 2, none⟩ = some (.int .i64 0) := cell_of hk3 rfl; have t3 : w3.cell? ⟨N0 + 1, 3, none⟩ = some (.slice none 0 0) := cell_of hk3 rfl; have f0 : ∀ i, w3.frozen? ⟨N0 + 1, i, none⟩ = false := fun i => frozen_of hk3; have HO := Lib.hid ho; have HK3 := Lib.hid hk3; clear ho hb3 hk3)
      | fail))
  go_wp2_with fail
  have hz : ((((w3.setCell ⟨N0 + 1, 0, none⟩ (.string S)).setCell ⟨N0 + 1, 1, none⟩ (.int .i64 (xb + d))).setCell ⟨N0 + 1, 2, none⟩ (.int .i64 (xe + d))).setCell ⟨N0 + 1, 3, none⟩ (.slice A' ps.length c')).heap[N0 + 1]? = some (.cells #[.string S, .int .i64 (xb + d), .int .i64 (xe + d), .slice A' ps.length c'] 39 (0, 0)) :=
    set_of (set_of (set_of (set_of HK3.out _) _) _) _
  have hk : Kept (N0 + 2) w3 ((((w3.setCell ⟨N0 + 1, 0, none⟩ (.string S)).setCell ⟨N0 + 1, 1, none⟩ (.int .i64 (xb + d))).setCell ⟨N0 + 1, 2, none⟩ (.int .i64 (xe + d))).setCell ⟨N0 + 1, 3, none⟩ (.slice A' ps.length c')) :=
    ⟨by simp [World.setCell], fun k h1 h2 => by rw [Below.heap_setCell _ _ _ k (by show k ≠ N0 + 1; omega), Below.heap_setCell _ _ _ k (by show k ≠ N0 + 1; omega), Below.heap_setCell _ _ _ k (by show k ≠ N0 + 1; omega), Below.heap_setCell _ _ _ k (by show k ≠ N0 + 1; omega)]⟩
  have hXd : X.drew.heap.size = N0 + 2 := HXS.out
  have ho := HO.out
  rw [hXd] at ho
  have hf := HFIN.out _ _ _ ((ho.rowsF.kept hk).mono (by omega))
  exact bodyPost_ret (v := .agg #[.string S, .int .i64 (xb + d), .int .i64 (xe + d), .slice A' ps.length c']) (results_cell_row Tryz.results104 _ _ (N0 + 1) _ _ _ _ rfl hz Tryz.underlying39 rfl Tryz.sizeM_moved2) rfl
    ⟨⟨_, _, _, _, rfl, by rw [HN0.out]; exact hf, by simp [Value.oneCell']⟩, by rw [HN0.out]; exact HBX.out.trans ((((((Below.mono HB3.out (Nat.le_succ _)).setCell (Nat.le_succ _) _).setCell (Nat.le_succ _) _).setCell (Nat.le_succ _) _).setCell (Nat.le_succ _) _))⟩

theorem Tryz.sizeM_moved3 : (Tryz.prog.info? 85).map (·.size) = some 4 := by kernel_rfl
set_option maxRecDepth 100000 in
set_option maxHeartbeats 4000000 in
theorem moved3_any (x : Nd) (d m : Int) (P Q : Nat) (W : World) (hb : Mid x.b) (he : Mid x.e) (hp : Mid x.parent) (hd : Mid d) (hm : Mid m) (hP : P < W.heap.size) (hQ : Q < W.heap.size) (hc : W.cell? ⟨P, 0, none⟩ = some (.int .i64 d)) (hc2 : W.cell? ⟨Q, 0, none⟩ = some (.int .i64 m)) :
    Calls Tryz.prog 106 (#[.agg #[.string ⟨x.label.toArray⟩, .int .i64 x.b, .int .i64 x.e, .int .i64 x.parent]] ++ #[.pointer (some ⟨P, 0, none⟩), .pointer (some ⟨Q, 0, none⟩)]) W (Cb4 ENd W (mvNd d m x)) := by
  have HI := Lib.hid (inc_any x.parent m hp hm)
  obtain ⟨nm, xb, xe, xp⟩ := x
  simp only at hb he HI ⊢
  obtain ⟨hb1, hb2⟩ := hb
  obtain ⟨he1, he2⟩ := he
  obtain ⟨hd1, hd2⟩ := hd
  have hmv : mvNd d m ⟨nm, xb, xe, xp⟩ = ⟨nm, xb + d, xe + d, incZ m xp⟩ := rfl
  rw [hmv]
  obtain ⟨z, hz⟩ : ∃ z, incZ m xp = z := ⟨_, rfl⟩
  rw [hz] at HI ⊢
  obtain ⟨S, hS⟩ : ∃ s : ByteArray, (⟨nm.toArray⟩ : ByteArray) = s := ⟨_, rfl⟩
  have hfin : ∀ (w' : World), Fresh W.heap.size ENd w' [.string S, .int .i64 (xb + d), .int .i64 (xe + d), .int .i64 z] ⟨nm, xb + d, xe + d, z⟩ :=
    fun w' => fresh_flat _ _ fun _ => by rw [← hS]; rfl
  have HFIN := Lib.hid hfin
  unfold Cb4
  rw [hS]
  obtain ⟨N0, hN0⟩ : ∃ N0, W.heap.size = N0 := ⟨_, rfl⟩
  obtain ⟨X, hX⟩ : ∃ X, (W.alloc (.cells #[.string S, .int .i64 xb, .int .i64 xe, .int .i64 xp] 85)).alloc (.cells #[.string ⟨#[]⟩, .int .i64 0, .int .i64 0, .int .i64 0] 85) = X := ⟨_, rfl⟩
  have hbX : Below W.heap.size W X := by rw [← hX]; exact (below_box W _).trans ((below_box _ _).mono (by simp))
  have e1 : X.heap[N0]? = some (.cells #[.string S, .int .i64 xb, .int .i64 xe, .int .i64 xp] 85 (0, 0)) := by rw [← hX, ← hN0]; exact block_alloc _ (block_new W _)
  have e2 : X.heap[N0 + 1]? = some (.cells #[.string ⟨#[]⟩, .int .i64 0, .int .i64 0, .int .i64 0] 85 (0, 0)) := by
    have := block_new (W.alloc (.cells #[.string S, .int .i64 xb, .int .i64 xe, .int .i64 xp] 85)) (.cells #[.string ⟨#[]⟩, .int .i64 0, .int .i64 0, .int .i64 0] 85)
    rw [← hX, ← hN0]
    simpa using this
  rw [hN0] at hbX hP hQ HFIN
  have p0 : X.cell? ⟨P, 0, none⟩ = some (.int .i64 d) := (hbX.cell (p := ⟨P, 0, none⟩) hP).trans hc
  have q0 : X.cell? ⟨Q, 0, none⟩ = some (.int .i64 m) := (hbX.cell (p := ⟨Q, 0, none⟩) hQ).trans hc2
  have c0 : X.cell? ⟨N0, 0, none⟩ = some (.string S) := cell_of e1 rfl
  have c1 : X.cell? ⟨N0, 1, none⟩ = some (.int .i64 xb) := cell_of e1 rfl
  have c2 : X.cell? ⟨N0, 2, none⟩ = some (.int .i64 xe) := cell_of e1 rfl
  have c3 : X.cell? ⟨N0, 3, none⟩ = some (.int .i64 xp) := cell_of e1 rfl
  have t0 : X.cell? ⟨N0 + 1, 0, none⟩ = some (.string ⟨#[]⟩) := cell_of e2 rfl
  have t1 : X.cell? ⟨N0 + 1, 1, none⟩ = some (.int .i64 0) := cell_of e2 rfl
  have t2 : X.cell? ⟨N0 + 1, 2, none⟩ = some (.int .i64 0) := cell_of e2 rfl
  have t3 : X.cell? ⟨N0 + 1, 3, none⟩ = some (.int .i64 0) := cell_of e2 rfl
  have f0 : ∀ i, X.frozen? ⟨N0 + 1, i, none⟩ = false := fun i => frozen_of e2
  have HE2 := Lib.hid e2
  have HX := Lib.hid hX
  have HN0 := Lib.hid hN0
  have HBX := Lib.hid hbX
  have w1 : IntKind.i64.wrap (xb + d) = xb + d := by rw [IntKind.wrap_i64]; omega
  have w2 : IntKind.i64.wrap (xe + d) = xe + d := by rw [IntKind.wrap_i64]; omega
  have hPne : ¬ P = N0 + 1 := by omega
  have hPne2 : ¬ N0 + 1 = P := by omega
  have hQne : ¬ Q = N0 + 1 := by omega
  have hQne2 : ¬ N0 + 1 = Q := by omega
  clear hX hbX e1 e2 hN0 hc hc2 hP hQ hS hfin hmv hz hp hm
  go_enter Tryz.func106, Tryz.ntmps106
  go_wp2_with fail
  rw [HX.out, HN0.out]
  go_region_held3 (fun w' => w'.cell? ⟨N0, 0, none⟩ = some (.string S) ∧ w'.cell? ⟨N0, 1, none⟩ = some (.int .i64 xb) ∧ w'.cell? ⟨N0, 2, none⟩ = some (.int .i64 xe) ∧ w'.cell? ⟨N0, 3, none⟩ = some (.int .i64 xp) ∧ w'.cell? ⟨P, 0, none⟩ = some (.int .i64 d) ∧ w'.cell? ⟨Q, 0, none⟩ = some (.int .i64 m))
    (go_keep)
    ((first
      | (go_at_call 107; (with_reducible refine (HI.out _).mono ?_); rintro e w3 ⟨rfl, rfl⟩)
      | fail))
  go_wp2_with fail
  have hz : ((((X.drew.setCell ⟨N0 + 1, 0, none⟩ (.string S)).setCell ⟨N0 + 1, 1, none⟩ (.int .i64 (xb + d))).setCell ⟨N0 + 1, 2, none⟩ (.int .i64 (xe + d))).setCell ⟨N0 + 1, 3, none⟩ (.int .i64 z)).heap[N0 + 1]? = some (.cells #[.string S, .int .i64 (xb + d), .int .i64 (xe + d), .int .i64 z] 85 (0, 0)) :=
    set_of (set_of (set_of (set_of (W := X.drew) HE2.out _) _) _) _
  exact bodyPost_ret (v := .agg #[.string S, .int .i64 (xb + d), .int .i64 (xe + d), .int .i64 z]) (results_cell_row Tryz.results106 _ _ (N0 + 1) _ _ _ _ rfl hz Tryz.underlying85 rfl Tryz.sizeM_moved3) rfl
    ⟨⟨_, _, _, _, rfl, by rw [HN0.out]; exact HFIN.out _, by simp [Value.oneCell']⟩, by rw [HN0.out]; exact ((((HBX.out.drew.setCell (Nat.le_succ _) _).setCell (Nat.le_succ _) _).setCell (Nat.le_succ _) _).setCell (Nat.le_succ _) _)⟩
end Go.Proofs.YtglafkonpbcegaaGreat
