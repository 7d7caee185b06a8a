/-
  WALKS over package stab: measure stores every tree's greatest end.
-/
import Derived.Test.YtifdencdbpdbfaaDoorYaR
namespace Go.Proofs.YtifdencdbpdbfaaDoor
open Go.RowKit Go.Shelf Go.Lib
set_option linter.unusedVariables false
set_option linter.unusedSimpArgs false

/-- The tree from lo to hi has been measured. -/
def Msd (L L' : List Nd) (k lo hi : Nat) (R : Int) : Prop :=
  L'.length = L.length ∧ L'.map keyN = L.map keyN ∧ (∀ j, j < lo ∨ hi ≤ j → L'[j]? = L[j]?) ∧ Msr L' k lo hi ∧ ∀ (j : Nat) (x : Nd), lo ≤ j → j < hi → L[j]? = some x → x.1.2 ≤ R
theorem key_at {L L' : List Nd} (h : L'.map keyN = L.map keyN) {j : Nat} {x : Nd} (hx : L[j]? = some x) : ∃ y, L'[j]? = some y ∧ y.1 = x.1 := by
  have := congrArg (fun l => l[j]?) h
  simp only [List.getElem?_map, hx, Option.map_some] at this
  cases hy : L'[j]? with
  | none => rw [hy] at this; cases this
  | some y =>
    rw [hy] at this
    simp [keyN] at this
    exact ⟨y, rfl, this.1⟩
theorem msd_join {L L1 L2 : List Nd} {k lo hi r : Nat} {R1 R2 R : Int} {x : Nd} (hlt : lo < hi) (hr : lo + (hi - lo) / 2 = r) (hx : L[r]? = some x) (h1 : Msd L L1 k lo r R1) (h2 : Msd L1 L2 k (r + 1) hi R2) (q1 : R1 ≤ R) (q2 : x.1.2 ≤ R) (q3 : R2 ≤ R) :
    L2[r]? = some x ∧ Msd L (L2.set r (x.1, x.2.1, R)) (k + 1) lo hi R := by
  obtain ⟨a1, a2, a3, a4, a5⟩ := h1
  obtain ⟨b1, b2, b3, b4, b5⟩ := h2
  have hlo : lo ≤ r := by omega
  have hrh : r < hi := by omega
  have e1 : L1[r]? = some x := by rw [a3 r (.inr (Nat.le_refl _))]; exact hx
  have e2 : L2[r]? = some x := by rw [b3 r (.inl (by omega))]; exact e1
  have hrl : r < L2.length := (List.getElem?_eq_some_iff.1 e2).1
  have hb : ∀ (j : Nat) (y : Nd), lo ≤ j → j < hi → L[j]? = some y → y.1.2 ≤ R := by
    intro j y hj hj2 hy
    rcases Nat.lt_trichotomy j r with h | h | h
    · have := a5 j y hj h hy; omega
    · subst h
      rw [hx] at hy
      cases hy
      exact q2
    · obtain ⟨z, hz, hzy⟩ := key_at a2 hy
      have := b5 j z (by omega) hj2 hz
      rw [hzy] at this
      omega
  have hkey : (L2.set r (x.1, x.2.1, R)).map keyN = L.map keyN := by
    rw [← a2, ← b2]
    apply List.ext_getElem?
    intro i
    rw [List.getElem?_map, List.getElem?_map, List.getElem?_set]
    by_cases hi : r = i
    · subst hi
      rw [if_pos rfl, if_pos hrl, e2]
      rfl
    · rw [if_neg hi]
  refine ⟨e2, by rw [List.length_set, b1, a1], hkey, fun j hj => ?_, fun _ => ⟨(x.1, x.2.1, R), by rw [hr, List.getElem?_set_self hrl], fun j y hj hj2 hy => ?_, ?_, ?_⟩, hb⟩
  · rw [List.getElem?_set_ne (by omega), b3 j (by omega), a3 j (by omega)]
  · obtain ⟨z, hz, hzy⟩ := key_at hkey.symm hy
    have := hb j z hj hj2 hz
    rw [hzy] at this
    exact this
  · rw [hr]
    refine msr_same k lo r (fun j a b => ?_) a4
    rw [List.getElem?_set_ne (by omega), b3 j (by omega)]
  · rw [hr]
    refine msr_same k (r + 1) hi (fun j a b => ?_) b4
    rw [List.getElem?_set_ne (by omega)]
def MsdV (g : Nat) (L : List Nd) (k lo hi : Nat) (w : World) (e : Ending) (w' : World) : Prop :=
  ∃ (R : Int) (L' : List Nd), e = .returned (.int .i64 R) ∧ Msd L L' k lo hi R ∧ NdAt w' g L' ∧ w.grownBy w' (some g)
theorem grown_drewN (w : World) (q : Nat) (r : Option Nat) : w.grownBy (w.drewN q) r := grown_below (below_drewN (Below.refl _ _) q) r

set_option maxRecDepth 100000 in
set_option maxHeartbeats 4000000 in
theorem measure_any {g : Nat} : ∀ (k lo hi : Nat) (L : List Nd) (v : Value) (w : World), hi - lo ≤ k → lo ≤ hi → hi ≤ L.length → L.length ≤ 1000000 → Seg g lo hi v → NdAt w g L →
    Calls Tryd.prog 46 #[v] w (MsdV g L k lo hi w) := by
  intro k
  induction k with
  | zero =>
    intro lo hi L v w hk hlh hhi hmax hv hN
    obtain ⟨A, cap, rfl, hc, -⟩ := hv
    have hz : hi - lo = 0 := by omega
    rw [hz] at hc ⊢
    have hm : Msd L L 0 lo hi 0 := ⟨rfl, rfl, fun _ _ => rfl, by show hi ≤ lo; omega, fun j x a b => by omega⟩
    have HM := Lib.hid hm
    have HN := Lib.hid hN
    clear hm hN hz hk hlh hhi hmax hc
    go_enter Tryd.func46, Tryd.ntmps46
    go_wp2_with fail
    go_ret
    exact ⟨_, _, rfl, HM.out, HN.out, grown_below (Below.refl _ _) _⟩
  | succ k ih =>
    intro lo hi L v w hk hlh hhi hmax hv hN
    rcases Nat.eq_or_lt_of_le hlh with he | hlt
    · obtain ⟨A, cap, rfl, hc, -⟩ := hv
      have hz : hi - lo = 0 := by omega
      rw [hz] at hc ⊢
      have hm : Msd L L (k + 1) lo hi 0 := ⟨rfl, rfl, fun _ _ => rfl, fun h => absurd h (by omega), fun j x a b => by omega⟩
      have HM := Lib.hid hm
      have HN := Lib.hid hN
      clear hm hN hz hk hlh hhi hmax hc ih he
      go_enter Tryd.func46, Tryd.ntmps46
      go_wp2_with fail
      go_ret
      exact ⟨_, _, rfl, HM.out, HN.out, grown_below (Below.refl _ _) _⟩
    · have HP := Lib.hid (parts_any hv hlt (by omega) w)
      obtain ⟨A, cap, rfl, hc, -⟩ := hv
      obtain ⟨r, hr⟩ : ∃ r, lo + (hi - lo) / 2 = r := ⟨_, rfl⟩
      unfold PartsV at HP
      rw [hr] at HP
      obtain ⟨n, hn⟩ : ∃ n, hi - lo = n := ⟨_, rfl⟩
      have hnp : 0 < n := by omega
      have hnz : ((n : Int) == 0) = false := by simp; omega
      obtain ⟨x, hx⟩ : ∃ x, L[r]? = some x := ⟨_, List.getElem?_eq_getElem (by omega)⟩
      have hI1 := fun (W : World) (v1 : Value) (h1 : Seg g lo r v1) (h : NdAt W g L) => ih lo r L v1 W (by omega) (by omega) (by omega) hmax h1 h
      have hI2 := fun (W : World) (v2 : Value) (L1 : List Nd) (h2 : Seg g (r + 1) hi v2) (h : NdAt W g L1) (hl : L1.length = L.length) => ih (r + 1) hi L1 v2 W (by omega) (by omega) (by omega) (by omega) h2 h
      have HI1 := Lib.hid hI1
      have HI2 := Lib.hid hI2
      have HJ := Lib.hid (fun (L1 L2 : List Nd) (R1 R2 R : Int) => msd_join (L := L) (L1 := L1) (L2 := L2) (k := k) (R1 := R1) (R2 := R2) (R := R) hlt hr hx)
      have HN := Lib.hid hN
      have HX := Lib.hid hx
      rw [hn] at hc HP ⊢
      clear hI1 hI2 hN hk hlh hhi hmax ih hr hx hn hlt
      go_enter Tryd.func46, Tryd.ntmps46
      go_wp2_with fail
      refine HP.out.mono ?_
      rintro e w1 ⟨v1, v2, rfl, hs1, hs2, q, rfl⟩
      obtain ⟨w1, hw1⟩ : ∃ X, w.drewN q = X := ⟨_, rfl⟩
      rw [hw1]
      have hN1 : NdAt w1 g L := by rw [← hw1]; exact HN.out.below (below_drewN (Below.refl _ _) q) HN.out.lt
      have HG1 : Hid (w.grownBy w1 (some g)) := Lib.hid (by rw [← hw1]; exact grown_drewN w q _)
      have hN2 : NdAt w1.drew g L := hN1.below (below_drewN (Below.refl _ _) 1) hN1.lt
      have HG2 : Hid (w.grownBy w1.drew (some g)) := Lib.hid (grown_trans HG1.out (grown_drewN w1 1 _))
      have HC1 := Lib.hid (HI1.out w1.drew v1 hs1 hN2)
      have HC2 := Lib.hid (fun W L1 (h : NdAt W g L1) (R1 : Int) (hl : Msd L L1 k lo r R1) => HI2.out W v2 L1 hs2 h hl.1)
      have ce := (hN2.cell HX.out).2.1
      obtain ⟨⟨xb, xe⟩, xn, xr⟩ := x
      simp only at ce
      have HK1 := Lib.hid (fun (W : World) (L1 : List Nd) (R1 : Int) (h : Msd L L1 k lo r R1) (hW : NdAt W g L1) => show W.cell? ⟨g, r * 4 + 1, none⟩ = some (.int .i64 xe) from (hW.cell (i := r) (x := ((xb, xe), xn, xr)) (by rw [h.2.2.1 r (.inr (Nat.le_refl _))]; exact HX.out)).2.1)
      have HK2 := Lib.hid (fun (W : World) (L1 L2 : List Nd) (R1 R2 : Int) (h : Msd L L1 k lo r R1) (h2 : Msd L1 L2 k (r + 1) hi R2) (hW : NdAt W g L2) => show W.cell? ⟨g, r * 4 + 1, none⟩ = some (.int .i64 xe) from (hW.cell (i := r) (x := ((xb, xe), xn, xr)) (by rw [h2.2.2.1 r (.inl (Nat.lt_succ_self _)), h.2.2.1 r (.inr (Nat.le_refl _))]; exact HX.out)).2.1)
      have HK3 := Lib.hid (fun (W : World) (L1 L2 : List Nd) (R1 R2 : Int) (h : Msd L L1 k lo r R1) (h2 : Msd L1 L2 k (r + 1) hi R2) (hW : NdAt W g L2) => show W.cell? ⟨g, r * 4 + 3, none⟩ = some (.int .i64 xr) from (hW.cell (i := r) (x := ((xb, xe), xn, xr)) (by rw [h2.2.2.1 r (.inl (Nat.lt_succ_self _)), h.2.2.1 r (.inr (Nat.le_refl _))]; exact HX.out)).2.2.2)
      have HK4 := Lib.hid (fun (W : World) (L1 L2 : List Nd) (R1 R2 R : Int) (h : Msd L L1 k lo r R1) (h2 : Msd L1 L2 k (r + 1) hi R2) (hW : NdAt W g L2) =>
        show (W.setCell ⟨g, r * 4 + 3, none⟩ (.int .i64 R)).cell? ⟨g, r * 4 + 1, none⟩ = some (.int .i64 xe) ∧ (W.setCell ⟨g, r * 4 + 3, none⟩ (.int .i64 R)).cell? ⟨g, r * 4 + 3, none⟩ = some (.int .i64 R) from by
          have hx2 : L2[r]? = some ((xb, xe), xn, xr) := by rw [h2.2.2.1 r (.inl (Nat.lt_succ_self _)), h.2.2.1 r (.inr (Nat.le_refl _))]; exact HX.out
          have hN := hW.reach hx2 R
          have := hN.cell (i := r) (x := ((xb, xe), xn, R)) (by rw [List.getElem?_set_self ((List.getElem?_eq_some_iff.1 hx2).1)])
          exact ⟨this.2.1, this.2.2.2⟩)
      obtain ⟨A1, c1, rfl, -, -⟩ := hs1
      obtain ⟨A2, c2, rfl, -, -⟩ := hs2
      clear hN2 hN1 HI1 HI2 HN
      go_wp2_with fail
      go_region_held3 (fun W' => W'.cell? ⟨g, r * 4 + 1, none⟩ = some (.int .i64 xe))
        (first
          | go_keep
          | (with_reducible exact HK2.out _ _ _ _ _ hM1 hM2 hN4)
          | (with_reducible exact (HK4.out _ _ _ _ _ _ hM1 hM2 hN4).1)
          | (with_reducible exact HK1.out _ _ _ hM1 hN3)
          | fail)
        ((first
          | (go_at_call 46; (with_reducible refine (HC2.out _ _ hN3 _ hM1).mono ?_); rintro e w4 ⟨R2, L2, rfl, hM2, hN4, hg4⟩; have hcr := (HK3.out _ _ _ _ _ hM1 hM2 hN4); have hfr := hN4.frozen (r * 4 + 3))
          | (go_at_call 46; (with_reducible refine HC1.out.mono ?_); rintro e w3 ⟨R1, L1, rfl, hM1, hN3, hg3⟩)
          | fail))
      obtain ⟨R, hR⟩ : ∃ R, (if (if R1 < xe then xe else R1) < R2 then R2 else if R1 < xe then xe else R1) = R := ⟨_, rfl⟩
      have q1 : R1 ≤ R ∧ xe ≤ R ∧ R2 ≤ R := by rw [← hR]; split <;> split at * <;> omega
      rw [hR]
      obtain ⟨hx2, hMs⟩ := HJ.out L1 L2 R1 R2 R hM1 hM2 q1.1 q1.2.1 q1.2.2
      have hNe := hN4.reach hx2 R
      have c3 := (HK4.out _ _ _ _ _ R hM1 hM2 hN4).2
      have hge := grown_trans (grown_trans (grown_trans HG2.out hg3) hg4) (grown_set w4 g (r * 4 + 3) (.int .i64 R))
      have HE := Lib.hid (show MsdV g L (k + 1) lo hi w (.returned (.int .i64 R)) (w4.setCell ⟨g, r * 4 + 3, none⟩ (.int .i64 R)) from ⟨R, _, rfl, hMs, hNe, hge⟩)
      clear hR q1 hx2 hMs hNe hge hM1 hM2 hN3 hN4 hg3 hg4 hcr hfr ce
      obtain ⟨w5, hw5⟩ : ∃ X, w4.setCell ⟨g, r * 4 + 3, none⟩ (.int .i64 R) = X := ⟨_, rfl⟩
      rw [hw5] at HE c3 ⊢
      clear hw5
      go_wp2_with fail
      go_ret
      exact HE.out
end Go.Proofs.YtifdencdbpdbfaaDoor
