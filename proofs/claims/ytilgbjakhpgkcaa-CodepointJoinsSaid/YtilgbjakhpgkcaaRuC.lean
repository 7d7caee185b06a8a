/-
  WALKS over package corporaref01, third part: Position and Reverse, over every string of at most 400 bytes.
-/
import Derived.Test.YtilgbjakhpgkcaaRuB
import Derived.Test.YtilgbjakhpgkcaaCpF
namespace Go.Proofs.Ytilgbjakhpgkcaa
open Go.RowKit Go.Shelf Go.Lib

attribute [local go_sem] Oper.semAt_some

theorem cell_alloc_p {W : World} {a : Addr} {v : Value} (o : Obj) (h : W.cell? a = some v) : (W.alloc o).cell? a = some v := cell_kept h (World.grownBy_alloc W o none) (fun r e => by cases e)
theorem takeWhile_congr {α : Type} (f g : α → Bool) : ∀ (l : List α), (∀ x ∈ l, f x = g x) → l.takeWhile f = l.takeWhile g
  | [], _ => rfl
  | a :: l, h => by
    rw [List.takeWhile_cons, List.takeWhile_cons, h a (by simp), takeWhile_congr f g l (fun x hx => h x (by simp [hx]))]

/-- The result cell, the position so far, the row. -/
def RPos (w : World) (g : Nat) (us : List U) (q : Nat × Nat) (wr : World) : Prop :=
  wr.heap[w.heap.size]? = some (.cells #[.int .i64 0, .int .i64 0] 32 (0, 0)) ∧ wr.heap[w.heap.size + 1]? = some (.cells (posV q) 32 (0, 0)) ∧ URow wr g us ∧ Below w.heap.size w wr
theorem RPos.alloc {w wr : World} {g : Nat} {us : List U} {q : Nat × Nat} (h : RPos w g us q wr) (o : Obj) : RPos w g us q (wr.alloc o) :=
  ⟨block_alloc _ h.1, block_alloc _ h.2.1, h.2.2.1.alloc _, h.2.2.2.alloc h.2.2.2.size _⟩
theorem RPos.col {w wr : World} {g : Nat} {us : List U} {q1 q2 : Nat} (hg : w.heap.size + 2 ≤ g) (h : RPos w g us (q1, q2) wr) (v : Nat) : RPos w g us (q1, v) (wr.setCell ⟨w.heap.size + 1, 1, none⟩ (.int .i64 (v : Int))) :=
  ⟨block_other _ h.1 (by omega), block_set _ h.2.1, h.2.2.1.keep (Below.heap_setCell wr ⟨w.heap.size + 1, 1, none⟩ _ g (by show g ≠ w.heap.size + 1; omega)), h.2.2.2.setCell (p := ⟨w.heap.size + 1, 1, none⟩) (by simp) _⟩
theorem RPos.line {w wr : World} {g : Nat} {us : List U} {q1 q2 : Nat} (hg : w.heap.size + 2 ≤ g) (h : RPos w g us (q1, q2) wr) (v : Nat) : RPos w g us (v, q2) (wr.setCell ⟨w.heap.size + 1, 0, none⟩ (.int .i64 (v : Int))) :=
  ⟨block_other _ h.1 (by omega), block_set _ h.2.1, h.2.2.1.keep (Below.heap_setCell wr ⟨w.heap.size + 1, 0, none⟩ _ g (by show g ≠ w.heap.size + 1; omega)), h.2.2.2.setCell (p := ⟨w.heap.size + 1, 0, none⟩) (by simp) _⟩

/-- What a round leaves that goes on. -/
theorem rpos_step {w wr : World} {g : Nat} {us : List U} {k c p n : Nat} (hg : w.heap.size + 2 ≤ g) (hk : k < us.length) (hx : us[k] = ⟨c, p, n⟩) {q1 q2 : Nat} (hq : posP (us.take k) = (q1, q2)) (o : Obj) (h : RPos w g us (q1, q2) wr) :
    (c = 10 → RPos w g us (posP (us.take (k + 1))) ((((wr.alloc o).setCell ⟨w.heap.size + 1, 1, none⟩ (.int .i64 ((q2 : Int) + 1))).setCell ⟨w.heap.size + 1, 0, none⟩ (.int .i64 ((q1 : Int) + 1))).setCell ⟨w.heap.size + 1, 1, none⟩ (.int .i64 1))) ∧
    (c ≠ 10 → RPos w g us (posP (us.take (k + 1))) ((wr.alloc o).setCell ⟨w.heap.size + 1, 1, none⟩ (.int .i64 ((q2 : Int) + 1)))) := by
  rw [List.take_succ_eq_append_getElem hk, posP_snoc, hq, hx]
  have h1 := (h.alloc o).col hg (q2 + 1)
  constructor
  · intro hc
    unfold stepP
    rw [if_pos hc]
    exact (h1.line hg (q1 + 1)).col hg 1
  · intro hc
    unfold stepP
    rw [if_neg hc]
    exact h1
/-- At the loop's start. -/
theorem rpos_start {w w1 : World} {g : Nat} {us : List U} (hrow : URow w1 g us)
    (hb : Below ((w.alloc (.cells #[.int .i64 0, .int .i64 0] 32)).alloc (.cells #[.int .i64 1, .int .i64 1] 32)).heap.size ((w.alloc (.cells #[.int .i64 0, .int .i64 0] 32)).alloc (.cells #[.int .i64 1, .int .i64 1] 32)) w1) : RPos w g us (1, 1) w1 := by
  have h1 := block_alloc (.cells #[.int .i64 1, .int .i64 1] 32) (block_new w (.cells #[.int .i64 0, .int .i64 0] 32))
  have h2 := block_new (w.alloc (.cells #[.int .i64 0, .int .i64 0] 32)) (.cells #[.int .i64 1, .int .i64 1] 32)
  have hz : ((w.alloc (.cells #[.int .i64 0, .int .i64 0] 32)).alloc (.cells #[.int .i64 1, .int .i64 1] 32)).heap.size = w.heap.size + 2 := by simp
  have hz1 : (w.alloc (.cells #[.int .i64 0, .int .i64 0] 32)).heap.size = w.heap.size + 1 := by simp
  rw [hz1] at h2
  have hbb := ((Below.refl w.heap.size w).alloc (Nat.le_refl _) (.cells #[.int .i64 0, .int .i64 0] 32)).alloc (by rw [hz1]; omega) (.cells #[.int .i64 1, .int .i64 1] 32)
  rw [hz] at hb
  exact ⟨block_below h1 hb (by omega), block_below h2 hb (by omega), hrow, hbb.trans (hb.mono (by omega))⟩
/-- The result is laid. -/
theorem rpos_end {w wr : World} {g : Nat} {us : List U} {q : Nat × Nat} (h : RPos w g us q wr) :
    ((wr.setCell ⟨w.heap.size, 0, none⟩ (.int .i64 (q.1 : Int))).setCell ⟨w.heap.size, 1, none⟩ (.int .i64 (q.2 : Int))).heap[w.heap.size]? = some (.cells (posV q) 32 (0, 0)) ∧
    Below w.heap.size w ((wr.setCell ⟨w.heap.size, 0, none⟩ (.int .i64 (q.1 : Int))).setCell ⟨w.heap.size, 1, none⟩ (.int .i64 (q.2 : Int))) :=
  ⟨block_set _ (block_set _ h.1), (h.2.2.2.setCell (p := ⟨w.heap.size, 0, none⟩) (by simp) _).setCell (p := ⟨w.heap.size, 1, none⟩) (by simp) _⟩

/-- The same where there is no unit. -/
def RNil (w wr : World) : Prop :=
  wr.heap[w.heap.size]? = some (.cells #[.int .i64 0, .int .i64 0] 32 (0, 0)) ∧ wr.heap[w.heap.size + 1]? = some (.cells #[.int .i64 1, .int .i64 1] 32 (0, 0)) ∧ Below w.heap.size w wr
theorem rnil_start {w w1 : World}
    (hb : Below ((w.alloc (.cells #[.int .i64 0, .int .i64 0] 32)).alloc (.cells #[.int .i64 1, .int .i64 1] 32)).heap.size ((w.alloc (.cells #[.int .i64 0, .int .i64 0] 32)).alloc (.cells #[.int .i64 1, .int .i64 1] 32)) w1) : RNil w w1 := by
  have h1 := block_alloc (.cells #[.int .i64 1, .int .i64 1] 32) (block_new w (.cells #[.int .i64 0, .int .i64 0] 32))
  have h2 := block_new (w.alloc (.cells #[.int .i64 0, .int .i64 0] 32)) (.cells #[.int .i64 1, .int .i64 1] 32)
  have hz : ((w.alloc (.cells #[.int .i64 0, .int .i64 0] 32)).alloc (.cells #[.int .i64 1, .int .i64 1] 32)).heap.size = w.heap.size + 2 := by simp
  have hz1 : (w.alloc (.cells #[.int .i64 0, .int .i64 0] 32)).heap.size = w.heap.size + 1 := by simp
  rw [hz1] at h2
  have hbb := ((Below.refl w.heap.size w).alloc (Nat.le_refl _) (.cells #[.int .i64 0, .int .i64 0] 32)).alloc (by rw [hz1]; omega) (.cells #[.int .i64 1, .int .i64 1] 32)
  rw [hz] at hb
  exact ⟨block_below h1 hb (by omega), block_below h2 hb (by omega), hbb.trans (hb.mono (by omega))⟩
theorem rnil_end {w wr : World} (h : RNil w wr) :
    ((wr.setCell ⟨w.heap.size, 0, none⟩ (.int .i64 1)).setCell ⟨w.heap.size, 1, none⟩ (.int .i64 1)).heap[w.heap.size]? = some (.cells #[.int .i64 1, .int .i64 1] 32 (0, 0)) ∧
    Below w.heap.size w ((wr.setCell ⟨w.heap.size, 0, none⟩ (.int .i64 1)).setCell ⟨w.heap.size, 1, none⟩ (.int .i64 1)) :=
  ⟨block_set _ (block_set _ h.1), (h.2.2.setCell (p := ⟨w.heap.size, 0, none⟩) (by simp) _).setCell (p := ⟨w.heap.size, 1, none⟩) (by simp) _⟩

set_option maxRecDepth 100000 in
set_option maxHeartbeats 1000000 in
/-- Position, its offset already within the string. -/
theorem refPosition_in (s : ByteArray) (hs : s.size ≤ 400) (at' : Int) (h0 : 0 ≤ at') (h1 : at' ≤ (s.size : Int)) (w : World) :
    Calls Try.prog 22 #[.string s, .int .i64 at'] w fun e w' => e = .returned (.agg (posV (posP (before s at')))) ∧ Below w.heap.size w w' := by
  have HU := Lib.hid (fun w => refUnits_row s hs w)
  have hul := units_le s
  unfold before
  obtain ⟨us, hus⟩ : ∃ us, units s = us := ⟨_, rfl⟩
  rw [hus] at HU hul ⊢
  have hn : us.length ≤ 400 := by omega
  clear hul hus
  have h2 : ¬ at' < 0 := by omega
  have h3 : ¬ (s.size : Int) < at' := by omega
  go_enter Try.func22, Try.ntmps22
  go_wp2_with fail
  refine (HU.out _).mono ?_
  rintro e w1 (⟨rfl, rfl, hb⟩ | ⟨g, cap, rfl, hg, hrow, hb⟩)
  · have hR : RNil w w1 := rnil_start hb
    have HR := Lib.hid hR
    clear hb
    go_wp2_with fail
    go_loopw [17] (fun i wr => i = .int .i64 0 ∧ RNil w wr) (fun _ _ => 0)
    case atStart => exact ⟨rfl, HR.out⟩
    case round =>
      obtain ⟨rfl, hrow⟩ := hrel
      have b1 := hrow.2.1
      have b0 := hrow.1
      have cL := cell_of (i := 0) (v := .int .i64 1) b1 rfl
      have cC := cell_of (i := 1) (v := .int .i64 1) b1 rfl
      have e0 := cell_of (i := 0) (v := .int .i64 0) b0 rfl
      have e1 := cell_of (i := 1) (v := .int .i64 0) b0 rfl
      have g0 := frozen_of (i := 0) b0
      have g1 := frozen_of (i := 1) b0
      have HE := Lib.hid (rnil_end hrow)
      clear hrow b0 b1
      go_wp2
      obtain ⟨hb5, hB5⟩ := HE.out
      have x0 := cell_of (i := 0) (v := .int .i64 1) hb5 rfl
      have x1 := cell_of (i := 1) (v := .int .i64 1) hb5 rfl
      refine bodyPost_ret (v := .agg (posV (1, 1))) ?_ rfl ⟨rfl, hB5⟩
      simp [results, Try.f22, go_sem, x0, x1, posV]
  · have hR : RPos w g us (1, 1) w1 := rpos_start hrow hb
    have HR := Lib.hid hR
    have hg2 : w.heap.size + 2 ≤ g := by simpa using hg
    clear hb hrow hR
    go_wp2_with fail
    go_loopw [17] (fun i wr => ∃ k : Nat, k ≤ us.length ∧ i = .int .i64 k ∧ RPos w g us (posP (us.take k)) wr ∧ ∀ x ∈ us.take k, decide ((x.p : Int) < at') = true) (fun i _ => us.length - (intOf i).toNat)
    case atStart => exact ⟨0, Nat.zero_le _, rfl, HR.out, fun _ h => by simp at h⟩
    case round =>
      obtain ⟨k, hk, rfl, hrow, hall⟩ := hrel
      obtain ⟨q1, q2, hq⟩ : ∃ q1 q2, posP (us.take k) = (q1, q2) := ⟨_, _, rfl⟩
      have hql := posP_le (us.take k)
      rw [hq] at hrow hql
      have hq1 : q1 ≤ 401 := by have := List.length_take_le k us; simp only at hql; omega
      have hq2 : q2 ≤ 401 := by have := List.length_take_le k us; simp only at hql; omega
      have b1 := hrow.2.1
      have b0 := hrow.1
      have cL := cell_of (i := 0) (v := .int .i64 (q1 : Int)) b1 rfl
      have cC := cell_of (i := 1) (v := .int .i64 (q2 : Int)) b1 rfl
      by_cases hlt : k < us.length
      · obtain ⟨b, hbad⟩ : ∃ b, (!badU us[k]) = b := ⟨_, rfl⟩
        obtain ⟨l0, l1, l2, l3⟩ := hrow.2.2.1.at0 (c := us[k].c) (p := us[k].p) (n := us[k].w) hlt rfl hbad
        have cL2 := fun o => cell_alloc_p o cL
        have cC2 := fun o => cell_alloc_p o cC
        have fL := fun o => frozen_of (i := 0) (block_alloc o b1)
        have fC := fun o => frozen_of (i := 1) (block_alloc o b1)
        have e0 := fun o => cell_alloc_p o (cell_of (i := 0) (v := .int .i64 0) b0 rfl)
        have e1 := fun o => cell_alloc_p o (cell_of (i := 1) (v := .int .i64 0) b0 rfl)
        have g0 := fun o => frozen_of (i := 0) (block_alloc o b0)
        have g1 := fun o => frozen_of (i := 1) (block_alloc o b0)
        have hen := fun o => rpos_end (hrow.alloc o)
        have hst := fun o => rpos_step hg2 hlt (c := us[k].c) (p := us[k].p) (n := us[k].w) rfl hq o hrow
        have htw : decide ((us[k].p : Int) < at') = false → us.takeWhile (fun u => decide ((u.p : Int) < at')) = us.take k := fun h => by
          have := takeWhile_stop (fun u : U => decide ((u.p : Int) < at')) us[k] (us.drop (k + 1)) (us.take k) hall h
          rw [← List.drop_eq_getElem_cons hlt, List.take_append_drop] at this
          exact this
        have hall2 : decide ((us[k].p : Int) < at') = true → ∀ x ∈ us.take (k + 1), decide ((x.p : Int) < at') = true := fun h x hx => by
          rw [List.take_succ_eq_append_getElem hlt] at hx
          rcases List.mem_append.1 hx with hx | hx
          · exact hall x hx
          · rw [List.mem_singleton.1 hx]; exact h
        obtain ⟨c, hc⟩ : ∃ c, us[k].c = c := ⟨_, rfl⟩
        obtain ⟨p, hp⟩ : ∃ p, us[k].p = p := ⟨_, rfl⟩
        obtain ⟨n, hn'⟩ : ∃ n, us[k].w = n := ⟨_, rfl⟩
        rw [hc] at l0 hst
        rw [hp] at l1 htw hall2
        rw [hn'] at l2
        have HT := Lib.hid hst
        have HW := Lib.hid htw
        have HE := Lib.hid hen
        have HA := Lib.hid hall2
        have HRR := Lib.hid hrow
        have HQ := Lib.hid hq
        have hlt2 : k < us.length := hlt
        clear hst htw hen hall2 hrow hq hql hall hc hp hn' hbad b0 b1
        by_cases hpa : (p : Int) < at'
        · by_cases h10 : c = 10
          · subst h10
            go_wp2
            go_roundw
            case rel => exact ⟨k + 1, by omega, by go_num, (HT.out _).1 rfl, HA.out (decide_eq_true hpa)⟩
            case measure => simp [intOf]; omega
          · have h11 : ((c : Int) == 10) = false := by rw [beq_eq_false_iff_ne]; omega
            go_wp2
            go_roundw
            case rel => exact ⟨k + 1, by omega, by go_num, (HT.out _).2 h10, HA.out (decide_eq_true hpa)⟩
            case measure => simp [intOf]; omega
        · have hpa2 : at' ≤ (p : Int) := by omega
          go_wp2
          obtain ⟨hb5, hB5⟩ := HE.out (Obj.cells #[Value.int IntKind.i32 ↑c, Value.int IntKind.i64 ↑p, Value.int IntKind.i64 ↑n, Value.bool b] 41)
          have x0 := cell_of (i := 0) (v := .int .i64 (q1 : Int)) hb5 rfl
          have x1 := cell_of (i := 1) (v := .int .i64 (q2 : Int)) hb5 rfl
          refine bodyPost_ret (v := .agg (posV (q1, q2))) ?_ rfl ⟨?_, hB5⟩
          · simp [results, Try.f22, go_sem, x0, x1, posV]
          · rw [HW.out (decide_eq_false (by omega)), HQ.out]
      · have e0 := cell_of (i := 0) (v := .int .i64 0) b0 rfl
        have e1 := cell_of (i := 1) (v := .int .i64 0) b0 rfl
        have g0 := frozen_of (i := 0) b0
        have g1 := frozen_of (i := 1) b0
        have hkk : k = us.length := by omega
        have htw : us.takeWhile (fun u => decide ((u.p : Int) < at')) = us := takeWhile_all _ _ (fun x hx => hall x (by rw [hkk, List.take_length]; exact hx))
        have hqq : posP us = (q1, q2) := by rw [← hq, hkk, List.take_length]
        have HE := Lib.hid (rpos_end hrow)
        have HW := Lib.hid htw
        have HQ := Lib.hid hqq
        clear htw hqq hrow hq hql hall b0 b1
        go_wp2
        obtain ⟨hb5, hB5⟩ := HE.out
        have x0 := cell_of (i := 0) (v := .int .i64 (q1 : Int)) hb5 rfl
        have x1 := cell_of (i := 1) (v := .int .i64 (q2 : Int)) hb5 rfl
        refine bodyPost_ret (v := .agg (posV (q1, q2))) ?_ rfl ⟨?_, hB5⟩
        · simp [results, Try.f22, go_sem, x0, x1, posV]
        · rw [HW.out, HQ.out]
set_option maxRecDepth 100000 in
set_option maxHeartbeats 1000000 in
/-- Position, its offset behind the string. -/
theorem refPosition_hi (s : ByteArray) (hs : s.size ≤ 400) (at' : Int) (h0 : (s.size : Int) < at') (w : World) :
    Calls Try.prog 22 #[.string s, .int .i64 at'] w fun e w' => e = .returned (.agg (posV (posP (before s (s.size : Int))))) ∧ Below w.heap.size w w' := by
  have HU := Lib.hid (fun w => refUnits_row s hs w)
  have hul := units_le s
  unfold before
  obtain ⟨us, hus⟩ : ∃ us, units s = us := ⟨_, rfl⟩
  rw [hus] at HU hul ⊢
  have hn : us.length ≤ 400 := by omega
  clear hul hus
  have h2 : ¬ at' < 0 := by omega
  go_enter Try.func22, Try.ntmps22
  go_wp2_with fail
  refine (HU.out _).mono ?_
  rintro e w1 (⟨rfl, rfl, hb⟩ | ⟨g, cap, rfl, hg, hrow, hb⟩)
  · have hR : RNil w w1 := rnil_start hb
    have HR := Lib.hid hR
    clear hb
    go_wp2_with fail
    go_loopw [17] (fun i wr => i = .int .i64 0 ∧ RNil w wr) (fun _ _ => 0)
    case atStart => exact ⟨rfl, HR.out⟩
    case round =>
      obtain ⟨rfl, hrow⟩ := hrel
      have b1 := hrow.2.1
      have b0 := hrow.1
      have cL := cell_of (i := 0) (v := .int .i64 1) b1 rfl
      have cC := cell_of (i := 1) (v := .int .i64 1) b1 rfl
      have e0 := cell_of (i := 0) (v := .int .i64 0) b0 rfl
      have e1 := cell_of (i := 1) (v := .int .i64 0) b0 rfl
      have g0 := frozen_of (i := 0) b0
      have g1 := frozen_of (i := 1) b0
      have HE := Lib.hid (rnil_end hrow)
      clear hrow b0 b1
      go_wp2
      obtain ⟨hb5, hB5⟩ := HE.out
      have x0 := cell_of (i := 0) (v := .int .i64 1) hb5 rfl
      have x1 := cell_of (i := 1) (v := .int .i64 1) hb5 rfl
      refine bodyPost_ret (v := .agg (posV (1, 1))) ?_ rfl ⟨rfl, hB5⟩
      simp [results, Try.f22, go_sem, x0, x1, posV]
  · have hR : RPos w g us (1, 1) w1 := rpos_start hrow hb
    have HR := Lib.hid hR
    have hg2 : w.heap.size + 2 ≤ g := by simpa using hg
    clear hb hrow hR
    go_wp2_with fail
    go_loopw [17] (fun i wr => ∃ k : Nat, k ≤ us.length ∧ i = .int .i64 k ∧ RPos w g us (posP (us.take k)) wr ∧ ∀ x ∈ us.take k, decide ((x.p : Int) < (s.size : Int)) = true) (fun i _ => us.length - (intOf i).toNat)
    case atStart => exact ⟨0, Nat.zero_le _, rfl, HR.out, fun _ h => by simp at h⟩
    case round =>
      obtain ⟨k, hk, rfl, hrow, hall⟩ := hrel
      obtain ⟨q1, q2, hq⟩ : ∃ q1 q2, posP (us.take k) = (q1, q2) := ⟨_, _, rfl⟩
      have hql := posP_le (us.take k)
      rw [hq] at hrow hql
      have hq1 : q1 ≤ 401 := by have := List.length_take_le k us; simp only at hql; omega
      have hq2 : q2 ≤ 401 := by have := List.length_take_le k us; simp only at hql; omega
      have b1 := hrow.2.1
      have b0 := hrow.1
      have cL := cell_of (i := 0) (v := .int .i64 (q1 : Int)) b1 rfl
      have cC := cell_of (i := 1) (v := .int .i64 (q2 : Int)) b1 rfl
      by_cases hlt : k < us.length
      · obtain ⟨b, hbad⟩ : ∃ b, (!badU us[k]) = b := ⟨_, rfl⟩
        obtain ⟨l0, l1, l2, l3⟩ := hrow.2.2.1.at0 (c := us[k].c) (p := us[k].p) (n := us[k].w) hlt rfl hbad
        have cL2 := fun o => cell_alloc_p o cL
        have cC2 := fun o => cell_alloc_p o cC
        have fL := fun o => frozen_of (i := 0) (block_alloc o b1)
        have fC := fun o => frozen_of (i := 1) (block_alloc o b1)
        have e0 := fun o => cell_alloc_p o (cell_of (i := 0) (v := .int .i64 0) b0 rfl)
        have e1 := fun o => cell_alloc_p o (cell_of (i := 1) (v := .int .i64 0) b0 rfl)
        have g0 := fun o => frozen_of (i := 0) (block_alloc o b0)
        have g1 := fun o => frozen_of (i := 1) (block_alloc o b0)
        have hen := fun o => rpos_end (hrow.alloc o)
        have hst := fun o => rpos_step hg2 hlt (c := us[k].c) (p := us[k].p) (n := us[k].w) rfl hq o hrow
        have htw : decide ((us[k].p : Int) < (s.size : Int)) = false → us.takeWhile (fun u => decide ((u.p : Int) < (s.size : Int))) = us.take k := fun h => by
          have := takeWhile_stop (fun u : U => decide ((u.p : Int) < (s.size : Int))) us[k] (us.drop (k + 1)) (us.take k) hall h
          rw [← List.drop_eq_getElem_cons hlt, List.take_append_drop] at this
          exact this
        have hall2 : decide ((us[k].p : Int) < (s.size : Int)) = true → ∀ x ∈ us.take (k + 1), decide ((x.p : Int) < (s.size : Int)) = true := fun h x hx => by
          rw [List.take_succ_eq_append_getElem hlt] at hx
          rcases List.mem_append.1 hx with hx | hx
          · exact hall x hx
          · rw [List.mem_singleton.1 hx]; exact h
        obtain ⟨c, hc⟩ : ∃ c, us[k].c = c := ⟨_, rfl⟩
        obtain ⟨p, hp⟩ : ∃ p, us[k].p = p := ⟨_, rfl⟩
        obtain ⟨n, hn'⟩ : ∃ n, us[k].w = n := ⟨_, rfl⟩
        rw [hc] at l0 hst
        rw [hp] at l1 htw hall2
        rw [hn'] at l2
        have HT := Lib.hid hst
        have HW := Lib.hid htw
        have HE := Lib.hid hen
        have HA := Lib.hid hall2
        have HRR := Lib.hid hrow
        have HQ := Lib.hid hq
        have hlt2 : k < us.length := hlt
        clear hst htw hen hall2 hrow hq hql hall hc hp hn' hbad b0 b1
        by_cases hpa : (p : Int) < (s.size : Int)
        · by_cases h10 : c = 10
          · subst h10
            go_wp2
            go_roundw
            case rel => exact ⟨k + 1, by omega, by go_num, (HT.out _).1 rfl, HA.out (decide_eq_true hpa)⟩
            case measure => simp [intOf]; omega
          · have h11 : ((c : Int) == 10) = false := by rw [beq_eq_false_iff_ne]; omega
            go_wp2
            go_roundw
            case rel => exact ⟨k + 1, by omega, by go_num, (HT.out _).2 h10, HA.out (decide_eq_true hpa)⟩
            case measure => simp [intOf]; omega
        · have hpa2 : (s.size : Int) ≤ (p : Int) := by omega
          go_wp2
          obtain ⟨hb5, hB5⟩ := HE.out (Obj.cells #[Value.int IntKind.i32 ↑c, Value.int IntKind.i64 ↑p, Value.int IntKind.i64 ↑n, Value.bool b] 41)
          have x0 := cell_of (i := 0) (v := .int .i64 (q1 : Int)) hb5 rfl
          have x1 := cell_of (i := 1) (v := .int .i64 (q2 : Int)) hb5 rfl
          refine bodyPost_ret (v := .agg (posV (q1, q2))) ?_ rfl ⟨?_, hB5⟩
          · simp [results, Try.f22, go_sem, x0, x1, posV]
          · have hw := HW.out (decide_eq_false (by omega))
            simp only [Int.ofNat_lt] at hw
            rw [hw, HQ.out]
      · have e0 := cell_of (i := 0) (v := .int .i64 0) b0 rfl
        have e1 := cell_of (i := 1) (v := .int .i64 0) b0 rfl
        have g0 := frozen_of (i := 0) b0
        have g1 := frozen_of (i := 1) b0
        have hkk : k = us.length := by omega
        have htw : us.takeWhile (fun u => decide ((u.p : Int) < (s.size : Int))) = us := takeWhile_all _ _ (fun x hx => hall x (by rw [hkk, List.take_length]; exact hx))
        have hqq : posP us = (q1, q2) := by rw [← hq, hkk, List.take_length]
        have HE := Lib.hid (rpos_end hrow)
        have HW := Lib.hid htw
        have HQ := Lib.hid hqq
        clear htw hqq hrow hq hql hall b0 b1
        go_wp2
        obtain ⟨hb5, hB5⟩ := HE.out
        have x0 := cell_of (i := 0) (v := .int .i64 (q1 : Int)) hb5 rfl
        have x1 := cell_of (i := 1) (v := .int .i64 (q2 : Int)) hb5 rfl
        refine bodyPost_ret (v := .agg (posV (q1, q2))) ?_ rfl ⟨?_, hB5⟩
        · simp [results, Try.f22, go_sem, x0, x1, posV]
        · have hw := HW.out
          simp only [Int.ofNat_lt] at hw
          rw [hw, HQ.out]
set_option maxRecDepth 100000 in
set_option maxHeartbeats 1000000 in
/-- Position, its offset before the string. -/
theorem refPosition_lo (s : ByteArray) (hs : s.size ≤ 400) (at' : Int) (h0 : at' < 0) (w : World) :
    Calls Try.prog 22 #[.string s, .int .i64 at'] w fun e w' => e = .returned (.agg (posV (posP (before s 0)))) ∧ Below w.heap.size w w' := by
  have HU := Lib.hid (fun w => refUnits_row s hs w)
  have hul := units_le s
  unfold before
  obtain ⟨us, hus⟩ : ∃ us, units s = us := ⟨_, rfl⟩
  rw [hus] at HU hul ⊢
  have hn : us.length ≤ 400 := by omega
  clear hul hus
  have h3 : ¬ (s.size : Int) < 0 := by omega
  go_enter Try.func22, Try.ntmps22
  go_wp2_with fail
  refine (HU.out _).mono ?_
  rintro e w1 (⟨rfl, rfl, hb⟩ | ⟨g, cap, rfl, hg, hrow, hb⟩)
  · have hR : RNil w w1 := rnil_start hb
    have HR := Lib.hid hR
    clear hb
    go_wp2_with fail
    go_loopw [17] (fun i wr => i = .int .i64 0 ∧ RNil w wr) (fun _ _ => 0)
    case atStart => exact ⟨rfl, HR.out⟩
    case round =>
      obtain ⟨rfl, hrow⟩ := hrel
      have b1 := hrow.2.1
      have b0 := hrow.1
      have cL := cell_of (i := 0) (v := .int .i64 1) b1 rfl
      have cC := cell_of (i := 1) (v := .int .i64 1) b1 rfl
      have e0 := cell_of (i := 0) (v := .int .i64 0) b0 rfl
      have e1 := cell_of (i := 1) (v := .int .i64 0) b0 rfl
      have g0 := frozen_of (i := 0) b0
      have g1 := frozen_of (i := 1) b0
      have HE := Lib.hid (rnil_end hrow)
      clear hrow b0 b1
      go_wp2
      obtain ⟨hb5, hB5⟩ := HE.out
      have x0 := cell_of (i := 0) (v := .int .i64 1) hb5 rfl
      have x1 := cell_of (i := 1) (v := .int .i64 1) hb5 rfl
      refine bodyPost_ret (v := .agg (posV (1, 1))) ?_ rfl ⟨rfl, hB5⟩
      simp [results, Try.f22, go_sem, x0, x1, posV]
  · have hR : RPos w g us (1, 1) w1 := rpos_start hrow hb
    have HR := Lib.hid hR
    have hg2 : w.heap.size + 2 ≤ g := by simpa using hg
    clear hb hrow hR
    go_wp2_with fail
    go_loopw [17] (fun i wr => ∃ k : Nat, k ≤ us.length ∧ i = .int .i64 k ∧ RPos w g us (posP (us.take k)) wr ∧ ∀ x ∈ us.take k, decide ((x.p : Int) < (0 : Int)) = true) (fun i _ => us.length - (intOf i).toNat)
    case atStart => exact ⟨0, Nat.zero_le _, rfl, HR.out, fun _ h => by simp at h⟩
    case round =>
      obtain ⟨k, hk, rfl, hrow, hall⟩ := hrel
      obtain ⟨q1, q2, hq⟩ : ∃ q1 q2, posP (us.take k) = (q1, q2) := ⟨_, _, rfl⟩
      have hql := posP_le (us.take k)
      rw [hq] at hrow hql
      have hq1 : q1 ≤ 401 := by have := List.length_take_le k us; simp only at hql; omega
      have hq2 : q2 ≤ 401 := by have := List.length_take_le k us; simp only at hql; omega
      have b1 := hrow.2.1
      have b0 := hrow.1
      have cL := cell_of (i := 0) (v := .int .i64 (q1 : Int)) b1 rfl
      have cC := cell_of (i := 1) (v := .int .i64 (q2 : Int)) b1 rfl
      by_cases hlt : k < us.length
      · obtain ⟨b, hbad⟩ : ∃ b, (!badU us[k]) = b := ⟨_, rfl⟩
        obtain ⟨l0, l1, l2, l3⟩ := hrow.2.2.1.at0 (c := us[k].c) (p := us[k].p) (n := us[k].w) hlt rfl hbad
        have cL2 := fun o => cell_alloc_p o cL
        have cC2 := fun o => cell_alloc_p o cC
        have fL := fun o => frozen_of (i := 0) (block_alloc o b1)
        have fC := fun o => frozen_of (i := 1) (block_alloc o b1)
        have e0 := fun o => cell_alloc_p o (cell_of (i := 0) (v := .int .i64 0) b0 rfl)
        have e1 := fun o => cell_alloc_p o (cell_of (i := 1) (v := .int .i64 0) b0 rfl)
        have g0 := fun o => frozen_of (i := 0) (block_alloc o b0)
        have g1 := fun o => frozen_of (i := 1) (block_alloc o b0)
        have hen := fun o => rpos_end (hrow.alloc o)
        have hst := fun o => rpos_step hg2 hlt (c := us[k].c) (p := us[k].p) (n := us[k].w) rfl hq o hrow
        have htw : decide ((us[k].p : Int) < (0 : Int)) = false → us.takeWhile (fun u => decide ((u.p : Int) < (0 : Int))) = us.take k := fun h => by
          have := takeWhile_stop (fun u : U => decide ((u.p : Int) < (0 : Int))) us[k] (us.drop (k + 1)) (us.take k) hall h
          rw [← List.drop_eq_getElem_cons hlt, List.take_append_drop] at this
          exact this
        have hall2 : decide ((us[k].p : Int) < (0 : Int)) = true → ∀ x ∈ us.take (k + 1), decide ((x.p : Int) < (0 : Int)) = true := fun h x hx => by
          rw [List.take_succ_eq_append_getElem hlt] at hx
          rcases List.mem_append.1 hx with hx | hx
          · exact hall x hx
          · rw [List.mem_singleton.1 hx]; exact h
        obtain ⟨c, hc⟩ : ∃ c, us[k].c = c := ⟨_, rfl⟩
        obtain ⟨p, hp⟩ : ∃ p, us[k].p = p := ⟨_, rfl⟩
        obtain ⟨n, hn'⟩ : ∃ n, us[k].w = n := ⟨_, rfl⟩
        rw [hc] at l0 hst
        rw [hp] at l1 htw hall2
        rw [hn'] at l2
        have HT := Lib.hid hst
        have HW := Lib.hid htw
        have HE := Lib.hid hen
        have HA := Lib.hid hall2
        have HRR := Lib.hid hrow
        have HQ := Lib.hid hq
        have hlt2 : k < us.length := hlt
        clear hst htw hen hall2 hrow hq hql hall hc hp hn' hbad b0 b1
        have hpa : ¬ (p : Int) < (0 : Int) := by omega
        have hpa2 : (0 : Int) ≤ (p : Int) := by omega
        go_wp2
        obtain ⟨hb5, hB5⟩ := HE.out (Obj.cells #[Value.int IntKind.i32 ↑c, Value.int IntKind.i64 ↑p, Value.int IntKind.i64 ↑n, Value.bool b] 41)
        have x0 := cell_of (i := 0) (v := .int .i64 (q1 : Int)) hb5 rfl
        have x1 := cell_of (i := 1) (v := .int .i64 (q2 : Int)) hb5 rfl
        refine bodyPost_ret (v := .agg (posV (q1, q2))) ?_ rfl ⟨?_, hB5⟩
        · simp [results, Try.f22, go_sem, x0, x1, posV]
        · rw [HW.out (decide_eq_false (by omega)), HQ.out]
      · have e0 := cell_of (i := 0) (v := .int .i64 0) b0 rfl
        have e1 := cell_of (i := 1) (v := .int .i64 0) b0 rfl
        have g0 := frozen_of (i := 0) b0
        have g1 := frozen_of (i := 1) b0
        have hkk : k = us.length := by omega
        have htw : us.takeWhile (fun u => decide ((u.p : Int) < (0 : Int))) = us := takeWhile_all _ _ (fun x hx => hall x (by rw [hkk, List.take_length]; exact hx))
        have hqq : posP us = (q1, q2) := by rw [← hq, hkk, List.take_length]
        have HE := Lib.hid (rpos_end hrow)
        have HW := Lib.hid htw
        have HQ := Lib.hid hqq
        clear htw hqq hrow hq hql hall b0 b1
        go_wp2
        obtain ⟨hb5, hB5⟩ := HE.out
        have x0 := cell_of (i := 0) (v := .int .i64 (q1 : Int)) hb5 rfl
        have x1 := cell_of (i := 1) (v := .int .i64 (q2 : Int)) hb5 rfl
        refine bodyPost_ret (v := .agg (posV (q1, q2))) ?_ rfl ⟨?_, hB5⟩
        · simp [results, Try.f22, go_sem, x0, x1, posV]
        · rw [HW.out, HQ.out]
/-- Position, whatever the offset. -/
theorem refPosition_any (s : ByteArray) (hs : s.size ≤ 400) (at' : Int) (w : World) :
    Calls Try.prog 22 #[.string s, .int .i64 at'] w fun e w' => e = .returned (.agg (posV (posP (before s at')))) ∧ Below w.heap.size w w' := by
  by_cases h0 : 0 ≤ at'
  · by_cases h1 : at' ≤ (s.size : Int)
    · exact refPosition_in s hs at' h0 h1 w
    · have e : before s at' = before s (s.size : Int) := by
        unfold before
        refine takeWhile_congr _ _ _ (fun x hx => ?_)
        obtain ⟨_, h2, h3, _⟩ := units_fit _ _ _ hx
        rw [← Lib.size_eq] at h2
        rw [decide_eq_decide]
        omega
      rw [e]
      exact refPosition_hi s hs at' (by omega) w
  · have e : before s at' = before s 0 := by
      unfold before
      refine takeWhile_congr _ _ _ (fun x hx => ?_)
      rw [decide_eq_decide]
      omega
    rw [e]
    exact refPosition_lo s hs at' (by omega) w
end Go.Proofs.Ytilgbjakhpgkcaa
