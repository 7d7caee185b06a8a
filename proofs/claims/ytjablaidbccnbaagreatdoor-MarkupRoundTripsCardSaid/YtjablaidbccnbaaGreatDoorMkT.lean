/-
  WALKS over package markup, tenth part: keys in memory; hasName; the order of keys; sorted.
-/
import Derived.Test.YtjablaidbccnbaaGreatDoorMkR
import Derived.Test.YtjablaidbccnbaaGreatDoorMeB
namespace Go.Proofs.YtjablaidbccnbaaGreatDoor
open Go.RowKit Go.Shelf Go.Lib

/-- A key's two cells. -/
def encP (p : Pr) : List Value := [.string ⟨p.1.toArray⟩, .string ⟨p.2.toArray⟩]
/-- A value that reads as a list of keys. -/
def Keys (w : World) (v : Value) (ks : List Pr) : Prop :=
  ∃ A cap, v = .slice A ks.length cap ∧ ks.length ≤ cap ∧ (0 < ks.length → ∃ b off, A = some ⟨b, off, none⟩ ∧ b < w.heap.size ∧
    ∀ (j : Nat) (p : Pr), ks[j]? = some p → w.cell? ⟨b, off + j * 2, none⟩ = some (.string ⟨p.1.toArray⟩) ∧ w.cell? ⟨b, off + j * 2 + 1, none⟩ = some (.string ⟨p.2.toArray⟩))
theorem Keys.keep {w w' : World} {v : Value} {ks : List Pr} (h : Keys w v ks) (hs : w.heap.size ≤ w'.heap.size) (hk : ∀ p : Addr, p.block < w.heap.size → w'.cell? p = w.cell? p) : Keys w' v ks := by
  obtain ⟨A, cap, hv, hc, hr⟩ := h
  refine ⟨A, cap, hv, hc, fun h0 => ?_⟩
  obtain ⟨b, off, hA, hb, hj⟩ := hr h0
  exact ⟨b, off, hA, Nat.lt_of_lt_of_le hb hs, fun j p hp => ⟨(hk _ hb).trans (hj j p hp).1, (hk _ hb).trans (hj j p hp).2⟩⟩
theorem Keys.below {w w' : World} {v : Value} {ks : List Pr} (h : Keys w v ks) (hb : Below w.heap.size w w') : Keys w' v ks := h.keep hb.size fun _ hp => hb.cell hp
theorem keys_nil (w : World) : Keys w (.slice none 0 0) [] := ⟨none, 0, rfl, Nat.le_refl _, fun h => absurd h (by simp)⟩
theorem flat_len (ks : List Pr) : (ks.flatMap encP).length = ks.length * 2 := by
  induction ks with
  | nil => rfl
  | cons p r ih => rw [List.flatMap_cons, List.length_append, ih, List.length_cons]; simp [encP]; omega
theorem flat_at : ∀ (ks : List Pr) (j : Nat) (p : Pr), ks[j]? = some p → (ks.flatMap encP)[j * 2]? = some (.string ⟨p.1.toArray⟩) ∧ (ks.flatMap encP)[j * 2 + 1]? = some (.string ⟨p.2.toArray⟩)
  | [], j, p, h => by simp at h
  | q :: r, 0, p, h => by
    simp at h
    subst h
    simp [List.flatMap_cons, encP]
  | q :: r, j + 1, p, h => by
    have ih := flat_at r j p (by simpa using h)
    rw [List.flatMap_cons]
    have e1 : (j + 1) * 2 = (encP q).length + j * 2 := by simp [encP]; omega
    have e2 : (j + 1) * 2 + 1 = (encP q).length + (j * 2 + 1) := by simp [encP]; omega
    rw [e2, e1, List.getElem?_append_right (by omega), List.getElem?_append_right (by omega), Nat.add_sub_cancel_left, Nat.add_sub_cancel_left]
    exact ih
theorem keys_own {w : World} {base : Nat} {v : Value} {ks : List Pr} (h : w.ownsRow base 54 2 v ks.length (ks.flatMap encP)) : Keys w v ks := by
  rcases h.2 with ⟨rfl, h0⟩ | ⟨g, cap, cur, hv, hb, hh, hc, _⟩
  · have : ks = [] := List.length_eq_zero_iff.1 h0
    subst this
    exact keys_nil w
  · subst hv
    refine ⟨_, cap, rfl, hc, fun _ => ⟨g, 0, rfl, (Array.getElem?_eq_some_iff.1 hh).1, fun j p hp => ?_⟩⟩
    have hj : j < ks.length := (List.getElem?_eq_some_iff.1 hp).1
    obtain ⟨f1, f2⟩ := flat_at ks j p hp
    rw [Nat.zero_add, h.cellAt (j * 2) (by omega), h.cellAt (j * 2 + 1) (by omega)]
    exact ⟨f1, f2⟩
theorem enc_one : ∀ (x : Pr), ∀ v ∈ encP x, v.oneCell' = true := by
  intro x v hv
  simp only [encP, List.mem_cons, List.not_mem_nil, or_false] at hv
  rcases hv with rfl | rfl <;> rfl

set_option maxHeartbeats 1000000 in
theorem hasName1_any (x : Pr) (n : Bs) (B : Nat) (W : World) (hB : W.heap[B]? = some (.cells #[.string ⟨n.toArray⟩] 9 (0, 0))) :
    Calls Tryz.prog 66 #[.agg #[.string ⟨x.1.toArray⟩, .string ⟨x.2.toArray⟩], .pointer (some ⟨B, 0, none⟩)] W fun e w' => e = .returned (.bool (decide (x.1 = n))) ∧ Below W.heap.size W w' := by
  have c0 := cell_of hB (i := 0) (v := .string ⟨n.toArray⟩) rfl
  have hlt : B < W.heap.size := (Array.getElem?_eq_some_iff.1 hB).1
  have c1 : (W.alloc (.cells #[.string ⟨x.1.toArray⟩, .string ⟨x.2.toArray⟩] 54)).cell? ⟨B, 0, none⟩ = some (.string ⟨n.toArray⟩) := cell_of (block_alloc _ hB) rfl
  obtain ⟨a, ha⟩ : ∃ a, x.1 = a := ⟨_, rfl⟩
  obtain ⟨c, hc⟩ : ∃ c, x.2 = c := ⟨_, rfl⟩
  rw [ha, hc] at c1
  rw [ha, hc]
  obtain ⟨sa, has⟩ : ∃ s : ByteArray, (⟨a.toArray⟩ : ByteArray) = s := ⟨_, rfl⟩
  obtain ⟨sn, hns⟩ : ∃ s : ByteArray, (⟨n.toArray⟩ : ByteArray) = s := ⟨_, rfl⟩
  have he : (sa.toList == sn.toList) = decide (a = n) := by
    rw [← has, ← hns, Lib.toList_data, Lib.toList_data, Bool.eq_iff_iff]
    simp
  rw [has, hns] at c1
  rw [hns] at c0
  rw [has, ← he]
  obtain ⟨q, hq⟩ : ∃ q, (sa.toList == sn.toList) = q := ⟨_, rfl⟩
  rw [hq]
  clear he ha hc has hns hB
  go_enter Tryz.func66, Tryz.ntmps66
  go_wp2_with fail
  go_ret
  exact ⟨by rw [← hq]; rfl, (Below.refl _ W).alloc (Nat.le_refl _) _⟩
theorem hasN_take (ks : List Pr) (n : Bs) : ((ks.take ks.length).any fun x => decide (x.1 = n)) = hasN ks n := by rw [List.take_length]; rfl

set_option maxHeartbeats 1000000 in
/-- slices.ContainsFunc of no element. -/
theorem contains_none (A : Option Addr) (cap : Nat) (fv : Value) (w : World) :
    Calls Tryz.prog 65 #[.slice A 0 cap, fv] w fun e w' => e = .returned (.bool false) ∧ Below w.heap.size w w' := by
  have hI : ∀ W : World, Calls Tryz.prog 88 #[.slice A 0 cap, fv] W fun e w' => e = .returned (.int .i64 (-1)) ∧ w' = W := by
    intro W
    go_enter Tryz.func88, Tryz.ntmps88
    go_wp2_with fail
    go_loopw [8] (fun i wr => i = .int .i64 0 ∧ wr = W) (fun _ _ => 0)
    case atStart => exact ⟨rfl, rfl⟩
    case round =>
      obtain ⟨rfl, rfl⟩ := hrel
      go_wp2_with fail
      go_ret
      exact ⟨rfl, rfl⟩
  have HI := Lib.hid hI
  clear hI
  go_enter Tryz.func65, Tryz.ntmps65
  go_wp2_with fail
  refine (HI.out _).mono ?_
  rintro e w1 ⟨rfl, rfl⟩
  go_wp2_with fail
  go_ret
  exact ⟨rfl, Below.refl _ _⟩

set_option maxHeartbeats 1000000 in
theorem hasName_any {w : World} {v : Value} {ks : List Pr} (hk : Keys w v ks) (hl : ks.length ≤ 1000000) (n : Bs) :
    Calls Tryz.prog 54 #[v, .string ⟨n.toArray⟩] w fun e w' => e = .returned (.bool (hasN ks n)) ∧ Below w.heap.size w w' := by
  have hb1 : Below w.heap.size w (w.alloc (.cells #[.string ⟨n.toArray⟩] 9)) := (Below.refl _ w).alloc (Nat.le_refl _) _
  have hcon : Calls Tryz.prog 65 #[v, .func (.func 66) #[] #[.pointer (some ⟨w.heap.size, 0, none⟩)]] (w.alloc (.cells #[.string ⟨n.toArray⟩] 9)) fun e w' => e = .returned (.bool (hasN ks n)) ∧ Below w.heap.size w w' := by
    obtain ⟨A, cap, rfl, hc, hr⟩ := hk.below hb1
    by_cases h0 : 0 < ks.length
    · obtain ⟨b, off, rfl, hbl, hj⟩ := hr h0
      have h := AnyQ.slices_ContainsFunc Tryz.laysCont 2 Tryz.isAgg54 Tryz.sizeOf54 encP (fun _ => rfl) (fun x : Pr => decide (x.1 = n)) 66 #[.pointer (some ⟨w.heap.size, 0, none⟩)]
        (enters_of Tryz.func66 (by kernel_rfl) rfl) b off ks.length cap ks (w.alloc (.cells #[.string ⟨n.toArray⟩] 9))
        (fun W x hW => (hasName1_any x n w.heap.size W (block_below (block_new w _) hW (by simp))).mono fun e w' h => ⟨h.1, hW.trans (h.2.mono hW.size)⟩)
        (Nat.le_refl _) (by omega) hbl (fun j hjl i u hu => by
          have hp : ks[j]? = some (ks[j]!) := by rw [List.getElem?_eq_getElem hjl]; simp [hjl]
          obtain ⟨h1, h2⟩ := hj j _ hp
          match i, hu with
          | 0, hu => simp only [encP, List.getElem?_cons_zero, Option.some.injEq] at hu; rw [← hu]; exact h1
          | 1, hu => simp only [encP, List.getElem?_cons_succ, List.getElem?_cons_zero, Option.some.injEq] at hu; rw [← hu]; exact h2
          | i + 2, hu => simp [encP] at hu)
      rw [hasN_take] at h
      refine h.mono fun e w' h => ⟨h.1, hb1.trans (h.2.mono hb1.size)⟩
    · have : ks = [] := List.length_eq_zero_iff.1 (by omega)
      subst this
      exact (contains_none A cap _ _).mono fun e w' h => ⟨h.1, hb1.trans (h.2.mono hb1.size)⟩
  have HC := Lib.hid hcon
  obtain ⟨A, cap, rfl, hc, hr⟩ := hk
  clear hcon hr hb1
  obtain ⟨q, hq⟩ : ∃ q, hasN ks n = q := ⟨_, rfl⟩
  rw [hq] at HC ⊢
  have hmf : ∀ (fn : Fn) (first cap : Array Value) (w : World), (Instr.makeFunc fn first cap).run Tryz.prog w = .ok (.func fn first cap) w := fun _ _ _ _ => rfl
  go_enter Tryz.func54, Tryz.ntmps54
  go_wp2_with fail
  refine HC.out.mono ?_
  rintro e w1 ⟨rfl, hb⟩
  go_wp2_with fail
  go_ret
  exact ⟨rfl, hb⟩
end Go.Proofs.YtjablaidbccnbaaGreatDoor
