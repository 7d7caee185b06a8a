/-
  WALKS over the laws' helpers about markup: large.
-/
import Derived.Test.YtjablaidbccnbaaGreatDoorMkT
namespace Go.Proofs.YtjablaidbccnbaaGreatDoor
open Go.RowKit Go.Shelf Go.Lib

/-- The bytes of keys. -/
def totP : List Pr → Nat
  | [] => 0
  | p :: r => p.1.length + p.2.length + totP r
theorem totP_app : ∀ l m : List Pr, totP (l ++ m) = totP l + totP m
  | [], m => by simp [totP]
  | p :: r, m => by
    rw [List.cons_append]
    show _ + totP (r ++ m) = _ + totP r + _
    rw [totP_app r m]
    omega
theorem totP_le {l : List Pr} {p : Pr} (h : p ∈ l) : p.1.length + p.2.length ≤ totP l := by
  induction l with
  | nil => simp at h
  | cons x r ih =>
    show _ ≤ x.1.length + x.2.length + totP r
    rcases List.mem_cons.1 h with rfl | h
    · omega
    · have := ih h
      omega
theorem totP_snoc {l : List Pr} {k : Nat} {p : Pr} (h : l[k]? = some p) : totP (l.take (k + 1)) = totP (l.take k) + (p.1.length + p.2.length) := by
  rw [List.take_add_one, h, Option.toList_some, totP_app]
  rfl
theorem totP_take (l : List Pr) (k : Nat) : totP (l.take k) ≤ totP l := by
  have := totP_app (l.take k) (l.drop k)
  rw [List.take_append_drop] at this
  omega
/-- A tag larger than the statements examine. -/
def largeB (n : Nat) (ks : List Pr) : Bool := decide (2000 < n + totP ks) || decide (12 < ks.length)
theorem largeB_false {n : Nat} {ks : List Pr} (h : largeB n ks = false) : n + totP ks ≤ 2000 ∧ ks.length ≤ 12 := by
  unfold largeB at h
  simp only [Bool.or_eq_false_iff, decide_eq_false_iff_not] at h
  omega
/-- Between two rounds. -/
def LargeI (N : Nat) (ks : List Pr) (w : World) (n i : Value) (wr : World) : Prop :=
  ∃ k : Nat, k ≤ ks.length ∧ i = .int .i64 k ∧ n = .int .i64 ((N + totP (ks.take k) : Nat) : Int) ∧ (k ≠ 0 → N + totP (ks.take k) ≤ 2000) ∧ Below w.heap.size w wr

set_option maxRecDepth 100000 in
set_option maxHeartbeats 2000000 in
theorem large_any {w : World} (c : Bool) (n : ByteArray) {kv : Value} {ks : List Pr} (hk : Keys w kv ks) (hl : ks.length ≤ maxLen) (hn : n.size ≤ 140737488351232) (hs : ∀ q ∈ ks, q.1.length ≤ 140737488351232 ∧ q.2.length ≤ 140737488351232) :
    Calls Tryz.prog 10 #[.agg #[.bool c, .string n, kv]] w fun e w' => e = .returned (.bool (largeB n.size ks)) ∧ Below w.heap.size w w' := by
  unfold maxLen at hl
  obtain ⟨A, cap, hv, hc, _⟩ := id hk
  obtain ⟨R, hR⟩ : ∃ R, largeB n.size ks = R := ⟨_, rfl⟩
  rw [hR]
  obtain ⟨l, hll⟩ : ∃ l, ks.length = l := ⟨_, rfl⟩
  rw [hll] at hv hc hl
  subst hv
  have h1 := block_new w (.cells #[.bool c, .string n, .slice A l cap] 24)
  obtain ⟨V, hV⟩ : ∃ V, w.alloc (.cells #[.bool c, .string n, .slice A l cap] 24) = V := ⟨_, rfl⟩
  have hbV : Below w.heap.size w V := by rw [← hV]; exact (Below.refl _ w).alloc (Nat.le_refl _) _
  rw [hV] at h1
  have a1 := cell_of (i := 1) h1 rfl
  have a2 := cell_of (i := 2) h1 rfl
  have HR := Lib.hid hR
  have HL := Lib.hid hll
  have HK := Lib.hid hk
  have HS := Lib.hid hs
  have HV := Lib.hid hV
  have HBV := Lib.hid hbV
  have H1 := Lib.hid h1
  have HST : Hid (LargeI n.size ks V (.int .i64 (n.size : Int)) (.int .i64 0) V) := Lib.hid ⟨0, Nat.zero_le _, rfl, rfl, fun h => absurd rfl h, Below.refl _ _⟩
  clear hk hs hll hR hV hbV h1
  go_enter Tryz.func10, Tryz.ntmps10
  go_wp2_with fail
  rw [HV.out]
  go_wp2_with fail
  clear a1 a2
  go_loopw [3, 12] (fun n2 i wr => LargeI n.size ks V n2 i wr) (fun _ i _ => l - (Go.RowKit.intOf i).toNat)
  case atStart => exact HST.out
  case round =>
    obtain ⟨k, hkl, rfl, rfl, hle, hb⟩ := hrel
    rw [HL.out] at hkl
    have hbw : Below w.heap.size w wr := HBV.out.trans (hb.mono HBV.out.size)
    have h1 := block_below H1.out hb (Array.getElem?_eq_some_iff.1 H1.out).1
    have a2 := cell_of (i := 2) h1 rfl
    obtain ⟨S, hS⟩ : ∃ S, n.size + totP (ks.take k) = S := ⟨_, rfl⟩
    rw [hS] at hle ⊢
    have hS2 : S ≤ 140737488351232 := by
      by_cases h0 : k = 0
      · subst h0
        rw [← hS]
        show n.size + 0 ≤ _
        omega
      · have := hle h0
        omega
    have HSS := Lib.hid hS
    by_cases hlk : k < l
    · obtain ⟨p, hp⟩ : ∃ p, ks[k]? = some p := ⟨_, List.getElem?_eq_getElem (by rw [HL.out]; exact hlk)⟩
      obtain ⟨A', cap', hv, _, hr⟩ := HK.out.below hbw
      obtain ⟨ba, oa, hA, _, hja⟩ := hr (by rw [HL.out]; omega)
      simp only [Value.slice.injEq] at hv
      obtain ⟨hv, -, -⟩ := hv
      subst hv hA
      obtain ⟨c0, c1⟩ := hja k p hp
      have hps := HS.out p (List.mem_of_getElem? hp)
      have hsn := totP_snoc hp
      obtain ⟨P1, hP1⟩ : ∃ s : ByteArray, (⟨p.1.toArray⟩ : ByteArray) = s := ⟨_, rfl⟩
      obtain ⟨P2, hP2⟩ : ∃ s : ByteArray, (⟨p.2.toArray⟩ : ByteArray) = s := ⟨_, rfl⟩
      have hz1 : P1.size = p.1.length := by rw [← hP1]; rfl
      have hz2 : P2.size = p.2.length := by rw [← hP2]; rfl
      rw [hP1] at c0
      rw [hP2] at c1
      rw [← hz1, ← hz2] at hps hsn
      obtain ⟨hps1, hps2⟩ := hps
      have hnext : n.size + totP (ks.take (k + 1)) = S + (P1.size + P2.size) := by rw [hsn, ← hS]; omega
      have hmore := totP_take ks (k + 1)
      have HN := Lib.hid (And.intro hnext hmore)
      have HB := Lib.hid (hb.alloc hb.size (.cells #[.string P1, .string P2] 54))
      clear hr hja hp hP1 hP2 hz1 hz2 hsn hS hle hnext hmore hb hbw h1
      by_cases hbig : 2000 < S + (P1.size + P2.size)
      · have hbi : (2000 : Int) < (S : Int) + ((P1.size : Int) + (P2.size : Int)) := by omega
        have HRT : Hid (R = true) := Lib.hid (by
          rw [← HR.out]
          unfold largeB
          rw [decide_eq_true (by have := HN.out.1; have := HN.out.2; omega)]
          rfl)
        go_wp2_with fail
        go_ret
        exact ⟨by rw [HRT.out]; rfl, HBV.out.trans (HB.out.mono HBV.out.size)⟩
      · have hbi : ¬ (2000 : Int) < (S : Int) + ((P1.size : Int) + (P2.size : Int)) := by omega
        go_wp2_with fail
        exact ⟨⟨k + 1, by rw [HL.out]; omega, by go_num, by rw [HN.out.1]; go_num, fun _ => by rw [HN.out.1]; omega, HB.out⟩, by simp only [Go.RowKit.intOf]; omega⟩
    · have hkl' : k = l := by omega
      subst hkl'
      have hfin : ks.take k = ks := List.take_of_length_le (by rw [HL.out]; exact Nat.le_refl _)
      rw [hfin] at hS
      have HRT : Hid (R = (decide (2000 < S) || decide (12 < k))) := Lib.hid (by
        rw [← HR.out]
        unfold largeB
        rw [hS, HL.out])
      have HB := Lib.hid hb
      clear hfin hS hle hb hbw h1
      by_cases hbig : 2000 < S
      · have hbi : (2000 : Int) < (S : Int) := by omega
        go_wp2_with fail
        go_ret
        exact ⟨by rw [HRT.out, decide_eq_true hbig]; rfl, HBV.out.trans (HB.out.mono HBV.out.size)⟩
      · have hbi : ¬ (2000 : Int) < (S : Int) := by omega
        by_cases h12 : 12 < k
        · have h12i : (12 : Int) < (k : Int) := by omega
          go_wp2_with fail
          go_ret
          exact ⟨by rw [HRT.out, decide_eq_false hbig, decide_eq_true h12]; rfl, HBV.out.trans (HB.out.mono HBV.out.size)⟩
        · have h12i : ¬ (12 : Int) < (k : Int) := by omega
          go_wp2_with fail
          go_ret
          exact ⟨by rw [HRT.out, decide_eq_false hbig, decide_eq_false h12]; rfl, HBV.out.trans (HB.out.mono HBV.out.size)⟩
end Go.Proofs.YtjablaidbccnbaaGreatDoor
