/-
  WALKS over the laws' helpers about markup: equal.
-/
import Derived.Test.YtjablaidbccnbaaGreatDoorMkX
namespace Go.Proofs.YtjablaidbccnbaaGreatDoor
open Go.RowKit Go.Shelf Go.Lib

set_option maxRecDepth 100000 in
set_option maxHeartbeats 2000000 in
theorem equal_any {w : World} (c : Bool) (n : ByteArray) (A B : Option Addr) (l cap capB : Nat) (ks : List Pr) (hl : l ≤ 1000000) (ha : Keys w (.slice A l cap) ks) (hb : Keys w (.slice B l capB) ks) :
    Calls Tryz.prog 8 #[.agg #[.bool c, .string n, .slice A l cap], .agg #[.bool c, .string n, .slice B l capB]] w fun e w' => e = .returned (.bool true) ∧ Below w.heap.size w w' := by
  obtain ⟨V, hV⟩ : ∃ V, ((w.alloc (.cells #[.bool c, .string n, .slice A l cap] 24)).alloc (.cells #[.bool c, .string n, .slice B l capB] 28)) = V := ⟨_, rfl⟩
  have hbV : Below w.heap.size w V := by
    rw [← hV]
    exact ((Below.refl _ w).alloc (Nat.le_refl _) _).alloc (by simp) _
  have h1 : V.heap[w.heap.size]? = some (.cells #[.bool c, .string n, .slice A l cap] 24 (0, 0)) := by rw [← hV]; exact block_alloc _ (block_new w _)
  have h2 : V.heap[w.heap.size + 1]? = some (.cells #[.bool c, .string n, .slice B l capB] 28 (0, 0)) := by
    have := block_new (w.alloc (.cells #[.bool c, .string n, .slice A l cap] 24)) (.cells #[.bool c, .string n, .slice B l capB] 28)
    rw [← hV]
    simpa using this
  obtain ⟨q, hq⟩ : ∃ q, w.heap.size = q := ⟨_, rfl⟩
  rw [hq] at h1 h2
  have a0 := cell_of (i := 0) h1 rfl
  have a1 := cell_of (i := 1) h1 rfl
  have a2 := cell_of (i := 2) h1 rfl
  have b0 := cell_of (i := 0) h2 rfl
  have b1 := cell_of (i := 1) h2 rfl
  have b2 := cell_of (i := 2) h2 rfl
  have HV := Lib.hid hV
  have HBV := Lib.hid hbV
  have H1 := Lib.hid h1
  have H2 := Lib.hid h2
  have HA := Lib.hid ha
  have HB := Lib.hid hb
  have HL : Hid (ks.length = l) := Lib.hid (by obtain ⟨_, _, hv, _⟩ := ha; cases hv; rfl)
  have hcc : (c != c) = false := by simp
  clear hV hbV h1 h2 ha hb
  go_enter Tryz.func8, Tryz.ntmps8
  go_wp2_with fail
  rw [HV.out]
  clear hq
  go_wp2_with fail
  clear a0 a1 a2 b0 b1 b2
  go_loopw [30] (fun v wr => ∃ k : Nat, k ≤ l ∧ v = .int .i64 k ∧ Below V.heap.size V wr) (fun v _ => l - (Go.RowKit.intOf v).toNat)
  case atStart => exact ⟨0, Nat.zero_le _, rfl, Below.refl _ _⟩
  case round =>
    obtain ⟨k, hk, rfl, hbr⟩ := hrel
    by_cases hlk : k < l
    · have g1 := block_below H1.out hbr (Array.getElem?_eq_some_iff.1 H1.out).1
      have g2 := block_below H2.out hbr (Array.getElem?_eq_some_iff.1 H2.out).1
      have a2 := cell_of (i := 2) g1 rfl
      have b2 := cell_of (i := 2) g2 rfl
      have hbw : Below w.heap.size w wr := HBV.out.trans (hbr.mono HBV.out.size)
      obtain ⟨p, hp⟩ : ∃ p, ks[k]? = some p := ⟨_, List.getElem?_eq_getElem (by rw [HL.out]; exact hlk)⟩
      obtain ⟨A', cap', hv, _, hr⟩ := HA.out.below hbw
      obtain ⟨B', cap'', hv', _, hr'⟩ := HB.out.below hbw
      obtain ⟨ba, oa, hA, _, hja⟩ := hr (by rw [HL.out]; omega)
      obtain ⟨bb, ob, hB, _, hjb⟩ := hr' (by rw [HL.out]; omega)
      simp only [Value.slice.injEq] at hv hv'
      obtain ⟨hv, -, -⟩ := hv
      obtain ⟨hv', -, -⟩ := hv'
      subst hv hv' hA hB
      obtain ⟨c0, c1⟩ := hja k p hp
      obtain ⟨d0, d1⟩ := hjb k p hp
      obtain ⟨P1, hP1⟩ : ∃ s : ByteArray, (⟨p.1.toArray⟩ : ByteArray) = s := ⟨_, rfl⟩
      obtain ⟨P2, hP2⟩ : ∃ s : ByteArray, (⟨p.2.toArray⟩ : ByteArray) = s := ⟨_, rfl⟩
      rw [hP1] at c0 d0
      rw [hP2] at c1 d1
      have HR := Lib.hid hbr
      clear hr hr' hja hjb hp hP1 hP2 hbr hbw g1 g2
      go_wp2_with fail
      go_quiet (fail)
      clear c0 c1 d0 d1 a2 b2
      go_wp2_with fail
      exact ⟨⟨k + 1, by omega, by go_num, below_drewN HR.out _⟩, by simp only [Go.RowKit.intOf]; omega⟩
    · have HR := Lib.hid hbr
      clear hbr
      go_wp2_with fail
      go_ret
      exact ⟨rfl, HBV.out.trans (HR.out.mono HBV.out.size)⟩
end Go.Proofs.YtjablaidbccnbaaGreatDoor
