/-
  WALKS over package checksum, fourth part: bytes.Equal, Unseal.
-/
import Derived.Test.YtgclmiheahfakaaDoorCkC
namespace Go.Proofs.YtgclmiheahfakaaDoor
open Go.RowKit Go.Shelf Go.Lib

theorem bytes_beq (L L' : List UInt8) : ((⟨L.toArray⟩ : ByteArray).toList == (⟨L'.toArray⟩ : ByteArray).toList) = decide (L = L') := by
  rw [Lib.toList_data, Lib.toList_data, Bool.eq_iff_iff]
  simp
set_option maxHeartbeats 400000 in
theorem equal_any {w : World} {B B' : Nat} {v v' : Value} {L L' : List UInt8} (h : Sees w B v L) (h' : Sees w B' v' L') :
    Calls Tryd.prog 23 #[v, v'] w fun e w' => e = .returned (.bool (decide (L = L'))) ∧ w = w' := by
  have c1 := h.convert
  have c2 := h'.convert
  have e3 := bytes_beq L L'
  obtain ⟨x, hx⟩ : ∃ x, (⟨L.toArray⟩ : ByteArray) = x := ⟨_, rfl⟩
  obtain ⟨y, hy⟩ : ∃ y, (⟨L'.toArray⟩ : ByteArray) = y := ⟨_, rfl⟩
  rw [hx] at c1 e3
  rw [hy] at c2 e3
  have H := Lib.hid e3
  clear e3 hx hy h h'
  go_enter Tryd.func23, Tryd.ntmps23
  go_wp2
  go_ret
  rw [H.out]
  exact ⟨rfl, rfl⟩

set_option maxHeartbeats 400000 in
theorem unseal_short {w : World} {B : Nat} {v : Value} {L : List UInt8} (hs : Sees w B v L) (hm : L.length < 4) :
    Calls Tryd.prog 17 #[v] w fun e w' => e = .returned (.tuple #[.slice none 0 0, .int .i64 10]) ∧ w = w' := by
  obtain ⟨A, cap, hv, _⟩ := hs.le
  obtain ⟨n, hn⟩ : ∃ n, L.length = n := ⟨_, rfl⟩
  rw [hn] at hv hm
  have h4 : (n : Int) < 4 := by omega
  subst hv
  clear hs hn
  go_enter Tryd.func17, Tryd.ntmps17
  go_wp2
  go_ret2
  exact ⟨rfl, rfl⟩

set_option maxHeartbeats 1000000 in
theorem unseal_long {w : World} {v : Value} {L : List UInt8} (hs : Sees w w.heap.size v L) (m : Nat) (hn : L.length = m + 4) (hm : L.length ≤ 10000000) (ht : Tab w) (R : Value → World → Prop)
    (hbad : sealL (L.take m) ≠ L → ∀ w', Below w.heap.size w w' → R (.tuple #[.slice none 0 0, .int .i64 9]) w')
    (hok : sealL (L.take m) = L → ∀ v' w', Sees w' w'.heap.size v' (L.take m) → Below w.heap.size w w' → R (.tuple #[v', .int .i64 0]) w') :
    Calls Tryd.prog 17 #[v] w fun e w' => ∃ r, e = .returned r ∧ R r w' := by
  obtain ⟨A, cap, hv, hcap⟩ := hs.le
  have hs2 := (hv ▸ hs).to.2.2 m (by omega)
  obtain ⟨n, hne⟩ : ∃ n, L.length = n := ⟨_, rfl⟩
  rw [hne] at hv hn hm hcap
  have hseal := seal_any hs2 (by rw [List.length_take]; omega) ht
  have hlen : (sealL (L.take m)).length = n := by rw [seal_len, List.length_take]; omega
  have hpre : (sealL (L.take m)).take m = L.take m := by
    unfold sealL
    exact List.take_left' (by rw [List.length_take]; omega)
  rw [hlen] at hseal
  have HSEAL := Lib.hid hseal
  have HL := Lib.hid hlen
  have HP := Lib.hid hpre
  have HS := Lib.hid hs
  have HBAD := Lib.hid hbad
  have HOK := Lib.hid hok
  have h4 : (4 : Int) ≤ n := by omega
  have hsub : (n : Int) - 4 = (m : Int) := by omega
  have hmn : m ≤ n := by omega
  have hmc : m ≤ cap := by omega
  have hsl := slice_to A n cap m hmn hcap w
  subst hv
  clear hs hs2 hn hlen hpre hseal hbad hok ht hne
  go_enter Tryd.func17, Tryd.ntmps17
  go_wp2_with fail
  refine HSEAL.out.mono ?_
  rintro e w1 ⟨v1, rfl, hown, hb⟩
  obtain ⟨A1, cap1, rfl, hc1⟩ := own_form hown
  have hsees : Sees w1 w1.heap.size (.slice A1 n cap1) (sealL (L.take m)) := sees_own (by rw [HL.out]; exact hown)
  have heq := equal_any hsees (HS.out.below hb)
  have HEQ := Lib.hid heq
  have HSEES := Lib.hid hsees
  have HB := Lib.hid hb
  have hsl1 := slice_to A1 n cap1 m hmn hc1 w1
  clear hown hb hsees heq
  by_cases hd : sealL (L.take m) = L
  · have HD := Lib.hid hd
    have HEQ2 := HEQ.out
    rw [decide_eq_true hd] at HEQ2
    have HEQ3 := Lib.hid HEQ2
    clear HEQ2 HEQ hd
    go_wp2_with fail
    refine HEQ3.out.mono ?_
    rintro e w2 ⟨rfl, rfl⟩
    go_wp2
    go_ret2
    refine ⟨_, rfl, HOK.out HD.out _ _ ?_ HB.out⟩
    have := HSEES.out.to.2.2 m hmn
    rw [HP.out] at this
    exact this
  · have HD := Lib.hid hd
    have HEQ2 := HEQ.out
    rw [decide_eq_false hd] at HEQ2
    have HEQ3 := Lib.hid HEQ2
    clear HEQ2 HEQ hd
    go_wp2_with fail
    refine HEQ3.out.mono ?_
    rintro e w2 ⟨rfl, rfl⟩
    go_wp2
    go_ret2
    exact ⟨_, rfl, HBAD.out HD.out _ HB.out⟩
end Go.Proofs.YtgclmiheahfakaaDoor
