/-
  WALKS over package corporaref01, fourth part: Reverse, sign, Compare, over strings of at most 400 bytes.
-/
import Derived.Test.YtfcekoedhbmaeaaRzC
namespace Go.Proofs.Ytfcekoedhbmaeaa.Ru
open Go.RowKit Go.Shelf Go.Lib

theorem nextB2 {a b c : World} (h : Below a.heap.size a b) (k : Below b.heap.size b c) : Below a.heap.size a c := h.trans (k.mono h.size)
theorem ba_eq {T : ByteArray} {l : List UInt8} (h : T.data.toList = l) : T = ⟨l.toArray⟩ := by
  subst h
  exact ByteArray.ext (by simp)

set_option maxRecDepth 100000 in
set_option maxHeartbeats 1000000 in
theorem refReverse_any (s : ByteArray) (hs : s.size ≤ 400) (w : World) :
    Calls Try.prog 44 #[.string s] w fun e w' => e = .returned (.string ⟨(revL s).toArray⟩) ∧ Below w.heap.size w w' := by
  have HU := Lib.hid (fun w => refUnits_row s hs w)
  have hul := units_le s
  have hfit : ∀ x ∈ units s, x.p + x.w ≤ s.size ∧ 1 ≤ x.w ∧ x.w ≤ 4 := fun x hx => by
    obtain ⟨_, h2, h3, h4, _⟩ := units_fit _ _ _ hx
    rw [← Lib.size_eq] at h2
    exact ⟨by omega, h3, h4⟩
  unfold revL
  obtain ⟨us, hus⟩ : ∃ us, units s = us := ⟨_, rfl⟩
  rw [hus] at HU hul hfit ⊢
  have hn : us.length ≤ 400 := by omega
  have HF := Lib.hid hfit
  clear hul hus hfit
  go_enter Try.func44, Try.ntmps44
  go_wp2_with fail
  refine (HU.out _).mono ?_
  rintro e w1 (⟨rfl, rfl, hb⟩ | ⟨g, cap, rfl, hg, hrow, hb⟩)
  · have HB := Lib.hid hb
    clear hb
    go_wp2_with fail
    go_loopw [3, 9] (fun t i wr => t = .string ⟨#[]⟩ ∧ i = .int .i64 0 ∧ Below w.heap.size w wr) (fun _ _ _ => 0)
    case atStart => exact ⟨rfl, rfl, HB.out⟩
    case round =>
      obtain ⟨rfl, rfl, hb2⟩ := hrel
      go_wp2
      go_ret
      exact ⟨rfl, hb2⟩
  · have HB := Lib.hid hb
    have HR := Lib.hid hrow
    clear hb hrow
    go_wp2_with fail
    go_loopw [3, 9] (fun t i wr => ∃ (k : Nat) (T : ByteArray), k ≤ us.length ∧ i = .int .i64 k ∧ t = .string T ∧ T.size ≤ 4 * k ∧ T.data.toList = (us.take k).reverse.flatMap (txt s) ∧ URow wr g us ∧ Below w.heap.size w wr) (fun _ i _ => us.length - (intOf i).toNat)
    case atStart => exact ⟨0, ⟨#[]⟩, Nat.zero_le _, rfl, rfl, Nat.le_refl _, rfl, HR.out, HB.out⟩
    case round =>
      obtain ⟨k, T, hk, rfl, rfl, hts, hT, hrow, hbel⟩ := hrel
      by_cases hlt : k < us.length
      · obtain ⟨b, hbad⟩ : ∃ b, (!badU us[k]) = b := ⟨_, rfl⟩
        obtain ⟨l0, l1, l2, l3⟩ := hrow.at0 (c := us[k].c) (p := us[k].p) (n := us[k].w) hlt rfl hbad
        obtain ⟨hf1, hf2, hf3⟩ := HF.out _ (List.getElem_mem hlt)
        have hbt : (s.extract us[k].p (us[k].p + us[k].w)).data.toList = txt s us[k] := by
          unfold txt
          rw [Lib.extract_data]
          congr 1
          omega
        have hnext : (s.extract us[k].p (us[k].p + us[k].w) ++ T).data.toList = (us.take (k + 1)).reverse.flatMap (txt s) ∧ (s.extract us[k].p (us[k].p + us[k].w) ++ T).size ≤ 4 * (k + 1) := by
          have h1 : (s.extract us[k].p (us[k].p + us[k].w) ++ T).data.toList = (us.take (k + 1)).reverse.flatMap (txt s) := by
            rw [List.take_succ_eq_append_getElem hlt, List.reverse_append, List.flatMap_append, ← hT]
            rw [ByteArray.data_append, Array.toList_append, hbt]
            simp
          refine ⟨h1, ?_⟩
          have h2 : (txt s us[k]).length ≤ us[k].w := by unfold txt; rw [List.length_take]; omega
          rw [Lib.size_eq, ByteArray.data_append, Array.toList_append, List.length_append, hbt, ← Lib.size_eq]
          omega
        obtain ⟨c, hc⟩ : ∃ c, us[k].c = c := ⟨_, rfl⟩
        obtain ⟨p, hp⟩ : ∃ p, us[k].p = p := ⟨_, rfl⟩
        obtain ⟨n, hn'⟩ : ∃ n, us[k].w = n := ⟨_, rfl⟩
        rw [hc] at l0
        rw [hp] at l1 hf1 hnext
        rw [hn'] at l2 hf1 hf2 hf3 hnext
        have hsl : (s.extract p (p + n)).size = n := by
          rw [Lib.size_eq, Lib.extract_data, List.length_take, List.length_drop, ← Lib.size_eq]
          omega
        have HN := Lib.hid hnext
        have HB2 := Lib.hid hbel
        have HR2 := Lib.hid hrow
        have hlt2 : k < us.length := hlt
        clear hnext hc hp hn' hbel hrow hbad hbt hT
        go_wp2
        go_roundw
        case rel => exact ⟨k + 1, _, by omega, by go_num, rfl, HN.out.2, HN.out.1, HR2.out.alloc _, HB2.out.alloc HB2.out.size _⟩
        case measure => simp [intOf]; omega
      · have HT := Lib.hid (show T.data.toList = us.reverse.flatMap (txt s) by rw [hT, List.take_of_length_le (by omega)])
        have HB2 := Lib.hid hbel
        clear hT hbel hrow
        go_wp2
        go_ret
        exact ⟨by rw [← ba_eq HT.out]; rfl, HB2.out⟩
end Go.Proofs.Ytfcekoedhbmaeaa.Ru
