/-
  WALKS over package corporaref01, last part: Fold, over every string of at most 400 bytes.
-/
import Derived.Test.YtilgbjakhpgkcaaFoR
import Derived.BigQuiet
namespace Go.Proofs.Ytilgbjakhpgkcaa
open Go.RowKit Go.Shelf Go.Lib

theorem below_dN {B : Nat} {a w : World} (h : Below B a w) (n : Nat) : Below B a (w.drewN n) := h.trans ⟨rfl, rfl, rfl, Nat.le_refl _, fun _ _ => rfl⟩
set_option maxRecDepth 100000 in
set_option maxHeartbeats 2000000 in
theorem refFold_any (s : ByteArray) (hs : s.size ≤ 400) (w : World) :
    Calls Try.prog 24 #[.string s] w fun e w' => e = .returned (.string ⟨(foldL s).toArray⟩) ∧ Below w.heap.size w w' := by
  have HU := Lib.hid (fun w => refUnits_row s hs w)
  have hul := units_le s
  have hfit : ∀ x ∈ units s, (x.p + x.w ≤ s.size ∧ 1 ≤ x.w ∧ x.w ≤ 4 ∧ x.c ≤ 1114111) ∧ (badU x = false → (Utf8.encode (x.c : Int)).data.toList = txt s x) := fun x hx => by
    obtain ⟨_, h2, h3, h4, h5, _⟩ := units_fit _ _ _ hx
    rw [← Lib.size_eq] at h2
    exact ⟨⟨by omega, h3, h4, h5⟩, enc_txt s x hx⟩
  unfold foldL
  obtain ⟨us, hus⟩ : ∃ us, units s = us := ⟨_, rfl⟩
  rw [hus] at HU hul hfit ⊢
  have hn : us.length ≤ 400 := by omega
  have HF := Lib.hid hfit
  clear hul hus hfit
  go_enter Try.func24, Try.ntmps24
  go_wp2_with fail
  refine (HU.out _).mono ?_
  rintro e w1 (⟨rfl, rfl, hb⟩ | ⟨g, cap, rfl, hg, hrow, hb⟩)
  · have HB := Lib.hid hb
    clear hb
    go_wp2_with fail
    go_loopw [3, 9] (fun t i wr => t = .string ⟨#[]⟩ ∧ i = .int .i64 0 ∧ Below w.heap.size w wr) (fun _ _ _ => 0)
    case atStart => exact ⟨rfl, rfl, HB.out⟩
    case round =>
      obtain ⟨rfl, rfl, hb2⟩ := hrel
      go_wp2
      go_ret
      exact ⟨rfl, hb2⟩
  · have HB := Lib.hid hb
    have HR := Lib.hid hrow
    clear hb hrow
    go_wp2_with fail
    go_loopw [3, 9] (fun t i wr => ∃ (k : Nat) (T : ByteArray), k ≤ us.length ∧ i = .int .i64 k ∧ t = .string T ∧ T.size ≤ 4 * k ∧ T.data.toList = (us.take k).flatMap (pieceF s) ∧ URow wr g us ∧ Below w.heap.size w wr) (fun _ i _ => us.length - (intOf i).toNat)
    case atStart => exact ⟨0, ⟨#[]⟩, Nat.zero_le _, rfl, rfl, Nat.le_refl _, rfl, HR.out, HB.out⟩
    case round =>
      obtain ⟨k, T, hk, rfl, rfl, hts, hT, hrow, hbel⟩ := hrel
      by_cases hlt : k < us.length
      · obtain ⟨b, hbad⟩ : ∃ b, (!badU us[k]) = b := ⟨_, rfl⟩
        obtain ⟨l0, l1, l2, l3⟩ := hrow.at0 (c := us[k].c) (p := us[k].p) (n := us[k].w) hlt rfl hbad
        obtain ⟨⟨hf1, hf2, hf3, hf4⟩, hf5⟩ := HF.out _ (List.getElem_mem hlt)
        have hbt : (s.extract us[k].p (us[k].p + us[k].w)).data.toList = txt s us[k] := by
          unfold txt
          rw [Lib.extract_data]
          congr 1
          omega
        have hpc : pieceF s us[k] = if badU us[k] then txt s us[k] else (Utf8.encode (foldC us[k].c : Nat)).data.toList := rfl
        have hnext : ∀ X : ByteArray, X.data.toList = pieceF s us[k] → X.size ≤ 4 → (T ++ X).data.toList = (us.take (k + 1)).flatMap (pieceF s) ∧ (T ++ X).size ≤ 4 * (k + 1) := fun X hX h4 => by
          refine ⟨?_, ?_⟩
          · rw [List.take_succ_eq_append_getElem hlt, List.flatMap_append, ← hT, ByteArray.data_append, Array.toList_append, hX]
            simp
          · rw [ByteArray.size_append]
            omega
        have hbad2 : badU us[k] = !b := by rw [← hbad]; simp
        rw [hpc, hbad2] at hnext
        rw [hbad2] at hf5
        rw [← hbt] at hnext hf5
        obtain ⟨c, hc⟩ : ∃ c, us[k].c = c := ⟨_, rfl⟩
        obtain ⟨p, hp⟩ : ∃ p, us[k].p = p := ⟨_, rfl⟩
        obtain ⟨n, hn'⟩ : ∃ n, us[k].w = n := ⟨_, rfl⟩
        rw [hc] at l0 hnext hf5 hf4
        rw [hp] at l1 hf1 hnext hf5
        rw [hn'] at l2 hf1 hf2 hf3 hnext hf5
        have hsl : (s.extract p (p + n)).size = n := by
          rw [Lib.size_eq, Lib.extract_data, List.length_take, List.length_drop, ← Lib.size_eq]
          omega
        have hes : (Utf8.encode (foldC c : Nat)).size ≤ 4 := by rw [Lib.size_eq]; exact (enc_len _).2
        have HFR := Lib.hid (foldRune_any c hf4)
        have HFQ := Lib.hid (fun w => (foldRune_any c hf4 w).mono fun e w' h => (⟨h.1, h.2.symm⟩ : e = .returned (.int .i32 (foldC c : Nat)) ∧ w' = w))
        have HN := Lib.hid hnext
        have H5 := Lib.hid hf5
        have HB2 := Lib.hid hbel
        have HR2 := Lib.hid hrow
        have hlt2 : k < us.length := hlt
        clear hnext hc hp hn' hbel hrow hbad hbt hT hpc hbad2 hf5
        have hmx : Try.prog.follows .mixedOrders = true := by kernel_rfl
        obtain ⟨f, hf⟩ : ∃ f, foldC c = f := ⟨_, rfl⟩
        rw [hf] at hes HFR HFQ HN
        cases b with
        | false =>
          have hx := HN.out (s.extract p (p + n)) rfl (by omega)
          have HX := Lib.hid hx
          clear hx hf
          go_wp2_with fail
          go_region
          go_wp2_with fail
          go_roundw
          case rel => exact ⟨k + 1, _, by omega, by go_num, rfl, HX.out.2, HX.out.1, (HR2.out.alloc _).keep rfl, (HB2.out.alloc HB2.out.size _).drew⟩
          case measure => simp [intOf]; omega
        | true =>
          by_cases hcf : f = c
          · subst hcf
            have hx := HN.out (s.extract p (p + n)) (by rw [← H5.out rfl]; rfl) (by omega)
            have HX := Lib.hid hx
            clear hx hf
            go_wp2_with fail
            go_quiet (first | (go_at_call 34; refine Calls.quiet_of_same (HFQ.out _)))
            all_goals
              go_wp2_with (go_at_call 34; refine (HFR.out _).mono ?_; rintro e w' ⟨rfl, rfl⟩)
              go_roundw
              case rel => exact ⟨k + 1, _, by omega, by go_num, rfl, HX.out.2, HX.out.1, (HR2.out.alloc _).keep rfl, below_dN (HB2.out.alloc HB2.out.size _) _⟩
              case measure => simp [intOf]; omega
          · have HCF := Lib.hid hcf
            have hx := HN.out (Utf8.encode (f : Nat)) rfl (by omega)
            have HX := Lib.hid hx
            clear hx hf hcf
            go_wp2_with fail
            go_quiet (first | (go_at_call 34; refine Calls.quiet_of_same (HFQ.out _)))
            all_goals
              have hne : ((f : Int) != (c : Int)) = true := by have := HCF.out; simp; omega
              rw [hne]
              clear hne
              go_wp2_with fail
              refine (HFR.out _).mono ?_; rintro e w' ⟨rfl, rfl⟩
              go_wp2_with fail
              go_roundw
              case rel => exact ⟨k + 1, _, by omega, by go_num, rfl, HX.out.2, HX.out.1, (HR2.out.alloc _).keep rfl, below_dN (HB2.out.alloc HB2.out.size _) _⟩
              case measure => simp [intOf]; omega
      · have HT := Lib.hid (show T.data.toList = us.flatMap (pieceF s) by rw [hT, List.take_of_length_le (by omega)])
        have HB2 := Lib.hid hbel
        clear hT hbel hrow
        go_wp2
        go_ret
        exact ⟨by rw [← ba_eq HT.out]; rfl, HB2.out⟩
end Go.Proofs.Ytilgbjakhpgkcaa
