/-
  WALKS over the laws' helpers about feature (long, equal) and over the reference's Parse.
-/
import Derived.Test.YthagjdhfngdigaaFqM
import Derived.Test.YthagjdhfngdigaaBvM
namespace Go.Proofs.Ythagjdhfngdigaa
open Go.RowKit Go.Shelf Go.Lib

def longB (l : Fs) : Bool := l.any (fun f => decide (300 < f.length)) || decide (40 < l.length)

set_option maxRecDepth 100000 in
set_option maxHeartbeats 2000000 in
theorem long_any {w : World} {v : Value} {l : Fs} (hv : RS w v l) (hl : l.length ≤ maxLen) (hs : ∀ f ∈ l, f.length ≤ maxLen) :
    Calls Try.prog 11 #[v] w fun e w' => e = .returned (.bool (longB l)) ∧ Below w.heap.size w w' := by
  obtain ⟨A, cap, rfl, hc, -⟩ := hv.form
  obtain ⟨n, hn⟩ : ∃ n, l.length = n := ⟨_, rfl⟩
  have HV := Lib.hid (fun W (h : Below w.heap.size w W) => hv.below h)
  have HSZ := Lib.hid hs
  rw [hn] at hc hl ⊢
  have HN := Lib.hid hn
  unfold maxLen at hl
  clear hn hs hv
  go_enter Try.func11, Try.ntmps11
  go_wp2_with fail
  go_loopw [7] (fun i wr => ∃ k : Nat, k ≤ n ∧ i = .int .i64 k ∧ l.any (fun f => decide (300 < f.length)) = (l.drop k).any (fun f => decide (300 < f.length)) ∧ Below w.heap.size w wr) (fun i _ => n - (Go.RowKit.intOf i).toNat)
  case atStart => exact ⟨0, Nat.zero_le _, rfl, rfl, Below.refl _ _⟩
  case round =>
    obtain ⟨k, hk, rfl, he, hb⟩ := hrel
    by_cases hlt : k < n
    · have hkl : k < l.length := by rw [HN.out]; exact hlt
      obtain ⟨f, hf⟩ : ∃ f, l[k]? = some f := ⟨_, List.getElem?_eq_getElem hkl⟩
      obtain ⟨A', cap', he', -, hr⟩ := (HV.out wr hb).form
      cases he'
      obtain ⟨bk, off, rfl, -, hj⟩ := hr (by rw [HN.out]; omega)
      have c0 := hj k f hf
      have hfs := HSZ.out f (List.mem_of_getElem? hf)
      unfold maxLen at hfs
      obtain ⟨_, hfe⟩ := List.getElem?_eq_some_iff.1 hf
      rw [List.drop_eq_getElem_cons hkl, hfe, List.any_cons] at he
      obtain ⟨F, hF⟩ : ∃ s : ByteArray, (⟨f.toArray⟩ : ByteArray) = s := ⟨_, rfl⟩
      have hFs : F.size = f.length := by rw [Lib.size_eq, ← hF]
      rw [hF] at c0
      rw [← hFs] at he hfs
      have HB := Lib.hid hb
      clear hb hF hj hr hf hfe hFs hkl
      by_cases hg : 300 < F.size
      · have HE : Hid (longB l = true) := Lib.hid (by unfold longB; rw [he, decide_eq_true hg]; rfl)
        have hgi : (300 : Int) < (F.size : Int) := by omega
        clear he
        go_wp2_with fail
        go_ret
        exact ⟨by rw [HE.out]; rfl, HB.out⟩
      · have HE := Lib.hid (by rw [decide_eq_false hg, Bool.false_or] at he; exact he : l.any (fun f => decide (300 < f.length)) = (l.drop (k + 1)).any (fun f => decide (300 < f.length)))
        have hgi : ¬ ((300 : Int) < (F.size : Int)) := by omega
        clear he
        go_wp2_with fail
        exact ⟨⟨k + 1, by omega, by go_num, HE.out, HB.out⟩, by simp only [Go.RowKit.intOf]; omega⟩
    · obtain rfl : k = n := by omega
      have h0 : longB l = decide ((40 : Int) < (k : Int)) := by
        unfold longB
        rw [he, List.drop_eq_nil_of_le (by rw [HN.out]; exact Nat.le_refl _), HN.out, List.any_nil, Bool.false_or, Bool.eq_iff_iff, decide_eq_true_iff, decide_eq_true_iff]
        omega
      have H0 := Lib.hid h0
      have HB := Lib.hid hb
      clear hb he h0
      go_wp2_with fail
      go_ret
      exact ⟨by rw [H0.out]; rfl, HB.out⟩

set_option maxRecDepth 100000 in
set_option maxHeartbeats 2000000 in
theorem equal_any {w : World} {v1 v2 : Value} {l : Fs} (h1 : RS w v1 l) (h2 : RS w v2 l) (hl : l.length ≤ 1000000) :
    Calls Try.prog 14 #[v1, v2] w fun e w' => e = .returned (.bool true) ∧ Below w.heap.size w w' := by
  obtain ⟨A, cap, rfl, hc, -⟩ := h1.form
  obtain ⟨B, cap2, rfl, hc2, -⟩ := h2.form
  obtain ⟨n, hn⟩ : ∃ n, l.length = n := ⟨_, rfl⟩
  have HV := Lib.hid (fun W (h : Below w.heap.size w W) => h1.below h)
  have HV2 := Lib.hid (fun W (h : Below w.heap.size w W) => h2.below h)
  rw [hn] at hc hc2 hl ⊢
  have HN := Lib.hid hn
  clear hn h1 h2
  go_enter Try.func14, Try.ntmps14
  go_wp2_with fail
  go_loopw [13] (fun i wr => ∃ k : Nat, k ≤ n ∧ i = .int .i64 k ∧ Below w.heap.size w wr) (fun i _ => n - (Go.RowKit.intOf i).toNat)
  case atStart => exact ⟨0, Nat.zero_le _, rfl, Below.refl _ _⟩
  case round =>
    obtain ⟨k, hk, rfl, hb⟩ := hrel
    by_cases hlt : k < n
    · obtain ⟨f, hf⟩ : ∃ f, l[k]? = some f := ⟨_, List.getElem?_eq_getElem (by rw [HN.out]; exact hlt)⟩
      obtain ⟨A', cap', he', -, hr⟩ := (HV.out wr hb).form
      cases he'
      obtain ⟨bk, off, rfl, -, hj⟩ := hr (by rw [HN.out]; omega)
      have c0 := hj k f hf
      obtain ⟨A'', cap'', he'', -, hr2⟩ := (HV2.out wr hb).form
      cases he''
      obtain ⟨bk2, off2, rfl, -, hj2⟩ := hr2 (by rw [HN.out]; omega)
      have c1 := hj2 k f hf
      obtain ⟨F, hF⟩ : ∃ s : ByteArray, (⟨f.toArray⟩ : ByteArray) = s := ⟨_, rfl⟩
      rw [hF] at c0 c1
      have HB := Lib.hid hb
      clear hb hF hj hr hf hj2 hr2
      go_wp2_with fail
      go_quiet (fail)
      clear c0 c1
      go_wp2_with fail
      exact ⟨⟨k + 1, by omega, by go_num, below_drewN HB.out _⟩, by simp only [Go.RowKit.intOf]; omega⟩
    · have hlti : ¬ ((k : Int) < (n : Int)) := by omega
      have HB := Lib.hid hb
      clear hb
      go_wp2_with fail
      go_ret
      exact ⟨rfl, HB.out⟩
end Go.Proofs.Ythagjdhfngdigaa
