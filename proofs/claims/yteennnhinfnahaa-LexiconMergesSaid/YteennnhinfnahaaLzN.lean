/-
  WALKS over package lexicon: Prefix.
-/
import Derived.Test.YteennnhinfnahaaLzL
import Derived.StillTailTactics
import Derived.BigQuiet
namespace Go.Proofs.Yteennnhinfnahaa
open Go.RowKit Go.Shelf Go.Lib Go.Sort Go.Maps
set_option linter.unusedVariables false
set_option linter.unusedSimpArgs false

theorem many_count {ws : List Wd} (hs : Asc ws) (p : Wd) : (List.range (ws.length - fnd ws p)).countP (fun i => !(!hasP p (ws.getD (fnd ws p + i) []))) = manyP ws p := by
  have hm := many_le ws p
  have hr : ∀ t, t < ws.length - fnd ws p → (List.range (ws.length - fnd ws p))[t]! = t := fun t ht => by rw [getElem!_pos _ t (by simpa using ht)]; simp
  refine Lib.countP_boundary _ (List.range (ws.length - fnd ws p)) (manyP ws p) (by simp; omega) (fun t ht => ?_) (fun t h3 h4 => ?_)
  · have hx := List.getElem?_eq_getElem (l := ws) (i := fnd ws p + t) (by omega)
    rw [hr t (by omega), List.getD_eq_getElem?_getD, hx]
    simpa using hasP_iff.2 ((pre_range hs p hx).2 ⟨by omega, by omega⟩)
  · have h5 : t < ws.length - fnd ws p := by simpa using h4
    have hx := List.getElem?_eq_getElem (l := ws) (i := fnd ws p + t) (by omega)
    rw [hr t h5, List.getD_eq_getElem?_getD, hx]
    simp only [Option.getD_some, Bool.not_not]
    rw [← Bool.not_eq_true]
    intro h
    have := (pre_range hs p hx).1 (hasP_iff.1 h)
    omega

set_option maxRecDepth 100000 in
set_option maxHeartbeats 2000000 in
theorem prefix1_any {W : World} {p n f : Nat} {ws : List Wd} {A : Option Addr} {cap : Nat} (hn : ws.length = n) (hsz : n ≤ 1024) (Bx Bf By : Nat) (s : Wd) (hb : W.cell? ⟨Bx, 0, none⟩ = some (.pointer (some ⟨p, 0, none⟩))) (hf : W.cell? ⟨Bf, 0, none⟩ = some (.int .i64 (f : Int))) (hy : W.cell? ⟨By, 0, none⟩ = some (.string ⟨s.toArray⟩)) (hp : W.cell? ⟨p, 0, none⟩ = some (.slice A n cap)) (hv : Rows 1 EStr W (.slice A n cap) ws) (i : Nat) (hi : f + i < n) :
    Calls Try.prog 51 (#[.int .i64 i] ++ #[.pointer (some ⟨Bx, 0, none⟩), .pointer (some ⟨Bf, 0, none⟩), .pointer (some ⟨By, 0, none⟩)]) W fun e w' => e = .returned (.bool (!hasP s (ws.getD (f + i) []))) ∧ ∃ q os, w' = grow (W.drewN q) os := by
  obtain ⟨x, hx⟩ : ∃ x, ws[f + i]? = some x := ⟨_, List.getElem?_eq_getElem (by omega)⟩
  obtain ⟨b, o, rfl, -, hj⟩ := at_str hv (by omega)
  have u0 := hj (f + i) x hx
  rw [List.getD_eq_getElem?_getD, hx]
  simp only [Option.getD_some]
  obtain ⟨T, hT⟩ : ∃ T : ByteArray, (⟨x.toArray⟩ : ByteArray) = T := ⟨_, rfl⟩
  obtain ⟨S, hS⟩ : ∃ S : ByteArray, (⟨s.toArray⟩ : ByteArray) = S := ⟨_, rfl⟩
  have hcon := fun W' => Try.strings_HasPrefix T S W'
  have e1 : Lib.hasPrefix T.data.toList S.data.toList = hasP s x := by rw [← hT, ← hS]; rfl
  rw [e1] at hcon
  obtain ⟨q, hq⟩ : ∃ q, hasP s x = q := ⟨_, rfl⟩
  rw [hq] at hcon ⊢
  rw [hT] at u0
  rw [hS] at hy
  obtain ⟨k, hk⟩ : ∃ k, k = f + i := ⟨_, rfl⟩
  rw [← hk] at u0 hi
  have hw : IntKind.i64.wrap ((f : Int) + (i : Int)) = (k : Int) := by rw [IntKind.wrap_i64]; omega
  have hii : (k : Int) < (n : Int) := by omega
  have HC := Lib.hid hcon
  clear hj hx hT hS hv hn hcon hq e1 hk
  go_enter Try.func51, Try.ntmps51
  go_wp2_with fail
  go_quiet ((go_at_call 52; exact Calls.quiet_of_same (HC.out _)))
  go_wp2_with fail
  go_ret
  exact ⟨rfl, _, #[], by rw [grow_empty]⟩

set_option maxRecDepth 100000 in
set_option maxHeartbeats 4000000 in
theorem prefix_any {w : World} {p : Nat} {ws : List Wd} {cs : List Nat} (h : LexAt w p ws cs) (s : Wd) : Calls Try.prog 24 #[.pointer (some ⟨p, 0, none⟩), .string ⟨s.toArray⟩] w (PreV w ws s) := by
  have hasc := h.ok.asc
  have hfew := h.ok.few
  have hle := fnd_le ws s
  have hml := many_le ws s
  have hmc := many_count hasc s
  obtain ⟨f, hf⟩ : ∃ f, fnd ws s = f := ⟨_, rfl⟩
  obtain ⟨m, hm⟩ : ∃ m, manyP ws s = m := ⟨_, rfl⟩
  have HPRE := Lib.hid (show preP ws s = if m = 0 then (0, 0) else (f, f + m) by unfold preP; rw [hm, hf])
  have hrange : ∀ (i : Nat) (a : Wd), ws[f + i]? = some a → (hasP s a = true ↔ i < m) := fun i a ha => by
    rw [hasP_iff, pre_range hasc s ha, hf, hm]
    omega
  obtain ⟨n, hn⟩ : ∃ n, ws.length = n := ⟨_, rfl⟩
  obtain ⟨N, hN⟩ : ∃ N, w.heap.size = N := ⟨_, rfl⟩
  obtain ⟨S, hS⟩ : ∃ S : ByteArray, (⟨s.toArray⟩ : ByteArray) = S := ⟨_, rfl⟩
  obtain ⟨X, hX⟩ : ∃ X, (w.alloc (.cells #[.pointer (some ⟨p, 0, none⟩)] 31)).alloc (.cells #[.string S] 9) = X := ⟨_, rfl⟩
  have hbX : Below w.heap.size w X := by rw [← hX]; exact (below_box w _).trans ((below_box _ _).mono (by simp))
  have hXs : X.heap.size = N + 2 := by rw [← hX, ← hN]; simp
  have e1 : X.heap[N]? = some (.cells #[.pointer (some ⟨p, 0, none⟩)] 31 (0, 0)) := by rw [← hX, ← hN]; exact block_alloc _ (block_new w _)
  have e2 : X.heap[N + 1]? = some (.cells #[.string S] 9 (0, 0)) := by
    have := block_new (w.alloc (.cells #[.pointer (some ⟨p, 0, none⟩)] 31)) (.cells #[.string S] 9)
    rw [alloc_sz, hN, hX] at this
    exact this
  have HFF := Lib.hid (firstFrom_any (h.below hbX) s)
  rw [hS, hf] at HFF
  have HK := Lib.hid (fun (W : World) (hW : Below X.heap.size X W) => (show (W.cell? ⟨N, 0, none⟩ = some (.pointer (some ⟨p, 0, none⟩)) ∧ W.cell? ⟨N + 1, 0, none⟩ = some (.string S)) ∧ LexAt W p ws cs from
    ⟨⟨cell_of (block_below e1 hW (by omega)) rfl, cell_of (block_below e2 hW (by omega)) rfl⟩, (h.below hbX).below hW⟩))
  have c1 : X.cell? ⟨N, 0, none⟩ = some (.pointer (some ⟨p, 0, none⟩)) := cell_of e1 rfl
  have c2 : X.cell? ⟨N + 1, 0, none⟩ = some (.string S) := cell_of e2 rfl
  rw [hf] at hle hml hmc
  rw [hm] at hml hmc
  rw [hn] at hle hml hmc hfew
  have HX := Lib.hid hX
  have HN := Lib.hid hN
  have HNL := Lib.hid hn
  have HS := Lib.hid hS
  have HBX := Lib.hid (And.intro hbX hXs)
  have HRG := Lib.hid hrange
  have HMC := Lib.hid hmc
  clear h hasc hf hm hrange hX hN hbX hXs e1 e2 hmc hn
  rw [hS]
  clear hS
  go_enter Try.func24, Try.ntmps24
  go_upto_region 1 with fail
  rw [HX.out, HN.out]
  go_wp2_with fail
  refine HFF.out.mono ?_
  rintro e w1 ⟨rfl, hb1⟩
  obtain ⟨F, hF⟩ : ∃ F, w1.heap.size = F := ⟨_, rfl⟩
  obtain ⟨Y, hY⟩ : ∃ Y, w1.alloc (.cells #[.int .i64 (f : Int)] 3) = Y := ⟨_, rfl⟩
  have hbY : Below X.heap.size X Y := by rw [← hY]; exact hb1.trans ((below_box w1 _).mono hb1.size)
  have eF : Y.heap[F]? = some (.cells #[.int .i64 (f : Int)] 3 (0, 0)) := by rw [← hY, ← hF]; exact block_new _ _
  have hYs : Y.heap.size = F + 1 := by rw [← hY, ← hF]; simp
  have hXF : X.heap.size ≤ Y.heap.size := hbY.size
  have hkeep : ∀ W, Below Y.heap.size Y W → (W.cell? ⟨N, 0, none⟩ = some (.pointer (some ⟨p, 0, none⟩)) ∧ W.cell? ⟨F, 0, none⟩ = some (.int .i64 (f : Int)) ∧ W.cell? ⟨N + 1, 0, none⟩ = some (.string S)) ∧ LexAt W p ws cs ∧ Below w.heap.size w W := fun W hW => by
    have hbW : Below X.heap.size X W := hbY.trans (hW.mono hXF)
    have k := HK.out W hbW
    exact ⟨⟨k.1.1, cell_of (block_below eF hW (by omega)) rfl, k.1.2⟩, k.2, HBX.out.1.trans (hbW.mono (by rw [HBX.out.2, HN.out]; omega))⟩
  have hsr := Any.sort_Search Try.laysSearchF 51 #[.pointer (some ⟨N, 0, none⟩), .pointer (some ⟨F, 0, none⟩), .pointer (some ⟨N + 1, 0, none⟩)] (n - f) (fun i => !hasP s (ws.getD (f + i) [])) Y.drew
    (enters_of Try.func51 (by kernel_rfl) rfl) (by omega)
    (fun q os i hi => by
      have hbW : Below Y.heap.size Y (grow (Y.drew.drewN q) os) := (Below.refl _ Y).drew.trans (below_grown_sl Y.heap.size Y.drew q os (Nat.le_refl _))
      obtain ⟨⟨k1, k2, k3⟩, k4, _⟩ := hkeep _ hbW
      obtain ⟨A, cap, q1, q2⟩ := k4.words
      rw [HNL.out] at q1 q2
      exact prefix1_any HNL.out (by omega) N F (N + 1) s k1 k2 (by rw [HS.out]; exact k3) q1 q2 i (by omega))
    (fun a b hab hb ha => by
      have hbx := List.getElem?_eq_getElem (l := ws) (i := f + b) (by rw [HNL.out]; omega)
      have hax := List.getElem?_eq_getElem (l := ws) (i := f + a) (by rw [HNL.out]; omega)
      have r1 := HRG.out a _ hax
      have r2 := HRG.out b _ hbx
      rw [List.getD_eq_getElem?_getD, hax] at ha
      rw [List.getD_eq_getElem?_getD, hbx]
      simp only [Option.getD_some, Bool.not_eq_true'] at ha ⊢
      rw [← Bool.not_eq_true] at ha ⊢
      rw [r1] at ha
      rw [r2]
      omega)
  rw [HMC.out] at hsr
  have HSR := Lib.hid (hsr.mono fun e w' q => (show e = .returned (.int .i64 (m : Nat)) ∧ Below Y.heap.size Y w' from ⟨q.1, by
    obtain ⟨k, os, rfl⟩ := q.2
    exact (Below.refl _ Y).drew.trans (below_grown_sl Y.heap.size Y.drew k os (Nat.le_refl _))⟩))
  obtain ⟨⟨d1, d2, d3⟩, d4, _⟩ := hkeep Y (Below.refl _ _)
  obtain ⟨A, cap, d5, _⟩ := d4.words
  rw [HNL.out] at d5
  have HKK := Lib.hid hkeep
  have HY := Lib.hid hY
  have HF := Lib.hid hF
  have hsub : IntKind.i64.wrap ((n : Int) - (f : Int)) = ((n - f : Nat) : Int) := by rw [IntKind.wrap_i64]; omega
  obtain ⟨r, hr⟩ : ∃ r, r = n - f := ⟨_, rfl⟩
  rw [← hr] at hsub HSR
  clear hsr hkeep hbY eF hYs hXF hY hF hb1 HFF d4 c1 c2 hr
  go_upto_region 1 with fail
  rw [HY.out, HF.out]
  go_still_tail 8, (by kernel_rfl)
  change wpList _ _ _ _ _ Y.drew
  go_wp2_with fail
  refine HSR.out.mono ?_
  rintro e w2 ⟨rfl, hb2⟩
  obtain ⟨⟨g1, g2, g3⟩, _, hbb⟩ := HKK.out w2 hb2
  have HBB := Lib.hid hbb
  clear hb2 hbb g1 g3 d1 d2 d3 d5 HSR
  by_cases hm0 : m = 0
  · subst hm0
    have HE : Hid (PreV w ws s (.returned (.tuple #[.int .i64 0, .int .i64 0])) w2) := Lib.hid ⟨by rw [HPRE.out, if_pos rfl]; rfl, HBB.out⟩
    clear g2
    go_wp2_with fail
    go_ret2
    exact HE.out
  · have hme : ((m : Int) == 0) = false := by simpa using hm0
    have hadd : IntKind.i64.wrap ((f : Int) + (m : Int)) = ((f + m : Nat) : Int) := by rw [IntKind.wrap_i64]; omega
    have HE := Lib.hid (fun q => (show PreV w ws s (.returned (.tuple #[.int .i64 (f : Nat), .int .i64 ((f + m : Nat) : Int)])) (w2.drewN q) from ⟨by rw [HPRE.out, if_neg hm0], below_drewN HBB.out q⟩))
    obtain ⟨r2, hr2⟩ : ∃ r, r = f + m := ⟨_, rfl⟩
    rw [← hr2] at hadd HE
    clear hr2
    go_wp2_with fail
    go_quiet (fail)
    go_wp2_with fail
    go_ret2
    exact HE.out _
end Go.Proofs.Yteennnhinfnahaa
