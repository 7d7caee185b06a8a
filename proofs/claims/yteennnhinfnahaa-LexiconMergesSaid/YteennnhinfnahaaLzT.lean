/-
  WALK over the law's helpers same and built.
-/
import Derived.Test.YteennnhinfnahaaLzS
import Derived.Test.YteennnhinfnahaaLzP
import Derived.BigQuiet
import Derived.Deep.RegionHeld3
namespace Go.Proofs.Yteennnhinfnahaa
open Go.RowKit Go.Shelf Go.Lib Go.Sort Go.Maps
set_option linter.unusedVariables false
set_option linter.unusedSimpArgs false

set_option maxRecDepth 100000 in
set_option maxHeartbeats 8000000 in
theorem sameLex_any {w : World} {p : Nat} {ws : List Wd} {cs : List Nat} {vW vC : Value} (h : LexAt w p ws cs) (hW : Rows 1 EStr w vW ws) (hC : Rows 1 EInt w vC (intsN cs)) :
    Calls Try.prog 14 #[.pointer (some ⟨p, 0, none⟩), .agg #[vW, vC]] w fun e w' => e = .returned (.bool true) ∧ Below w.heap.size w w' := by
  have hok := h.ok
  obtain ⟨A1, c1, rfl, hc1⟩ := hW.form
  obtain ⟨A2, c2, rfl, hc2⟩ := hC.form
  have hil : (intsN cs).length = ws.length := by rw [List.length_map, hok.len]
  rw [hil] at hC hc2 ⊢
  obtain ⟨m, hm⟩ : ∃ m, ws.length = m := ⟨_, rfl⟩
  have hfew := hok.few
  have hcl := hok.len
  rw [hm] at hW hC hc1 hc2 hfew hcl ⊢
  have hb0 := below_box w (.cells #[.slice A1 m c1, .slice A2 m c2] 33)
  obtain ⟨X, hX⟩ : ∃ X, w.alloc (.cells #[.slice A1 m c1, .slice A2 m c2] 33) = X := ⟨_, rfl⟩
  obtain ⟨N, hN⟩ : ∃ N, w.heap.size = N := ⟨_, rfl⟩
  have hbx : X.heap[N]? = some (.cells #[.slice A1 m c1, .slice A2 m c2] 33 (0, 0)) := by rw [← hX, ← hN]; exact block_new _ _
  rw [hX] at hb0
  have HW := Lib.hid (fun W (hb : Below X.heap.size X W) => hW.below stays_str (hb0.trans (hb.mono hb0.size)))
  have HC := Lib.hid (fun W (hb : Below X.heap.size X W) => hC.below stays_int (hb0.trans (hb.mono hb0.size)))
  have HL := Lib.hid (fun W (hb : Below X.heap.size X W) => h.below (hb0.trans (hb.mono hb0.size)))
  have HBX := Lib.hid (fun W (hb : Below X.heap.size X W) => block_below hbx hb (Array.getElem?_eq_some_iff.1 hbx).1)
  have HB0 := Lib.hid hb0
  have HM := Lib.hid hm
  have HCL := Lib.hid hcl
  have HSZ := Lib.hid (fun n : Nat => show Calls Try.prog 32 #[.pointer (some ⟨p, 0, none⟩)] (X.drewN n) (fun e w' => e = .returned (.int .i64 (m : Int)) ∧ w' = X.drewN n) by
    have := size_any (HL.out (X.drewN n) (below_drewN (Below.refl _ _) n))
    rw [hm] at this
    exact this)
  have d0 : X.cell? ⟨N, 0, none⟩ = some (.slice A1 m c1) := cell_of hbx rfl
  have HX := Lib.hid hX
  have HNN := Lib.hid hN
  clear h hW hC hok hil hb0 hbx hX hN hm hcl
  go_enter Try.func14, Try.ntmps14
  go_upto_region 1 with fail
  rw [HX.out, HNN.out]
  go_quiet ((go_at_call 32; exact Calls.quiet_of_same (HSZ.out _)))
  go_wp2_with fail
  go_loopg [22] m (fun gg sv' wr => ∃ k : Nat, sv' = .int .i64 k ∧ k ≤ m ∧ m - k ≤ gg ∧ Hid (Below X.heap.size X wr))
  case atStart => exact ⟨0, rfl, Nat.zero_le _, Nat.le_refl _, Lib.hid (below_drewN (Below.refl _ _) _)⟩
  case round =>
    clear d0 HSZ
    obtain ⟨k, rfl, hkm, hgk, HB⟩ := hrel
    by_cases hlt : k < m
    · have hki : (k : Int) < (m : Int) := by omega
      obtain ⟨x, hx⟩ : ∃ x, ws[k]? = some x := ⟨_, List.getElem?_eq_getElem (by rw [HM.out]; exact hlt)⟩
      obtain ⟨c, hcx⟩ : ∃ c, cs[k]? = some c := ⟨_, List.getElem?_eq_getElem (by rw [HCL.out]; exact hlt)⟩
      obtain ⟨b1, o1, rfl, -, hj1⟩ := at_str (HW.out wr HB.out) (by rw [HM.out]; omega)
      obtain ⟨b2, o2, rfl, -, hj2⟩ := at_int (HC.out wr HB.out) (by rw [List.length_map, HCL.out]; omega)
      have u0 := hj1 k x hx
      have u1 := hj2 k (c : Int) (by rw [List.getElem?_map, hcx]; rfl)
      have hwd := word_any (HL.out wr HB.out) (k : Int)
      rw [wordP_at hx] at hwd
      obtain ⟨T, hT⟩ : ∃ T : ByteArray, (⟨x.toArray⟩ : ByteArray) = T := ⟨_, rfl⟩
      rw [hT] at u0 hwd
      have HWD := Lib.hid hwd
      have HCN := Lib.hid (fun n : Nat => show Calls Try.prog 27 #[.pointer (some ⟨p, 0, none⟩), .int .i64 k] (wr.drewN n) (fun e w' => e = .returned (.int .i64 (c : Int)) ∧ w' = wr.drewN n) by
        have hlc := HL.out (wr.drewN n) (below_drewN HB.out n)
        have := count_any' hlc (k : Int)
        rw [countP_at hcx] at this
        exact this)
      have d1 : wr.cell? ⟨N, 1, none⟩ = some (.slice (some ⟨b2, o2, none⟩) m c2) := cell_of (HBX.out wr HB.out) rfl
      have HJ := Lib.hid (And.intro hlt hgk)
      clear hj1 hj2 hx hcx hT hwd hgk
      go_wp2_with fail
      refine HWD.out.mono ?_
      rintro e w3 ⟨rfl, rfl⟩
      go_wp2_with fail
      go_quiet ((go_at_call 27; exact Calls.quiet_of_same (HCN.out _)))
      go_wp2_with fail
      go_roundg (m - (k + 1))
      case measure => have := HJ.out; omega
      case rel => exact ⟨k + 1, by go_num, by have := HJ.out; omega, Nat.le_refl _, Lib.hid (below_drewN HB.out _)⟩
    · obtain rfl : k = m := by omega
      have hki : ¬ (k : Int) < (k : Int) := by omega
      go_wp2_with fail
      go_ret
      exact ⟨rfl, HB0.out.trans (HB.out.mono HB0.out.size)⟩
theorem built_results {tmps : Array Value} {W : World} {B : Nat} {A1 A2 : Option Addr} {n1 c1 n2 c2 : Nat} {v2 v4 : Value} (h2 : tmps[2]? = some v2) (h3 : tmps[3]? = some (.pointer (some ⟨B, 0, none⟩))) (h4 : tmps[4]? = some v4) (hB : W.heap[B]? = some (.cells #[.slice A1 n1 c1, .slice A2 n2 c2] 33 (0, 0))) :
    (results Try.f10 tmps).run Try.prog W = .ok (.tuple #[v2, .agg #[.slice A1 n1 c1, .slice A2 n2 c2], v4]) W := by
  have q1 := cell_of (i := 0) hB rfl
  have q2 := cell_of (i := 1) hB rfl
  simp [results, Try.f10, go_sem, h2, h3, h4, q1, q2]
theorem cell_two {w : World} {N M i : Nat} {a b v : Value} (hne : M ≠ N) (h : w.cell? ⟨M, i, none⟩ = some v) : ((w.setCell ⟨N, 0, none⟩ a).setCell ⟨N, 1, none⟩ b).drew.cell? ⟨M, i, none⟩ = some v :=
  (World.cell?_setCell_other _ _ _ _ (by intro e; simp only [Addr.mk.injEq] at e; omega)).trans ((World.cell?_setCell_other _ _ _ _ (by intro e; simp only [Addr.mk.injEq] at e; omega)).trans h)
theorem sameInts_eq {w : World} {v u : Value} {h : List Int} (hv : Rows 1 EInt w v h) (hu : Rows 1 EInt w u h) (hl : h.length ≤ maxLen) :
    Calls Try.prog 7 #[v, u] w fun e w' => e = .returned (.bool true) ∧ Below w.heap.size w w' :=
  (sameInts_any hv hu hl hl).mono fun _ _ q => ⟨by rw [q.1, decide_eq_true rfl], q.2⟩
/-- All but one block is as it was. -/
def Off (N : Nat) (w W : World) : Prop := W.heap.size = w.heap.size ∧ ∀ k, k ≠ N → W.heap[k]? = w.heap[k]?
theorem off_two (w : World) (N : Nat) (a b : Value) : Off N w ((w.setCell ⟨N, 0, none⟩ a).setCell ⟨N, 1, none⟩ b) :=
  ⟨by show ((w.setCell ⟨N, 0, none⟩ a).setCell ⟨N, 1, none⟩ b).heap.size = _; simp [World.setCell], fun k hk => (Below.heap_setCell _ ⟨N, 1, none⟩ _ k hk).trans (Below.heap_setCell _ ⟨N, 0, none⟩ _ k hk)⟩
theorem rows_off {α : Type} {E : World → List Value → α → Prop} (hE : ∀ w W cs x, E w cs x → E W cs x) (hn : ∀ w cs x, E w cs x → ∃ u, cs[0]? = some u ∧ ∀ A n c, u ≠ .slice A n c)
    {w W : World} {v : Value} {xs : List α} {N : Nat} {A1 A2 : Option Addr} {n1 c1 n2 c2 : Nat} {T : TypeId} (hN : w.heap[N]? = some (.cells #[.slice A1 n1 c1, .slice A2 n2 c2] T (0, 0))) (ho : Off N w W) (h : Rows 1 E w v xs) : Rows 1 E W v xs := by
  obtain ⟨A, cap, hv, hc, hr⟩ := h
  refine ⟨A, cap, hv, hc, fun h0 => ?_⟩
  obtain ⟨b, off, hA, hbl, hj⟩ := hr h0
  have hbN : b ≠ N := by
    rintro rfl
    obtain ⟨cs, _, h2, h3⟩ := hj 0 xs[0] (List.getElem?_eq_getElem h0)
    obtain ⟨u, hu, hns⟩ := hn _ _ _ h2
    have h4 := h3 0 u hu
    obtain ⟨i, hi⟩ : ∃ i, off + 0 * 1 + 0 = i := ⟨_, rfl⟩
    rw [hi] at h4
    rcases i with _ | _ | i
    · rw [cell_of (i := 0) hN rfl] at h4
      exact hns _ _ _ (Option.some.inj h4).symm
    · rw [cell_of (i := 1) hN rfl] at h4
      exact hns _ _ _ (Option.some.inj h4).symm
    · simp [World.cell?, hN] at h4
  refine ⟨b, off, hA, by rw [ho.1]; exact hbl, fun j x hx => ?_⟩
  obtain ⟨cs, h1, h2, h3⟩ := hj j x hx
  refine ⟨cs, h1, hE _ _ _ _ h2, fun i u hu => ?_⟩
  have := h3 i u hu
  simp only [World.cell?, ho.2 b hbN] at this ⊢
  exact this
theorem str_off {w W : World} {v : Value} {xs : Fs} {N : Nat} {A1 A2 : Option Addr} {n1 c1 n2 c2 : Nat} {T : TypeId} (hN : w.heap[N]? = some (.cells #[.slice A1 n1 c1, .slice A2 n2 c2] T (0, 0))) (ho : Off N w W) (h : Rows 1 EStr w v xs) : Rows 1 EStr W v xs :=
  rows_off (fun _ _ _ _ h => h) (fun _ cs x h => ⟨.string ⟨x.toArray⟩, by rw [show cs = _ from h]; rfl, fun _ _ _ e => by cases e⟩) hN ho h
theorem int_off {w W : World} {v : Value} {xs : List Int} {N : Nat} {A1 A2 : Option Addr} {n1 c1 n2 c2 : Nat} {T : TypeId} (hN : w.heap[N]? = some (.cells #[.slice A1 n1 c1, .slice A2 n2 c2] T (0, 0))) (ho : Off N w W) (h : Rows 1 EInt w v xs) : Rows 1 EInt W v xs :=
  rows_off (fun _ _ _ _ h => h) (fun _ cs x h => ⟨.int .i64 x, by rw [show cs = _ from h]; rfl, fun _ _ _ e => by cases e⟩) hN ho h
theorem lex_off {w W : World} {p : Nat} {ws : List Wd} {cs : List Nat} {N : Nat} {A1 A2 : Option Addr} {n1 c1 n2 c2 : Nat} {T : TypeId} (hN : w.heap[N]? = some (.cells #[.slice A1 n1 c1, .slice A2 n2 c2] T (0, 0))) (ho : Off N w W) (h : LexAt w p ws cs) : LexAt W p ws cs := by
  obtain ⟨v1, v2, v3, v4, hb, h1, h2, h3, h4⟩ := h.mem
  have hp : p ≠ N := by
    rintro rfl
    rw [hN] at hb
    injection hb with hb
    injection hb with hb _ _
    have := congrArg Array.size hb
    simp at this
  exact ⟨h.ok, v1, v2, v3, v4, (ho.2 p hp).trans hb, str_off hN ho h1, int_off hN ho h2, int_off hN ho h3, int_off hN ho h4⟩
theorem numW_ln (vs : List Wd) : (numW vs).length = vs.length := by simp [numW]
/-- What built answers. -/
def BuiltV (w : World) (vs : List Wd) (e : Ending) (w' : World) : Prop :=
  Below w.heap.size w w' ∧ ((buildE vs ≠ 0 ∧ e = .returned (.tuple #[.pointer none, .agg #[.slice none 0 0, .slice none 0 0], .bool true])) ∨
    (buildE vs = 0 ∧ ∃ p vW vC, e = .returned (.tuple #[.pointer (some ⟨p, 0, none⟩), .agg #[vW, vC], .bool true]) ∧ LexAt w' p (lexW vs) (cntW vs (lexW vs)) ∧ Rows 1 EStr w' vW (lexW vs) ∧ Rows 1 EInt w' vC (intsN (cntW vs (lexW vs)))))

set_option maxRecDepth 100000 in
set_option maxHeartbeats 8000000 in
theorem built_any {w : World} {v : Value} {vs : List Wd} (hv : Rows 1 EStr w v vs) (hlen : vs.length ≤ maxLen) (hsz : ∀ x ∈ vs, x.length ≤ maxLen) : Calls Try.prog 10 #[v] w (BuiltV w vs) := by
  have HBU := Lib.hid (fun W (hb : Below w.heap.size w W) => build_any (hv.below stays_str hb) hlen hsz)
  have HRB := Lib.hid (fun W (hb : Below w.heap.size w W) => refBuild_any (hv.below stays_str hb) hlen hsz)
  obtain ⟨A, cap, rfl, hc⟩ := hv.form
  obtain ⟨n, hcn⟩ : ∃ n, vs.length = n := ⟨_, rfl⟩
  rw [hcn] at hlen HBU HRB ⊢
  have HCN := Lib.hid hcn
  have HLEN := Lib.hid hlen
  obtain ⟨N, hN⟩ : ∃ N, w.heap.size = N := ⟨_, rfl⟩
  obtain ⟨W0, hW0⟩ : ∃ W0, w.alloc (.cells #[.slice none 0 0, .slice none 0 0] 33) = W0 := ⟨_, rfl⟩
  have hW0b : W0.heap[N]? = some (.cells #[.slice none 0 0, .slice none 0 0] 33 (0, 0)) := by rw [← hW0, ← hN]; exact block_new _ _
  have hW0l : Below w.heap.size w W0 := by rw [← hW0]; exact below_box _ _
  have hW0s : W0.heap.size = N + 1 := by rw [← hW0, ← hN]; simp
  have HW0 := Lib.hid hW0
  have HN := Lib.hid hN
  have HB0 := Lib.hid hW0l
  have HRES := Lib.hid (fun W (hb : Below W0.heap.size W0 W) => block_below hW0b hb (by omega))
  have HS0 := Lib.hid hW0s
  clear hv hcn hN hW0 hW0b hW0l hW0s hsz hlen
  go_enter Try.func10, Try.ntmps10
  go_upto_region 1 with fail
  rw [HW0.out, HN.out]
  go_wp2_with fail
  refine (HBU.out W0 HB0.out).mono ?_
  rintro e w1 ⟨hb1, hans⟩
  have HB1 := Lib.hid hb1
  rcases hans with ⟨hne, rfl⟩ | ⟨h0, p, v5, rfl, hL, hr5⟩
  · obtain ⟨z, hz⟩ : ∃ z, buildE vs = z := ⟨_, rfl⟩
    have HZ := Lib.hid hz
    rw [hz] at hne ⊢
    have hne2 : (z != 0) = true := by simpa using hne
    have HNE := Lib.hid hne
    clear hb1 hz hne
    go_wp2_with fail
    refine (HRB.out w1 (HB0.out.trans (HB1.out.mono HB0.out.size))).mono ?_
    rintro e w2 ⟨hb2, hans⟩
    rcases hans with ⟨_, rfl⟩ | ⟨h0, _⟩
    · rw [HZ.out]
      obtain ⟨W3, hW3⟩ : ∃ W3, w2.alloc (.cells #[.slice none 0 0, .slice none 0 0] 33) = W3 := ⟨_, rfl⟩
      obtain ⟨N3, hN3⟩ : ∃ N3, w2.heap.size = N3 := ⟨_, rfl⟩
      have hb3 : Below w2.heap.size w2 W3 := by rw [← hW3]; exact below_box _ _
      have hbx : W3.heap[N3]? = some (.cells #[.slice none 0 0, .slice none 0 0] 33 (0, 0)) := by rw [← hW3, ← hN3]; exact block_new _ _
      have HW3 := Lib.hid hW3
      have HN3 := Lib.hid hN3
      have HBX := Lib.hid (fun W (hb : Below W3.heap.size W3 W) => block_below hbx hb (Array.getElem?_eq_some_iff.1 hbx).1)
      have HB3 := Lib.hid (show Below W0.heap.size W0 W3 from HB1.out.trans ((hb2.trans (hb3.mono hb2.size)).mono HB1.out.size))
      have HSI := Lib.hid (sameInts_eq (w := W3) (Rows.nil (E := EInt) W3) (Rows.nil (E := EInt) W3) (Nat.zero_le _))
      have HS2 := Lib.hid hb2.size
      clear hb2 hb3 hbx hW3 hN3 HBU HRB
      go_upto_region 3 with fail
      rw [HW3.out, HN3.out]
      go_wp2_with fail
      refine HSI.out.mono ?_
      rintro e w4 ⟨rfl, hb4⟩
      have HB4 := Lib.hid (HB3.out.trans (hb4.mono HB3.out.size))
      have hbx := HBX.out w4 hb4
      have d0 : w4.cell? ⟨N3, 0, none⟩ = some (.slice none 0 0) := cell_of hbx rfl
      have d1 : w4.cell? ⟨N3, 1, none⟩ = some (.slice none 0 0) := cell_of hbx rfl
      have hrs := HRES.out w4 HB4.out
      have HRE := Lib.hid hrs
      have HNE3 := Lib.hid (show N3 ≠ N by rw [← HN3.out]; have h1 := HB1.out.size; have h2 := HS0.out; have h3 := HS2.out; omega)
      have r0 : w4.cell? ⟨N, 0, none⟩ = some (.slice none 0 0) := cell_of hrs rfl
      have r1 : w4.cell? ⟨N, 1, none⟩ = some (.slice none 0 0) := cell_of hrs rfl
      have f0 : w4.frozen? ⟨N, 0, none⟩ = false := frozen_of hrs
      have f1 : w4.frozen? ⟨N, 1, none⟩ = false := frozen_of hrs
      clear hbx hb4 hrs
      go_wp2_with fail
      refine wp_region_held_drew (S := (fun w' => w'.cell? ⟨N3, 0, none⟩ = some (Value.slice none 0 0) ∧ w'.cell? ⟨N3, 1, none⟩ = some (Value.slice none 0 0))) (by kernel_rfl) ?_ (fun hHeld => ?_)
      · (try dsimp only); exact ⟨d0, d1⟩
      refine wpAnyH_take (i := 0) (oi := ?oi1) (v := ?v1) ?hi1 (by kernel_rfl) (by kernel_rfl) (by kernel_rfl) ?hq1 ?hy1 (by assumption) ?hr1
      case hi1 => (simp only [List.getElem?_toArray, List.getElem?_cons_zero]; rfl)
      case hq1 => exact fun _ _ _ h => h
      case hy1 => exact Or.inl ⟨by rfl, by intro whSw hSw'; (try dsimp only at hSw'); (first | (go_simp; done) | (go_simp; with_reducible rfl))⟩
      try simp only [Act.put, List.setIfInBounds_toArray, List.set_cons_zero, List.set_cons_succ]
      refine wpAnyH_take (i := 1) (oi := ?oi2) (v := ?v2) ?hi2 (by kernel_rfl) (by kernel_rfl) (by kernel_rfl) ?hq2 ?hy2 (by assumption) ?hr2
      case hi2 => (simp only [List.getElem?_toArray, List.getElem?_cons_succ, List.getElem?_cons_zero]; rfl)
      case hq2 => exact fun _ _ _ h => h
      case hy2 => exact Or.inl ⟨by rfl, by intro whSw hSw'; (try dsimp only at hSw'); (first | (go_simp; done) | (go_simp; with_reducible rfl))⟩
      try simp only [Act.put, List.setIfInBounds_toArray, List.set_cons_zero, List.set_cons_succ]
      refine wpAnyH_take (i := 2) (oi := ?oi3) (v := ?v3) ?hi3 (by kernel_rfl) (by kernel_rfl) (by kernel_rfl) ?hq3 ?hy3 (by assumption) ?hr3
      case hi3 => (simp only [List.getElem?_toArray, List.getElem?_cons_succ, List.getElem?_cons_zero]; rfl)
      case hq3 => exact fun _ _ _ h => h
      case hy3 => exact Or.inl ⟨by rfl, by intro whSw hSw'; (try dsimp only at hSw'); (first | (go_simp; done) | (go_simp; with_reducible rfl))⟩
      try simp only [Act.put, List.setIfInBounds_toArray, List.set_cons_zero, List.set_cons_succ]
      refine wpAnyH_take (i := 3) (oi := ?oi4) (v := ?v4) ?hi4 (by kernel_rfl) (by kernel_rfl) (by kernel_rfl) ?hq4 ?hy4 (by assumption) ?hr4
      case hi4 => (simp only [List.getElem?_toArray, List.getElem?_cons_succ, List.getElem?_cons_zero]; rfl)
      case hq4 => exact fun _ _ _ h => h
      case hy4 => exact Or.inl ⟨by rfl, by intro whSw hSw'; (try dsimp only at hSw'); (first | (go_simp; done) | (go_simp; with_reducible rfl))⟩
      try simp only [Act.put, List.setIfInBounds_toArray, List.set_cons_zero, List.set_cons_succ]
      refine wpAnyH_ready (rs := [4]) (by kernel_rfl) (by simp) ?_
      refine AllReadyH.cons (o := ?oo5) ?hi5 (fun K hK => ?hs5) ?hm5
      case hi5 => (simp only [List.getElem?_toArray, List.getElem?_cons_succ, List.getElem?_cons_zero]; rfl)
      · go_simp
        refine hK.out _ _ ?_ (fun hHeld => ?_)
        · (try dsimp only); first | exact ⟨d0, d1⟩ | exact ⟨cell_two HNE3.out d0, cell_two HNE3.out d1⟩
        clear hK K
        try simp only [Act.put, List.setIfInBounds_toArray, List.set_cons_zero, List.set_cons_succ]
        refine wpAnyH_take (i := 5) (oi := ?oi6) (v := ?v6) ?hi6 (by kernel_rfl) (by kernel_rfl) (by kernel_rfl) ?hq6 ?hy6 (by assumption) ?hr6
        case hi6 => (simp only [List.getElem?_toArray, List.getElem?_cons_succ, List.getElem?_cons_zero]; rfl)
        case hq6 => exact fun _ _ _ h => h
        case hy6 => exact Or.inl ⟨by rfl, by intro whSw hSw'; (try dsimp only at hSw'); (first | (go_simp; done) | (go_simp; with_reducible rfl))⟩
        try simp only [Act.put, List.setIfInBounds_toArray, List.set_cons_zero, List.set_cons_succ]
        refine wpAnyH_done (by kernel_rfl) ?_ _
        go_wp2_with fail
        refine bodyPost_ret (built_results rfl rfl rfl (by have := set_of (set_of HRE.out (i := 0) (Value.slice none 0 0)) (i := 1) (Value.slice none 0 0); exact this)) rfl ?_
        exact ⟨(((HB0.out.trans (HB4.out.mono HB0.out.size)).setCell (p := ⟨N, 0, none⟩) (by rw [HN.out]; exact Nat.le_refl _) _).setCell (p := ⟨N, 1, none⟩) (by rw [HN.out]; exact Nat.le_refl _) _).drew, .inl ⟨by rw [HZ.out]; exact HNE.out, rfl⟩⟩
      exact AllReadyH.nil
    · exact absurd (HZ.out.symm.trans h0) HNE.out
  · have HL := Lib.hid (fun W (hb : Below w1.heap.size w1 W) => hL.below hb)
    have HR5 := Lib.hid (fun W (hb : Below w1.heap.size w1 W) => hr5.below stays_int hb)
    have hnl : (intsN (numW vs)).length = n := by rw [List.length_map, numW_ln, HCN.out]
    obtain ⟨A5, cap5, rfl, -⟩ := hr5.form
    rw [hnl] at HR5 ⊢
    have HNL := Lib.hid hnl
    have H0 := Lib.hid h0
    clear hb1 hL hr5 hnl h0
    go_wp2_with fail
    refine (HRB.out w1 (HB0.out.trans (HB1.out.mono HB0.out.size))).mono ?_
    rintro e w2 ⟨hb2, hans⟩
    rcases hans with ⟨hne, _⟩ | ⟨_, vW, vC, vl, rfl, hrW, hrC, hrl⟩
    · exact absurd H0.out hne
    · obtain ⟨A1, c1, rfl, hc1⟩ := hrW.form
      obtain ⟨A2, c2, rfl, hc2⟩ := hrC.form
      obtain ⟨A3, c3, rfl, hc3⟩ := hrl.form
      have hcl : (intsN (cntW vs (lexW vs))).length = (lexW vs).length := by simp [cntW]
      rw [HNL.out] at hrl hc3 ⊢
      rw [hcl] at hrC hc2 ⊢
      obtain ⟨ws, hws⟩ : ∃ ws, lexW vs = ws := ⟨_, rfl⟩
      obtain ⟨cs, hcs⟩ : ∃ cs, cntW vs ws = cs := ⟨_, rfl⟩
      have HWC := Lib.hid (And.intro hws hcs)
      rw [hws, hcs] at HL hrC
      rw [hws] at hrW hc1 ⊢
      rw [hws] at hc2
      obtain ⟨m, hm⟩ : ∃ m, ws.length = m := ⟨_, rfl⟩
      rw [hm] at hrW hrC hc1 hc2 ⊢
      obtain ⟨W3, hW3⟩ : ∃ W3, w2.alloc (.cells #[.slice A1 m c1, .slice A2 m c2] 33) = W3 := ⟨_, rfl⟩
      obtain ⟨N3, hN3⟩ : ∃ N3, w2.heap.size = N3 := ⟨_, rfl⟩
      have hb3 : Below w2.heap.size w2 W3 := by rw [← hW3]; exact below_box _ _
      have hbx : W3.heap[N3]? = some (.cells #[.slice A1 m c1, .slice A2 m c2] 33 (0, 0)) := by rw [← hW3, ← hN3]; exact block_new _ _
      have HW3 := Lib.hid hW3
      have HN3 := Lib.hid hN3
      have HBX := Lib.hid (fun W (hb : Below W3.heap.size W3 W) => block_below hbx hb (Array.getElem?_eq_some_iff.1 hbx).1)
      have HB13 := Lib.hid (show Below w1.heap.size w1 W3 from hb2.trans (hb3.mono hb2.size))
      have HB3 := Lib.hid (show Below W0.heap.size W0 W3 from HB1.out.trans (HB13.out.mono HB1.out.size))
      have HSI := Lib.hid (sameInts_eq (w := W3) (HR5.out W3 HB13.out) (hrl.below stays_int hb3) (by rw [HNL.out]; exact HLEN.out))
      have HRW := Lib.hid (fun W (hb : Below W3.heap.size W3 W) => hrW.below stays_str (hb3.trans (hb.mono hb3.size)))
      have HRC := Lib.hid (fun W (hb : Below W3.heap.size W3 W) => hrC.below stays_int (hb3.trans (hb.mono hb3.size)))
      have HL3 := Lib.hid (fun W (hb : Below W3.heap.size W3 W) => HL.out W (HB13.out.trans (hb.mono HB13.out.size)))
      have HS2 := Lib.hid hb2.size
      clear hb2 hb3 hbx hW3 hN3 HBU HRB hrW hrC hrl hcl hws hcs hm HL HR5
      go_upto_region 3 with fail
      rw [HW3.out, HN3.out]
      go_wp2_with fail
      refine HSI.out.mono ?_
      rintro e w4 ⟨rfl, hb4⟩
      have HB4 := Lib.hid (HB3.out.trans (hb4.mono HB3.out.size))
      have hbx := HBX.out w4 hb4
      have d0 : w4.cell? ⟨N3, 0, none⟩ = some (.slice A1 m c1) := cell_of hbx rfl
      have d1 : w4.cell? ⟨N3, 1, none⟩ = some (.slice A2 m c2) := cell_of hbx rfl
      have HNE3 := Lib.hid (show N3 ≠ N by rw [← HN3.out]; have h1 := HB1.out.size; have h2 := HS0.out; have h3 := HS2.out; omega)
      have HB34 := Lib.hid hb4
      have HSA := Lib.hid (show Calls Try.prog 14 #[.pointer (some ⟨p, 0, none⟩), .agg #[.slice A1 m c1, .slice A2 m c2]] w4.drew fun e w' => e = .returned (.bool true) ∧ Below w4.heap.size w4 w' from
        (sameLex_any (HL3.out w4.drew hb4.drew) (HRW.out w4.drew hb4.drew) (HRC.out w4.drew hb4.drew)).mono fun _ _ q => ⟨q.1, (Below.refl _ w4).drew.trans q.2⟩)
      clear hbx hb4
      go_wp2_with fail
      refine wp_region_held_drew (S := (fun w' => w'.cell? ⟨N3, 0, none⟩ = some (Value.slice A1 m c1) ∧ w'.cell? ⟨N3, 1, none⟩ = some (Value.slice A2 m c2))) (by kernel_rfl) ?_ (fun hHeld => ?_)
      · (try dsimp only); exact ⟨d0, d1⟩
      refine wpAnyH_take (i := 0) (oi := ?oi1001) (v := ?v1001) ?hi1001 (by kernel_rfl) (by kernel_rfl) (by kernel_rfl) ?hq1001 ?hy1001 (by assumption) ?hr1001
      case hi1001 => (simp only [List.getElem?_toArray, List.getElem?_cons_zero]; rfl)
      case hq1001 => exact fun _ _ _ h => h
      case hy1001 => exact Or.inl ⟨by rfl, by intro whSw hSw'; (try dsimp only at hSw'); (first | (go_simp; done) | (go_simp; with_reducible rfl))⟩
      try simp only [Act.put, List.setIfInBounds_toArray, List.set_cons_zero, List.set_cons_succ]
      refine wpAnyH_take (i := 1) (oi := ?oi1002) (v := ?v1002) ?hi1002 (by kernel_rfl) (by kernel_rfl) (by kernel_rfl) ?hq1002 ?hy1002 (by assumption) ?hr1002
      case hi1002 => (simp only [List.getElem?_toArray, List.getElem?_cons_succ, List.getElem?_cons_zero]; rfl)
      case hq1002 => exact fun _ _ _ h => h
      case hy1002 => exact Or.inl ⟨by rfl, by intro whSw hSw'; (try dsimp only at hSw'); (first | (go_simp; done) | (go_simp; with_reducible rfl))⟩
      try simp only [Act.put, List.setIfInBounds_toArray, List.set_cons_zero, List.set_cons_succ]
      refine wpAnyH_take (i := 2) (oi := ?oi1003) (v := ?v1003) ?hi1003 (by kernel_rfl) (by kernel_rfl) (by kernel_rfl) ?hq1003 ?hy1003 (by assumption) ?hr1003
      case hi1003 => (simp only [List.getElem?_toArray, List.getElem?_cons_succ, List.getElem?_cons_zero]; rfl)
      case hq1003 => exact fun _ _ _ h => h
      case hy1003 => exact Or.inl ⟨by rfl, by intro whSw hSw'; (try dsimp only at hSw'); (first | (go_simp; done) | (go_simp; with_reducible rfl))⟩
      try simp only [Act.put, List.setIfInBounds_toArray, List.set_cons_zero, List.set_cons_succ]
      refine wpAnyH_take (i := 3) (oi := ?oi1004) (v := ?v1004) ?hi1004 (by kernel_rfl) (by kernel_rfl) (by kernel_rfl) ?hq1004 ?hy1004 (by assumption) ?hr1004
      case hi1004 => (simp only [List.getElem?_toArray, List.getElem?_cons_succ, List.getElem?_cons_zero]; rfl)
      case hq1004 => exact fun _ _ _ h => h
      case hy1004 => exact Or.inl ⟨by rfl, by intro whSw hSw'; (try dsimp only at hSw'); (first | (go_simp; done) | (go_simp; with_reducible rfl))⟩
      try simp only [Act.put, List.setIfInBounds_toArray, List.set_cons_zero, List.set_cons_succ]
      refine wpAnyH_ready (rs := [4]) (by kernel_rfl) (by simp) ?_
      refine AllReadyH.cons (o := ?oo1005) ?hi1005 (fun K hK => ?hs1005) ?hm1005
      case hi1005 => (simp only [List.getElem?_toArray, List.getElem?_cons_succ, List.getElem?_cons_zero]; rfl)
      · go_simp
        refine HSA.out.mono ?_
        rintro e w5 ⟨rfl, hb5⟩
        have HB35 := Lib.hid (HB34.out.trans (hb5.mono HB34.out.size))
        have HB5 := Lib.hid (HB4.out.trans (hb5.mono HB4.out.size))
        have hrs := HRES.out w5 HB5.out
        have HRE := Lib.hid hrs
        have hbx5 := HBX.out w5 HB35.out
        have e0 : w5.cell? ⟨N3, 0, none⟩ = some (.slice A1 m c1) := cell_of hbx5 rfl
        have e1 : w5.cell? ⟨N3, 1, none⟩ = some (.slice A2 m c2) := cell_of hbx5 rfl
        have r0 : w5.cell? ⟨N, 0, none⟩ = some (.slice none 0 0) := cell_of hrs rfl
        have r1 : w5.cell? ⟨N, 1, none⟩ = some (.slice none 0 0) := cell_of hrs rfl
        have f0 : w5.frozen? ⟨N, 0, none⟩ = false := frozen_of hrs
        have f1 : w5.frozen? ⟨N, 1, none⟩ = false := frozen_of hrs
        clear hb5 hrs hbx5
        (try go_wp2_with fail)
        refine hK.out _ _ ?_ (fun hHeld => ?_)
        · (try dsimp only); first | exact ⟨e0, e1⟩ | exact ⟨cell_two HNE3.out e0, cell_two HNE3.out e1⟩ | exact ⟨d0, d1⟩
        clear hK K
        try simp only [Act.put, List.setIfInBounds_toArray, List.set_cons_zero, List.set_cons_succ]
        refine wpAnyH_take (i := 5) (oi := ?oi1006) (v := ?v1006) ?hi1006 (by kernel_rfl) (by kernel_rfl) (by kernel_rfl) ?hq1006 ?hy1006 (by assumption) ?hr1006
        case hi1006 => (simp only [List.getElem?_toArray, List.getElem?_cons_succ, List.getElem?_cons_zero]; rfl)
        case hq1006 => exact fun _ _ _ h => h
        case hy1006 => exact Or.inl ⟨by rfl, by intro whSw hSw'; (try dsimp only at hSw'); (first | (go_simp; done) | (go_simp; with_reducible rfl))⟩
        try simp only [Act.put, List.setIfInBounds_toArray, List.set_cons_zero, List.set_cons_succ]
        refine wpAnyH_ready (rs := [6]) (by kernel_rfl) (by simp) ?_
        refine AllReadyH.cons (o := ?oo1007) ?hi1007 (fun K hK => ?hs1007) ?hm1007
        case hi1007 => (simp only [List.getElem?_toArray, List.getElem?_cons_succ, List.getElem?_cons_zero]; rfl)
        · go_simp
          refine hK.out _ _ ?_ (fun hHeld => ?_)
          · (try dsimp only); first | exact ⟨e0, e1⟩ | exact ⟨cell_two HNE3.out e0, cell_two HNE3.out e1⟩ | exact ⟨d0, d1⟩
          clear hK K
          try simp only [Act.put, List.setIfInBounds_toArray, List.set_cons_zero, List.set_cons_succ]
          refine wpAnyH_take (i := 7) (oi := ?oi1008) (v := ?v1008) ?hi1008 (by kernel_rfl) (by kernel_rfl) (by kernel_rfl) ?hq1008 ?hy1008 (by assumption) ?hr1008
          case hi1008 => (simp only [List.getElem?_toArray, List.getElem?_cons_succ, List.getElem?_cons_zero]; rfl)
          case hq1008 => exact fun _ _ _ h => h
          case hy1008 => exact Or.inl ⟨by rfl, by intro whSw hSw'; (try dsimp only at hSw'); (first | (go_simp; done) | (go_simp; with_reducible rfl))⟩
          try simp only [Act.put, List.setIfInBounds_toArray, List.set_cons_zero, List.set_cons_succ]
          refine wpAnyH_done (by kernel_rfl) ?_ _
          go_wp2_with fail
          refine bodyPost_ret (built_results rfl rfl rfl (by have := set_of (set_of HRE.out (i := 0) (Value.slice A1 m c1)) (i := 1) (Value.slice A2 m c2); exact this)) rfl ?_
          have ho := off_two w5 N (.slice A1 m c1) (.slice A2 m c2)
          refine ⟨((HB0.out.trans (HB5.out.mono HB0.out.size)).setCell (p := ⟨N, 0, none⟩) (by rw [HN.out]; exact Nat.le_refl _) _).setCell (p := ⟨N, 1, none⟩) (by rw [HN.out]; exact Nat.le_refl _) _, .inr ⟨H0.out, p, _, _, rfl, ?_, ?_, ?_⟩⟩
          · rw [HWC.out.1, HWC.out.2]
            exact lex_off HRE.out ho (HL3.out w5 HB35.out)
          · rw [HWC.out.1]
            exact str_off HRE.out ho (HRW.out w5 HB35.out)
          · rw [HWC.out.1, HWC.out.2]
            exact int_off HRE.out ho (HRC.out w5 HB35.out)
        exact AllReadyH.nil
      exact AllReadyH.nil
end Go.Proofs.Yteennnhinfnahaa
