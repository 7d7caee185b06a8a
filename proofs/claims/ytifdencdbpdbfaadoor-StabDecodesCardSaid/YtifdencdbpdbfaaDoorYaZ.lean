/-
  WALKS over package stab: Stab, Overlap, Inside, Around.
-/
import Derived.Test.YtifdencdbpdbfaaDoorYaY
namespace Go.Proofs.YtifdencdbpdbfaaDoor
open Go Go.RowKit Go.Shelf Go.Lib Go.Sort
set_option linter.unusedVariables false
set_option linter.unusedSimpArgs false

theorem idxF_congr {P Q : Sp → Bool} : ∀ (l : List Sp) (n : Nat), (∀ x ∈ l, P x = Q x) → idxF P n l = idxF Q n l
  | [], _, _ => rfl
  | s :: l, n, h => by
    simp only [idxF]
    rw [h s (List.mem_cons_self ..), idxF_congr l (n + 1) (fun x hx => h x (List.mem_cons_of_mem _ hx))]
theorem idxs_congr {P Q : Sp → Bool} {l : List Sp} (h : ∀ x ∈ l, P x = Q x) : idxs P l = idxs Q l := idxF_congr l 0 h
theorem idxs_eq {P Q : Sp → Bool} {l : List Sp} (h : ∀ x ∈ l, (P x = true ↔ Q x = true)) : idxs P l = idxs Q l := idxs_congr fun x hx => Bool.eq_iff_iff.2 (h x hx)
def fitAll (_ : Sp) : Bool := true
theorem sel_all (last tok : Int) (t : Sp) : selP last tok fitAll t = true ↔ t.1 ≤ last ∧ tok < t.2 := by unfold selP fitAll; simp
set_option maxHeartbeats 1000000 in
theorem every_any (x : Sp) (w : World) : Calls Tryd.prog 28 #[spA x] w (BoolV w (fitAll x)) := by
  obtain ⟨b, e⟩ := x
  unfold spA fitAll
  simp only
  go_enter Tryd.func28, Tryd.ntmps28
  go_wp2_with fail
  go_ret
  exact ⟨rfl, below_box w _⟩
def fitIn (s o : Sp) : Bool := decide (s.1 ≤ o.1) && decide (o.2 ≤ s.2)
theorem find_every {w : World} {B : Nat} {l : List Sp} (hI : IdxAt w B l) (last tok : Int) :
    Calls Tryd.prog 27 #[.pointer (some ⟨B, 0, none⟩), .int .i64 last, .int .i64 tok, .func (.func 28) #[] #[]] w (ListV w (idxs (selP last tok fitAll) l)) :=
  find_any hI last tok 28 #[] fitAll (enters_of Tryd.func28 (by kernel_rfl) rfl) (fun W x _ => every_any x W)
def stabP (pos : Int) (t : Sp) : Bool := decide (t.1 ≤ pos) && decide (pos < t.2)
set_option maxHeartbeats 1000000 in
theorem stab_any {w : World} {B : Nat} {l : List Sp} (hI : IdxAt w B l) (pos : Int) : Calls Tryd.prog 13 #[.pointer (some ⟨B, 0, none⟩), .int .i64 pos] w (ListV w (idxs (stabP pos) l)) := by
  have hf := find_every hI pos pos
  rw [idxs_eq (P := selP pos pos fitAll) (Q := stabP pos) (fun x _ => by rw [sel_all]; unfold stabP; simp)] at hf
  have HF := Lib.hid hf
  obtain ⟨xs, hxs⟩ : ∃ xs, idxs (stabP pos) l = xs := ⟨_, rfl⟩
  rw [hxs] at HF ⊢
  clear hf hI hxs
  go_enter Tryd.func13, Tryd.ntmps13
  go_wp2_with fail
  refine HF.out.mono ?_
  rintro e w1 ⟨⟨v, rfl, hr⟩, hb⟩
  have HE := Lib.hid (And.intro hr hb)
  clear hr hb
  go_wp2_with fail
  go_ret
  exact ⟨⟨_, rfl, HE.out.1⟩, HE.out.2⟩
/-- What a question answers: nothing at a span that is not valid. -/
def askL (P : Sp → Bool) (s : Sp) (l : List Sp) : List Int := if okS s then idxs P l else []
theorem listV_nil {w W : World} (hb : Below w.heap.size w W) : ListV w [] (.returned (.slice none 0 0)) W := ⟨⟨_, rfl, Rows.nil _⟩, hb⟩

set_option maxRecDepth 100000 in
set_option maxHeartbeats 2000000 in
theorem overlap_any {w : World} {B : Nat} {l : List Sp} (hI : IdxAt w B l) (s : Sp) (hs : s.2 ≤ 9223372036854775807) : Calls Tryd.prog 12 #[.pointer (some ⟨B, 0, none⟩), spA s] w (ListV w (askL (fun t => ovB t s) s l)) := by
  have hv := fun W => validT_any s W
  unfold askL
  obtain ⟨q, hq⟩ : ∃ q, okS s = q := ⟨_, rfl⟩
  rw [hq] at hv ⊢
  have hok := okS_iff s
  rw [hq] at hok
  have hans : idxs (selP (s.2 - 1) s.1 fitAll) l = idxs (fun t => ovB t s) l := idxs_eq fun x _ => by rw [sel_all]; unfold ovB; simp; omega
  have hf := fun W (h : Below w.heap.size w W) => find_every (w := W) (B := B) (l := l) (hI.below h) (s.2 - 1) s.1
  rw [hans] at hf
  obtain ⟨b, e⟩ := s
  unfold spA
  simp only at hv hf hs hok ⊢
  obtain ⟨xs, hxs⟩ : ∃ xs, idxs (fun t => ovB t (b, e)) l = xs := ⟨_, rfl⟩
  rw [hxs] at hf ⊢
  have hb0 := below_box w (.cells #[.int .i64 b, .int .i64 e] 24)
  obtain ⟨X, hX⟩ : ∃ X, w.alloc (.cells #[.int .i64 b, .int .i64 e] 24) = X := ⟨_, rfl⟩
  obtain ⟨N, hN⟩ : ∃ N, w.heap.size = N := ⟨_, rfl⟩
  have hbx : X.heap[N]? = some (.cells #[.int .i64 b, .int .i64 e] 24 (0, 0)) := by rw [← hX, ← hN]; exact block_new _ _
  rw [hX] at hb0
  have hNX : N < X.heap.size := (Array.getElem?_eq_some_iff.1 hbx).1
  have HD := Lib.hid (fun W (h : Below X.heap.size X W) => And.intro ((h.cell (p := ⟨N, 0, none⟩) hNX).trans (cell_of (i := 0) hbx rfl)) ((h.cell (p := ⟨N, 1, none⟩) hNX).trans (cell_of (i := 1) hbx rfl)))
  have d0 : X.cell? ⟨N, 0, none⟩ = some (.int .i64 b) := cell_of (i := 0) hbx rfl
  have d1 : X.cell? ⟨N, 1, none⟩ = some (.int .i64 e) := cell_of (i := 1) hbx rfl
  have HX := Lib.hid hX
  have HN := Lib.hid hN
  have HB0 := Lib.hid hb0
  have HV := Lib.hid hv
  have HF := Lib.hid hf
  clear hv hf hI hxs hans hb0 hbx hX hN hq hNX
  cases q with
  | true =>
    have hk := hok.1 rfl
    have hw : IntKind.i64.wrap (e - 1) = e - 1 := by rw [IntKind.wrap_i64]; omega
    clear hok hk hs
    go_enter Tryd.func12, Tryd.ntmps12
    go_upto_region 1 with fail
    rw [HX.out, HN.out]
    go_wp2_with fail
    refine (HV.out _).mono ?_
    rintro e w2 ⟨rfl, hb2⟩
    obtain ⟨c0, c1⟩ := HD.out w2 hb2
    have HB2 := Lib.hid (HB0.out.trans (hb2.mono HB0.out.size))
    clear d0 d1 hb2
    go_wp2_with fail
    refine (HF.out w2 HB2.out).mono ?_
    rintro e w3 ⟨⟨v, rfl, hr⟩, hb3⟩
    have HE := Lib.hid (And.intro hr (HB2.out.trans (hb3.mono HB2.out.size)))
    clear hr hb3 c0 c1
    go_wp2_with fail
    go_ret
    exact ⟨⟨_, rfl, HE.out.1⟩, HE.out.2⟩
  | false =>
    clear hok hs
    go_enter Tryd.func12, Tryd.ntmps12
    go_upto_region 1 with fail
    rw [HX.out, HN.out]
    go_wp2_with fail
    refine (HV.out _).mono ?_
    rintro e w2 ⟨rfl, hb2⟩
    have HB2 := Lib.hid (HB0.out.trans (hb2.mono HB0.out.size))
    clear d0 d1 hb2
    go_wp2_with fail
    go_ret
    exact listV_nil HB2.out
end Go.Proofs.YtifdencdbpdbfaaDoor
