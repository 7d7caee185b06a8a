/-
  WALKS over package interval: normal, Normalize.
-/
import Derived.Test.YtpkkebojiengpaaIbF
namespace Go.Proofs.Ytpkkebojiengpaa
open Go.RowKit Go.Shelf Go.Lib
set_option linter.unusedVariables false
set_option linter.unusedSimpArgs false

/-- A list of the call's own. -/
def OwnV (w : World) (L : List Sp) (e : Ending) (w' : World) : Prop := (∃ v', e = .returned v' ∧ w'.ownsRow w.heap.size 31 2 v' L.length (L.flatMap spV)) ∧ Below w.heap.size w w'

set_option maxRecDepth 100000 in
set_option maxHeartbeats 1000000 in
theorem normal_any {w : World} {v : Value} {l : List Sp} (hv : Rows 2 ESp w v l) (hl : l.length ≤ 1000000) :
    Calls Try.prog 28 #[v] w (OwnV w (normS l)) := by
  have HC := Lib.hid (cloneSp_any hv hl)
  obtain ⟨A, cap, rfl, hc⟩ := hv.form
  obtain ⟨n, hn⟩ : ∃ n, l.length = n := ⟨_, rfl⟩
  rw [hn] at HC hc hl ⊢
  have HN := Lib.hid hn
  obtain ⟨N, hN⟩ : ∃ N, w.heap.size = N := ⟨_, rfl⟩
  unfold OwnV
  rw [hN] at HC ⊢
  have HNN := Lib.hid hN
  clear hn hv hN
  go_enter Try.func28, Try.ntmps28
  go_wp2_with fail
  refine HC.out.mono ?_
  rintro e w1 ⟨v1, rfl, hown, hb1⟩
  have HO := Lib.hid hown
  have HB1 := Lib.hid hb1
  clear hb1
  rcases hown.2 with ⟨rfl, h0⟩ | ⟨g, cap', cur, rfl, hbg, hh, hcc, _⟩
  · have HS := Lib.hid (AnyF.slices_SortFunc_none Try.laysSortSp none 0 (.func (.func 45) #[] #[]) w1)
    subst h0
    have hks : l = [] := List.length_eq_zero_iff.1 HN.out
    have HCM := Lib.hid (compactSp_any (w := w1) (base := N) (v := .slice none 0 0) (ks := []) (World.ownsRow_nil _ _ _ _) (by simp))
    have HE : Hid (ddup [] = normS l) := Lib.hid (by rw [hks]; rfl)
    clear hown hks
    go_wp2_with fail
    refine HS.out.mono ?_
    rintro e w2 ⟨rfl, rfl⟩
    go_wp2_with fail
    refine HCM.out.mono ?_
    rintro e w3 ⟨⟨v', rfl, ho3, hb3⟩, hg3⟩
    rw [HE.out] at ho3
    have HO3 := Lib.hid (And.intro ho3 (below_of_grown hg3 (show N ≤ _ by rw [← HNN.out]; exact HB1.out.size) (fun k hk => by simp [Value.ownBlock] at hk) : Below N _ w3))
    clear ho3 hb3 hg3
    go_wp2_with fail
    go_ret
    exact ⟨⟨_, rfl, HO3.out.1⟩, HB1.out.trans HO3.out.2⟩
  · have HS := Lib.hid (sortSp_any (ks := l) HN.out hl HO.out)
    have HBG := Lib.hid hbg
    clear hown hh hbg
    go_wp2_with fail
    refine HS.out.mono ?_
    rintro e w2 ⟨rfl, ⟨ts, hp, hs, ho⟩, hg2⟩
    have hlen : ts.length = n := by rw [hp.length_eq, HN.out]
    have hdd : ddup ts = normS l := ddup_norm hs fun x => hp.mem_iff
    have hcm := compactSp_any (w := w2) (base := N) (ks := ts) (by rw [hlen]; exact ho) (by rw [hlen]; exact hl)
    unfold CmpV at hcm
    rw [hdd] at hcm
    have hb2 := below_of_grown hg2 (show N ≤ _ by rw [← HNN.out]; exact HB1.out.size) (fun k hk => by cases hk; exact HBG.out)
    have HCM := Lib.hid hcm
    have HB2 := Lib.hid (HB1.out.trans hb2)
    clear hcm hp hs ho hg2 hb2 hdd hlen
    go_wp2_with fail
    refine HCM.out.mono ?_
    rintro e w3 ⟨⟨v', rfl, ho3, hb3⟩, hg3⟩
    have HO3 := Lib.hid (And.intro ho3 (below_of_grown hg3 (show N ≤ _ by rw [← HNN.out]; exact HB2.out.size) (fun k hk => by simp only [Value.ownBlock, Option.some.injEq] at hk; rw [← hk]; exact HBG.out) : Below N _ w3))
    clear ho3 hb3 hg3
    go_wp2_with fail
    go_ret
    exact ⟨⟨_, rfl, HO3.out.1⟩, HB2.out.trans HO3.out.2⟩
/-- A list and an error. -/
def NorV (w : World) (E0 : Int) (L : List Sp) (e : Ending) (w' : World) : Prop := (∃ v', e = .returned (.tuple #[v', .int .i64 E0]) ∧ Rows 2 ESp w' v' L) ∧ Below w.heap.size w w'
/-- Lists in a new row of lists. -/
theorem rows_sls (w : World) (vs : List Value) (ls : List (List Sp)) (hl : vs.length = ls.length) (h : ∀ (j : Nat) (v : Value) (l : List Sp), vs[j]? = some v → ls[j]? = some l → Rows 2 ESp w v l) : Rows 1 ESl (w.alloc (.cells vs.toArray 22)) (.slice (some ⟨w.heap.size, 0, none⟩) ls.length ls.length) ls := by
  refine ⟨_, _, rfl, Nat.le_refl _, fun _ => ⟨_, _, rfl, by simp, fun j x hx => ?_⟩⟩
  have hj := (List.getElem?_eq_some_iff.1 hx).1
  obtain ⟨u, hu⟩ : ∃ u, vs[j]? = some u := ⟨_, List.getElem?_eq_getElem (by omega)⟩
  refine ⟨[u], rfl, ⟨u, rfl, (h j u x hu hx).below stays_sp (below_box w _)⟩, fun i u' hu' => ?_⟩
  cases i with
  | zero =>
    simp at hu'
    subst hu'
    refine cell_of (block_new w _) ?_
    simp [hu]
  | succ i => simp at hu'
theorem check1_any {w : World} {v : Value} {l : List Sp} (hv : Rows 2 ESp w v l) : Calls Try.prog 27 #[.slice (some ⟨w.heap.size, 0, none⟩) 1 1] (w.alloc (.cells #[v] 22)) fun e w' => e = .returned (.int .i64 (chkS l)) ∧ Below w.heap.size w w' := by
  have h := rows_sls w [v] [l] rfl (fun j u x hu hx => by
    match j, hu, hx with
    | 0, hu, hx => cases hu; cases hx; exact hv)
  refine (check_any h (by simp)).mono fun e w' ⟨h1, h2⟩ => ⟨?_, (below_box w _).trans (h2.mono (by simp))⟩
  rw [h1]
  have : chkSS [l] = chkS l := by
    unfold chkSS chkSS
    by_cases h : chkS l = 0
    · rw [if_pos h, h]
    · rw [if_neg h]
  rw [this]
theorem check2_any {w : World} {v1 v2 : Value} {l m : List Sp} (h1 : Rows 2 ESp w v1 l) (h2 : Rows 2 ESp w v2 m) : Calls Try.prog 27 #[.slice (some ⟨w.heap.size, 0, none⟩) 2 2] (w.alloc (.cells #[v1, v2] 22)) fun e w' => e = .returned (.int .i64 (chkSS [l, m])) ∧ Below w.heap.size w w' := by
  have h := rows_sls w [v1, v2] [l, m] rfl (fun j u x hu hx => by
    match j, hu, hx with
    | 0, hu, hx => cases hu; cases hx; exact h1
    | 1, hu, hx => cases hu; cases hx; exact h2)
  exact (check_any h (by simp)).mono fun e w' ⟨h1, h2⟩ => ⟨h1, (below_box w _).trans (h2.mono (by simp))⟩
/-- What Normalize answers. -/
def norL (l : List Sp) : List Sp := if chkS l = 0 then normS l else []

set_option maxRecDepth 100000 in
set_option maxHeartbeats 1000000 in
theorem normalize_any {w : World} {v : Value} {l : List Sp} (hv : Rows 2 ESp w v l) :
    Calls Try.prog 12 #[v] w (NorV w (chkS l) (norL l)) := by
  have HCK := Lib.hid (check1_any hv)
  have HV := Lib.hid (fun W (h : Below w.heap.size w W) => hv.below stays_sp h)
  have hok := fun h : chkS l = 0 => (chk_ok h).1
  obtain ⟨A, cap, rfl, hc⟩ := hv.form
  obtain ⟨N, hN⟩ : ∃ N, w.heap.size = N := ⟨_, rfl⟩
  obtain ⟨c, hcc⟩ : ∃ c, chkS l = c := ⟨_, rfl⟩
  obtain ⟨n, hn⟩ : ∃ c, l.length = c := ⟨_, rfl⟩
  unfold norL
  unfold NorV
  rw [hN, hcc] at HCK
  rw [hn] at HCK HV hok hc
  rw [hcc] at hok
  have HOK := Lib.hid hok
  clear hok
  rw [hN] at HV
  rw [hN, hcc, hn]
  have HN := Lib.hid hN
  have HLN := Lib.hid hn
  clear hv hN hcc hn
  go_enter Try.func12, Try.ntmps12
  by_cases h0 : c = 0
  · have hln : n ≤ 4096 := HOK.out h0
    clear HOK
    subst h0
    go_wp2_with fail
    (try rw [HN.out])
    refine HCK.out.mono ?_
    rintro e w1 ⟨rfl, hb1⟩
    have HB1 := Lib.hid hb1
    have HNM := Lib.hid (normal_any (HV.out w1 hb1) (by rw [HLN.out]; omega))
    clear hb1
    go_wp2_with fail
    refine HNM.out.mono ?_
    rintro e w2 ⟨⟨v', rfl, ho⟩, hb2⟩
    have HO := Lib.hid (And.intro (own_sp ho) (hb2.mono (show N ≤ _ by rw [← HN.out]; exact HB1.out.size)))
    clear ho hb2
    go_wp2_with fail
    go_ret2
    exact ⟨⟨_, rfl, HO.out.1⟩, HB1.out.trans HO.out.2⟩
  · have hcb : (c != 0) = true := by simp [h0]
    go_wp2_with fail
    (try rw [HN.out])
    refine HCK.out.mono ?_
    rintro e w1 ⟨rfl, hb1⟩
    have HB1 := Lib.hid hb1
    clear hb1
    go_wp2_with fail
    go_ret2
    exact ⟨⟨_, rfl, Rows.nil _⟩, HB1.out⟩
end Go.Proofs.Ytpkkebojiengpaa
