/-
  WALKS over package lexicon: Build.
-/
import Derived.Test.YteennnhinfnahaaLzJ
import Derived.Shelf.SlicesE.Clone
import Derived.StillTailTactics
import Derived.Laws.MakeOwn
namespace Go.Proofs.Yteennnhinfnahaa
open Go.RowKit Go.Shelf Go.Lib Go.Sort Go.Maps
set_option linter.unusedVariables false
set_option linter.unusedSimpArgs false

/-- The first error of values, one by one. -/
def errL : List Wd → Int
  | [] => 0
  | v :: l => if chkW v = 0 then errL l else chkW v
theorem errL_take : ∀ (vs : List Wd) (k : Nat) (v : Wd), (∀ x ∈ vs.take k, chkW x = 0) → vs[k]? = some v → chkW v ≠ 0 → errL vs = chkW v
  | [], k, v, _, h, _ => by simp at h
  | a :: l, 0, v, _, h, hv => by
    simp at h
    subst h
    unfold errL
    rw [if_neg hv]
  | a :: l, k + 1, v, h0, h, hv => by
    unfold errL
    rw [if_pos (h0 a (by simp))]
    exact errL_take l k v (fun x hx => h0 x (by simp [hx])) (by simpa using h) hv
theorem errL_all : ∀ (vs : List Wd), (∀ x ∈ vs, chkW x = 0) → errL vs = 0
  | [], _ => rfl
  | a :: l, h => by
    unfold errL
    rw [if_pos (h a (by simp))]
    exact errL_all l fun x hx => h x (by simp [hx])
theorem errL_zero : ∀ (vs : List Wd), errL vs = 0 → ∀ x ∈ vs, chkW x = 0
  | [], _, x, hx => by simp at hx
  | a :: l, h, x, hx => by
    unfold errL at h
    by_cases c : chkW a = 0
    · rw [if_pos c] at h
      rcases List.mem_cons.1 hx with e | e
      · rw [e]; exact c
      · exact errL_zero l h x e
    · rw [if_neg c] at h; exact absurd h c
/-- The error of Build. -/
def buildE (vs : List Wd) : Int := if 4096 < vs.length then 2 else if errL vs ≠ 0 then errL vs else if 1024 < (lexW vs).length then 2 else 0
theorem chk_ok0 {v : Wd} (h : chkW v = 0) : v.length ≤ 120 ∧ validW v = true := by
  unfold chkW at h
  by_cases c : 120 < v.length
  · rw [if_pos c] at h; omega
  · rw [if_neg c] at h
    cases e : validW v with
    | true => exact ⟨by omega, rfl⟩
    | false => rw [e] at h; simp at h
theorem build_ok {vs : List Wd} (h : buildE vs = 0) : vs.length ≤ 4096 ∧ (∀ x ∈ vs, chkW x = 0) ∧ LexOk (lexW vs) (cntW vs (lexW vs)) := by
  unfold buildE at h
  by_cases c1 : 4096 < vs.length
  · rw [if_pos c1] at h; omega
  · rw [if_neg c1] at h
    by_cases c2 : errL vs ≠ 0
    · rw [if_pos c2] at h; exact absurd h c2
    · rw [if_neg c2] at h
      by_cases c3 : 1024 < (lexW vs).length
      · rw [if_pos c3] at h; omega
      · have h0 := errL_zero vs (by omega)
        refine ⟨by omega, h0, lex_asc vs, by simp [cntW], by omega, fun x hx => chk_ok0 (h0 x ((lex_mem vs x).1 hx)), cnt_pos (lex_mem vs), by rw [lex_sum]; omega⟩
/-- What Build answers. -/
def BuildV (w : World) (vs : List Wd) (e : Ending) (w' : World) : Prop :=
  Below w.heap.size w w' ∧ ((buildE vs ≠ 0 ∧ e = .returned (.tuple #[.pointer none, .slice none 0 0, .int .i64 (buildE vs)])) ∨
    (buildE vs = 0 ∧ ∃ p v, e = .returned (.tuple #[.pointer (some ⟨p, 0, none⟩), v, .int .i64 0]) ∧ LexAt w' p (lexW vs) (cntW vs (lexW vs)) ∧ Rows 1 EInt w' v (intsN (numW vs))))
theorem count_le_len (vs : List Wd) (x : Wd) : vs.count x ≤ vs.length := List.count_le_length

set_option maxRecDepth 100000 in
set_option maxHeartbeats 8000000 in
theorem build_any {w : World} {v : Value} {vs : List Wd} (hv : Rows 1 EStr w v vs) (hlen : vs.length ≤ maxLen) (hsz : ∀ x ∈ vs, x.length ≤ maxLen) : Calls Try.prog 22 #[v] w (BuildV w vs) := by
  have HV := Lib.hid (fun W (hb : Below w.heap.size w W) => hv.below stays_str hb)
  obtain ⟨A, cap, rfl, hc⟩ := hv.form
  obtain ⟨n, hcn⟩ : ∃ n, vs.length = n := ⟨_, rfl⟩
  rw [hcn] at hlen HV ⊢
  unfold maxLen at hlen
  have HSZ := Lib.hid hsz
  have HCN := Lib.hid hcn
  by_cases hbig : 4096 < n
  · have hI : (4096 : Int) < (n : Int) := by omega
    have hE : buildE vs = 2 := by unfold buildE; rw [if_pos (by omega)]
    have HE : Hid (BuildV w vs (.returned (.tuple #[.pointer none, .slice none 0 0, .int .i64 2])) w) := Lib.hid ⟨Below.refl _ _, .inl ⟨by rw [hE]; decide, by rw [hE]⟩⟩
    clear hE hv hsz hcn
    go_enter Try.func22, Try.ntmps22
    go_wp2_with fail
    go_ret3
    exact HE.out
  · have hI : ¬ (4096 : Int) < (n : Int) := by omega
    have hE0 : buildE vs = if errL vs ≠ 0 then errL vs else if 1024 < (lexW vs).length then 2 else 0 := by unfold buildE; rw [if_neg (by omega)]
    have HE0 := Lib.hid hE0
    obtain ⟨M, hM⟩ : ∃ M, w.heap.size = M := ⟨_, rfl⟩
    have HM := Lib.hid hM
    have hmm := @run_makeMap Try.prog
    have HST0 := Lib.hid (show MapAt (w.alloc (.map #[] 0)) M 0 (vs.take 0) ∧ Below w.heap.size w (w.alloc (.map #[] 0)) by
      refine ⟨⟨_, CntD.start, ?_⟩, below_box w _⟩
      rw [← hM]
      exact World.ownsMap_made _ _ _ _)
    clear hE0 hv hsz hcn hM
    go_enter Try.func22, Try.ntmps22
    go_wp2_with fail
    rw [HM.out]
    go_loopw [16] (fun sv wr => ∃ s : Nat, s ≤ n ∧ sv = .int .i64 s ∧ Hid ((MapAt wr M s (vs.take s) ∧ Below w.heap.size w wr) ∧ ∀ x ∈ vs.take s, chkW x = 0)) (fun sv _ => n - (Go.RowKit.intOf sv).toNat)
    case atStart => exact ⟨0, Nat.zero_le _, rfl, Lib.hid ⟨HST0.out, fun x hx => by simp at hx⟩⟩
    case round =>
      clear HST0 hmm
      obtain ⟨s, hsn, rfl, HS⟩ := hrel
      by_cases hlt : s < n
      · have hlti : (s : Int) < (n : Int) := by omega
        obtain ⟨x, hx⟩ : ∃ x, vs[s]? = some x := ⟨_, List.getElem?_eq_getElem (by rw [HCN.out]; exact hlt)⟩
        obtain ⟨b1, o1, rfl, -, hj1⟩ := at_str (HV.out wr HS.out.1.2) (by rw [HCN.out]; omega)
        have u0 := hj1 s x hx
        have HCK := Lib.hid (check_any (w := wr) x (HSZ.out x (List.mem_of_getElem? hx)))
        have HX := Lib.hid hx
        obtain ⟨T, hT⟩ : ∃ T : ByteArray, (⟨x.toArray⟩ : ByteArray) = T := ⟨_, rfl⟩
        have HT := Lib.hid hT
        rw [hT] at u0 HCK
        obtain ⟨z, hz⟩ : ∃ z, chkW x = z := ⟨_, rfl⟩
        rw [hz] at HCK
        have HZ := Lib.hid hz
        clear hj1 hx hT hz
        by_cases h0 : z = 0
        · subst h0
          go_wp2_with fail
          refine HCK.out.mono ?_
          rintro e w3 ⟨rfl, hb⟩
          have HMA := Lib.hid (HS.out.1.1.below hb)
          have HB3 := Lib.hid (HS.out.1.2.trans (hb.mono HS.out.1.2.size))
          have hxl : x.length ≤ maxLen := HSZ.out x (List.mem_of_getElem? HX.out)
          have hcle : (vs.take s).count x ≤ s := Nat.le_trans (count_le_len _ _) (by simp; omega)
          obtain ⟨D, hD, hown⟩ := HMA.out
          have hkey := key_of x hxl
          obtain ⟨c, hrun, hat, _⟩ := hown.lookup_int lawS Try.underlying93 Try.underlying3 (zeroI w3) hkey
          have hst := hD.step hat
          have hcc := hst.1
          have HSTEP := Lib.hid (hst.2 (c + 1) (by rw [hcc]))
          have HOWN := Lib.hid hown
          rw [HT.out] at hrun hkey
          have hc0 : 0 ≤ c := by omega
          have hc1 : c ≤ 4096 := by omega
          have hw : IntKind.i64.wrap (c + 1) = c + 1 := by rw [IntKind.wrap_i64]; omega
          have hwf : (Lit.int .i64 (c + 1)).wf = true := WalkArith.wf_i64 ⟨by omega, by omega⟩
          have hsx : s < maxLen := by unfold maxLen; omega
          have HK := Lib.hid hkey
          clear hst hcc hat hD hown hb HCK hcle hxl hkey
          go_wp2_with (first
            | (at_mapUpdate; refine wpList_mapUpdate_own _ rfl _ _ _ 93 rfl 9 3 lawS Try.underlying93 _ M s _ rfl HOWN.out hsx _ _ _ rfl rfl HK.out _ [] (plainElem_int Try.underlying3 hwf) ?_; intro w1 hown1 hgrow1)
            | go_in)
          have HN := Lib.hid (show (MapAt w1 M (s + 1) (vs.take (s + 1)) ∧ Below w.heap.size w w1) ∧ ∀ y ∈ vs.take (s + 1), chkW y = 0 from by
            refine ⟨⟨⟨_, ?_, hown1⟩, ?_⟩, fun y hy => ?_⟩
            · rw [List.take_add_one, HX.out]; exact HSTEP.out
            · exact HB3.out.grown hgrow1 HB3.out.size (fun j hj => by cases hj; rw [HM.out]; exact Nat.le_refl _)
            · rw [List.take_add_one, HX.out] at hy
              rcases List.mem_append.1 hy with e | e
              · exact HS.out.2 y e
              · simp at e; rw [e]; exact HZ.out)
          clear hown1 hgrow1 hrun
          go_wp2_with fail
          exact ⟨⟨s + 1, by omega, by go_num, HN⟩, by simp only [Go.RowKit.intOf]; omega⟩
        · have hne : (z != 0) = true := by simpa using h0
          have HEE := Lib.hid (show buildE vs = z by
            have e := errL_take vs s x HS.out.2 HX.out (by rw [HZ.out]; exact h0)
            rw [HZ.out] at e
            rw [HE0.out, e, if_pos h0])
          go_wp2_with fail
          refine HCK.out.mono ?_
          rintro e w3 ⟨rfl, hb⟩
          have HE : Hid (BuildV w vs (.returned (.tuple #[.pointer none, .slice none 0 0, .int .i64 z])) w3) := Lib.hid ⟨HS.out.1.2.trans (hb.mono HS.out.1.2.size), .inl ⟨by rw [HEE.out]; exact h0, by rw [HEE.out]⟩⟩
          clear hb HCK
          go_wp2_with fail
          go_ret3
          exact HE.out
      · obtain rfl : s = n := by omega
        have hlti : ¬ (s : Int) < (s : Int) := by omega
        have hfull : vs.take s = vs := List.take_of_length_le (by rw [HCN.out]; exact Nat.le_refl _)
        rw [hfull] at HS
        have herr := errL_all vs HS.out.2
        have hE1 : buildE vs = if 1024 < (lexW vs).length then 2 else 0 := by rw [HE0.out, herr, if_neg (by simp)]
        obtain ⟨D, hD, hown⟩ := HS.out.1.1
        have hms := hD.size Try.underlying9 lawS hown
        obtain ⟨q, hq⟩ : ∃ q, (lexW vs).length = q := ⟨_, rfl⟩
        rw [hq] at hms hE1
        have hln := hown.len Try.underlying93 3
        rw [hms] at hln
        clear hfull hD herr hown hms hq
        by_cases hmany : 1024 < q
        · have hmI : (1024 : Int) < (q : Int) := by omega
          have HE : Hid (BuildV w vs (.returned (.tuple #[.pointer none, .slice none 0 0, .int .i64 2])) wr) := Lib.hid ⟨HS.out.1.2, .inl ⟨by rw [hE1, if_pos hmany]; decide, by rw [hE1, if_pos hmany]⟩⟩
          clear hE1
          go_wp2_with fail
          go_ret3
          exact HE.out
        · have hmI : ¬ (1024 : Int) < (q : Int) := by omega
          have hE2 : buildE vs = 0 := by rw [hE1, if_neg hmany]
          have HOK := Lib.hid (build_ok hE2)
          have HAR := Lib.hid (arrange_any HS.out.1.1 HOK.out.1 HOK.out.2.2)
          have HB := Lib.hid HS.out.1.2
          have HVV := Lib.hid (HV.out wr HS.out.1.2)
          have HE2 := Lib.hid hE2
          clear hE1 HS hE2
          go_wp2_with fail
          refine HAR.out.mono ?_
          rintro e w4 ⟨p, rfl, hla, hb⟩
          have HLA := Lib.hid hla
          have HB4 := Lib.hid hb
          have HNO := Lib.hid (numbersOf_any hla (HVV.out.below stays_str hb) HOK.out.1)
          clear hla hb HAR
          go_wp2_with fail
          refine HNO.out.mono ?_
          rintro e w5 ⟨v5, rfl, hr5, hb5⟩
          have HE : Hid (BuildV w vs (.returned (.tuple #[.pointer (some ⟨p, 0, none⟩), v5, .int .i64 0])) w5) := Lib.hid ⟨HB.out.trans ((HB4.out.trans (hb5.mono HB4.out.size)).mono HB.out.size), .inr ⟨HE2.out, p, v5, rfl, HLA.out.below hb5, hr5⟩⟩
          clear hr5 hb5 HNO
          go_wp2_with fail
          go_ret3
          exact HE.out
end Go.Proofs.Yteennnhinfnahaa
