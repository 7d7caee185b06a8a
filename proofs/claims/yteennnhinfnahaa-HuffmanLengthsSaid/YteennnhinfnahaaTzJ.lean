/-
  WALKS over package huffman: write, Encode.
  WALKS for package huffman's laws: SameInts, awake.
  FOR THE LAWS of package huffman: sums over the present symbols, step by step; append of a number.
  WALKS over the reference of package huffman: Valid, Codes.
-/
import Derived.Test.YteennnhinfnahaaTzH
import Derived.Test.YteennnhinfnahaaTzI
import Derived.StillTailTactics
import Derived.Test.YteennnhinfnahaaTzG
import Derived.BigQuiet
import Derived.Deep.QuietTactic
import Derived.Laws.OwnMore
namespace Go.Proofs.Yteennnhinfnahaa
open Go.RowKit Go.Shelf Go.Lib Go.Deep
set_option linter.unusedVariables false
set_option linter.unusedSimpArgs false

/-- The bits of symbols. -/
def encB (L : List Nat) (ss : List Nat) : List Bool := ss.flatMap fun s => low (codeN L s) (L.getD s 0)
theorem encB_step {L ss : List Nat} {k s : Nat} (h : ss[k]? = some s) : encB L (ss.take (k + 1)) = encB L (ss.take k) ++ low (codeN L s) (L.getD s 0) := by
  unfold encB
  rw [List.take_add_one, h]; simp
theorem encB_len {L : List Nat} (hL : okLens L) : ∀ ss : List Nat, (encB L ss).length ≤ 15 * ss.length
  | [] => by simp [encB]
  | s :: l => by
    have h1 := encB_len hL l
    have h2 : L.getD s 0 ≤ 15 := by
      rw [List.getD_eq_getElem?_getD]
      cases e : L[s]? with
      | none => simp
      | some n => exact hL.2.1 n (List.mem_of_getElem? e)
    have e : encB L (s :: l) = low (codeN L s) (L.getD s 0) ++ encB L l := by simp [encB]
    rw [e, List.length_append, low_len, List.length_cons]; omega
theorem endN_pow {L : List Nat} (hL : okLens L) {n : Nat} (hn : n ≤ 15) : endN L n ≤ 2 ^ n := by
  have h1 := endN_shift L n (15 - n)
  rw [show n + (15 - n) = 15 by omega] at h1
  have h2 := hL.2.2
  have h3 : (32768 : Nat) = 2 ^ n * 2 ^ (15 - n) := by rw [← Nat.pow_add, show n + (15 - n) = 15 by omega]
  rw [h3] at h2
  exact Nat.le_of_mul_le_mul_right (Nat.le_trans h1 h2) (Nat.two_pow_pos _)
/-- A symbol that has a code. -/
def okSym (L : List Nat) (s : Nat) : Prop := ∃ n, L[s]? = some n ∧ 1 ≤ n
theorem code_pow {L : List Nat} (hL : okLens L) {s n : Nat} (h : L[s]? = some n) (hn : 1 ≤ n) : codeN L s < 2 ^ n := Nat.lt_of_lt_of_le (codeN_lt h hn) (endN_pow hL (hL.2.1 n (List.mem_of_getElem? h)))
/-- Between two rounds of write. -/
def WrAt (w : World) (B g : Nat) (v : Value) (l : List Bool) (wr : World) : Prop := ∃ v', WAt wr B g v' l ∧ Stepped g v w v' wr ∧ B ≤ wr.heap.size
def castN' (ns : List Nat) : List Int := ns.map fun (j : Nat) => (j : Int)

set_option maxRecDepth 100000 in
set_option maxHeartbeats 4000000 in
theorem write_any {w : World} {B g : Nat} {v vs vc vl : Value} {L ss : List Nat} (hL : okLens L) (hw : WAt w B g v []) (hB : B ≤ w.heap.size) (hs : Rows 1 EInt w vs (castN' ss)) (hcs : ∀ W, Below B w W → Rows 1 EInt W vs (castN' ss) ∧ Rows 1 EU W vc (cdF L) ∧ Rows 1 EInt W vl (castN' L))
    (hok : ∀ s ∈ ss, okSym L s) (hlen : ss.length ≤ 4096) :
    Calls Try.prog 42 #[vs, vc, vl, .func (.func 43) #[.pointer (some ⟨g, 0, none⟩)] #[]] w fun e w' => e = .returned (.tuple #[]) ∧ WrAt w B g v (encB L ss) w' := by
  obtain ⟨As, cs, rfl, -⟩ := hs.form
  obtain ⟨Ac, cc, rfl, -⟩ := (hcs w (Below.refl _ _)).2.1.form
  obtain ⟨Al, cl, rfl, -⟩ := (hcs w (Below.refl _ _)).2.2.form
  have e1 : (castN' ss).length = ss.length := by simp [castN']
  have e2 : (castN' L).length = L.length := by simp [castN']
  obtain ⟨n, hn⟩ : ∃ n, ss.length = n := ⟨_, rfl⟩
  obtain ⟨m, hm⟩ : ∃ m, L.length = m := ⟨_, rfl⟩
  rw [e1, hn] at hs hcs ⊢
  rw [e2, cdF_len, hm] at hcs ⊢
  rw [hn] at hlen
  have HST0 : Hid (WrAt w B g v (encB L (ss.take 0)) w) := Lib.hid ⟨v, by simpa [encB] using hw, Stepped.refl _ _ _, hB⟩
  have HBW := Lib.hid (fun W v' (h : Stepped g v w v' W) => hw.below h hB)
  have HCS := Lib.hid hcs
  have HL := Lib.hid hL
  have HOK := Lib.hid hok
  have HN := Lib.hid hn
  have HM := Lib.hid hm
  clear hL hw hB hs hcs hok e1 e2 hn hm
  go_enter Try.func42, Try.ntmps42
  go_wp2_with fail
  go_loopw [12] (fun sv wr => ∃ k : Nat, k ≤ n ∧ sv = .int .i64 k ∧ Hid (WrAt w B g v (encB L (ss.take k)) wr)) (fun sv _ => n - (Go.RowKit.intOf sv).toNat)
  case atStart => exact ⟨0, Nat.zero_le _, rfl, HST0⟩
  case round =>
    clear HST0
    obtain ⟨k, hk, rfl, HS⟩ := hrel
    by_cases hlt : k < n
    · have hlti : (k : Int) < (n : Int) := by omega
      obtain ⟨s, hsx⟩ : ∃ s, ss[k]? = some s := ⟨_, List.getElem?_eq_getElem (by rw [HN.out]; exact hlt)⟩
      obtain ⟨len, hln, hl1⟩ := HOK.out s (List.mem_of_getElem? hsx)
      have hsm : s < m := by rw [← HM.out]; exact (List.getElem?_eq_some_iff.1 hln).1
      have hsmi : (s : Int) < (m : Int) := by omega
      obtain ⟨v', hat, hst, hBr⟩ := HS.out
      obtain ⟨r1, r2, r3⟩ := HCS.out wr (HBW.out wr v' hst)
      obtain ⟨b1, o1, rfl, -, hj1⟩ := at_int r1 (by unfold castN'; rw [List.length_map, HN.out]; omega)
      obtain ⟨b2, o2, rfl, -, hj2⟩ := at_u r2 (by rw [cdF_len, HM.out]; omega)
      obtain ⟨b3, o3, rfl, -, hj3⟩ := at_int r3 (by unfold castN'; rw [List.length_map, HM.out]; omega)
      have u1 := hj1 k (s : Int) (by unfold castN'; rw [List.getElem?_map, hsx]; rfl)
      have u2 := hj2 s _ (cdF_at hln)
      have u3 := hj3 s (len : Int) (by unfold castN'; rw [List.getElem?_map, hln]; rfl)
      have hgd : L.getD s 0 = len := by rw [List.getD_eq_getElem?_getD, hln]; rfl
      have hstep := encB_step (L := L) hsx
      rw [hgd] at hstep
      have hcp := code_pow HL.out hln hl1
      have hl15 := HL.out.2.1 len (List.mem_of_getElem? hln)
      have hpw : (2 : Nat) ^ len ≤ 2 ^ 15 := Nat.pow_le_pow_right (by omega) hl15
      have hel : (encB L (ss.take k)).length ≤ 900000 := by
        have := encB_len HL.out (ss.take k)
        rw [List.length_take] at this
        omega
      have hcall := wbits_any (w := wr.drew) (B := B) (g := g) (v := v') (l := encB L (ss.take k)) ⟨hat.1, hat.2.1, hat.2.2⟩ hBr (codeN L s) len (by omega) (by omega) hcp hel
      obtain ⟨x, hx⟩ : ∃ x, codeN L s = x := ⟨_, rfl⟩
      rw [hx] at hcall u2 hstep
      have HCALL := Lib.hid hcall
      have HSTEP := Lib.hid hstep
      have HST := Lib.hid (show Stepped g v w v' wr.drew from ⟨hst.os, hst.tape, hst.output, hst.size, hst.block, hst.own⟩)
      clear hsx hln hl1 hsm hat hst r1 r2 r3 hj1 hj2 hj3 hgd hstep hcp hl15 hpw hel hcall hx HS
      go_wp2_with fail
      go_still_tail 9, (by kernel_rfl)
      change wpList _ _ _ _ _ wr.drew
      go_wp2_with fail
      refine HCALL.out.mono ?_
      rintro e w2 ⟨v2, rfl, hw2, hs2⟩
      have HNX : Hid (WrAt w B g v (encB L (ss.take (k + 1))) w2) := Lib.hid ⟨v2, by rw [HSTEP.out]; exact hw2, HST.out.trans hs2, Nat.le_trans hBr hs2.size⟩
      clear hw2 hs2 HCALL HSTEP HST
      go_wp2_with fail
      exact ⟨⟨k + 1, by omega, by go_num, HNX⟩, by simp only [Go.RowKit.intOf]; omega⟩
    · obtain rfl : k = n := by omega
      have hlti : ¬ (k : Int) < (k : Int) := by omega
      have HE : Hid (WrAt w B g v (encB L ss) wr) := Lib.hid (by
        have h1 := HS.out
        rw [List.take_of_length_le (by rw [HN.out]; exact Nat.le_refl _)] at h1
        exact h1)
      clear HS
      go_wp2_with fail
      go_end0
      exact ⟨rfl, HE.out⟩

/-- A symbol that is refused. -/
def badS (cs : List Int) (s : Int) : Bool := decide (s < 0 ∨ (cs.length : Int) ≤ s) || (cs.getD s.toNat 0 == 0)
open Classical in
/-- The error of Encode. -/
noncomputable def encE (cs ss : List Int) : Int := if ¬ okLH cs then 1 else if 4096 < ss.length then 2 else if ss.any (badS cs) then 8 else 0
def EncV (w : World) (cs ss : List Int) (e : Ending) (w' : World) : Prop :=
  Below w.heap.size w w' ∧ ((encE cs ss ≠ 0 ∧ e = .returned (.tuple #[.slice none 0 0, .int .i64 0, .int .i64 (encE cs ss)])) ∨
    (encE cs ss = 0 ∧ ∃ v, e = .returned (.tuple #[v, .int .i64 ((encB (natLs cs) (natLs ss)).length : Nat), .int .i64 0]) ∧ Sees w' w'.heap.size v (pack (encB (natLs cs) (natLs ss)))))
/-- .. its bytes are a row of the call's own. -/
def EncW (w : World) (cs ss : List Int) (e : Ending) (w' : World) : Prop :=
  Below w.heap.size w w' ∧ ((encE cs ss ≠ 0 ∧ e = .returned (.tuple #[.slice none 0 0, .int .i64 0, .int .i64 (encE cs ss)])) ∨
    (encE cs ss = 0 ∧ ∃ v b, e = .returned (.tuple #[v, .int .i64 ((encB (natLs cs) (natLs ss)).length : Nat), .int .i64 0]) ∧ w'.ownsRow b 5 1 v (pack (encB (natLs cs) (natLs ss))).length (Lib.byteCells (pack (encB (natLs cs) (natLs ss))))))
theorem nat_cast {cs : List Int} (h : ∀ c ∈ cs, 0 ≤ c) : castN' (natLs cs) = cs := by
  unfold castN' natLs
  rw [List.map_map]
  conv => rhs; rw [← List.map_id cs]
  apply List.map_congr_left
  intro c hc
  have := h c hc
  simp only [Function.comp, id]
  omega
theorem bad_no {cs : List Int} {s : Int} (h : badS cs s = false) (hc : ∀ c ∈ cs, 0 ≤ c) : 0 ≤ s ∧ okSym (natLs cs) s.toNat := by
  unfold badS at h
  rw [Bool.or_eq_false_iff] at h
  have h1 := of_decide_eq_false h.1
  refine ⟨by omega, ?_⟩
  have hl : s.toNat < cs.length := by omega
  have h2 := h.2
  rw [List.getD_eq_getElem?_getD, List.getElem?_eq_getElem hl, Option.getD_some] at h2
  have h3 := hc _ (List.getElem_mem hl)
  refine ⟨(cs[s.toNat]).toNat, by unfold natLs; rw [List.getElem?_map, List.getElem?_eq_getElem hl]; rfl, ?_⟩
  have h4 : cs[s.toNat] ≠ 0 := by simpa using h2
  omega
/-- Between two rounds of Encode's test. -/
def EtAt (w2 : World) (cs ss : List Int) (k : Nat) (wr : World) : Prop := wr = w2 ∧ ∀ x ∈ ss.take k, badS cs x = false

set_option maxRecDepth 100000 in
set_option maxHeartbeats 8000000 in
theorem encode_own {w : World} {vc vs : Value} {cs ss : List Int} (hv : Rows 1 EInt w vc cs) (hlen : cs.length ≤ maxLen) (hs : Rows 1 EInt w vs ss) (hslen : ss.length ≤ maxLen) :
    Calls Try.prog 21 #[vc, vs] w (EncW w cs ss) := by
  have HCD := Lib.hid (codesF_any hv hlen)
  have HV := Lib.hid (fun W (hb : Below w.heap.size w W) => And.intro (hv.below stays_int hb) (hs.below stays_int hb))
  obtain ⟨Ac, cc, rfl, -⟩ := hv.form
  obtain ⟨As, cap, rfl, -⟩ := hs.form
  obtain ⟨n, hn⟩ : ∃ n, cs.length = n := ⟨_, rfl⟩
  obtain ⟨m, hm⟩ : ∃ m, ss.length = m := ⟨_, rfl⟩
  rw [hn] at HCD HV ⊢
  rw [hm] at HV hslen ⊢
  unfold maxLen at hslen
  have HCN := Lib.hid hn
  have HM := Lib.hid hm
  clear hv hs hlen hn hm
  go_enter Try.func21, Try.ntmps21
  go_wp2_with fail
  refine HCD.out.mono ?_
  rintro e w2 ⟨hb, h | h⟩
  · obtain ⟨hno, rfl⟩ := h
    have he : encE cs ss = 1 := by unfold encE; rw [if_pos hno]
    have HE : Hid (EncW w cs ss (.returned (.tuple #[.slice none 0 0, .int .i64 0, .int .i64 1])) w2) := Lib.hid ⟨hb, .inl ⟨by rw [he]; decide, by rw [he]⟩⟩
    clear hb hno HCD he
    go_wp2_with fail
    go_ret3
    exact HE.out
  · obtain ⟨hok, v2, rfl, hr2⟩ := h
    obtain ⟨A2, c2, rfl, -⟩ := hr2.form
    have hcl : (cdF (natLs cs)).length = n := by rw [cdF_len]; unfold natLs; rw [List.length_map, HCN.out]
    rw [hcl] at hr2
    have HOK := Lib.hid hok
    have HB2 := Lib.hid hb
    have HR2 := Lib.hid hr2
    rw [hcl]
    by_cases hbig : 4096 < m
    · have hI : (4096 : Int) < (m : Int) := by omega
      have he : encE cs ss = 2 := by unfold encE; rw [if_neg (by simpa using hok), if_pos (by rw [HM.out]; exact hbig)]
      have HE : Hid (EncW w cs ss (.returned (.tuple #[.slice none 0 0, .int .i64 0, .int .i64 2])) w2) := Lib.hid ⟨hb, .inl ⟨by rw [he]; decide, by rw [he]⟩⟩
      clear hb hok hr2 HCD he hcl hbig hslen
      go_wp2_with fail
      go_ret3
      exact HE.out
    · have hI : ¬ (4096 : Int) < (m : Int) := by omega
      have he0 : encE cs ss = if ss.any (badS cs) then 8 else 0 := by unfold encE; rw [if_neg (by simpa using hok), if_neg (by rw [HM.out]; exact hbig)]
      have HE0 := Lib.hid he0
      have hm1 : m ≤ 4096 := by omega
      have hnn : n ≤ 1024 := by have := hok.1; rw [HCN.out] at this; exact this
      clear hb hok hr2 HCD he0 hcl hbig hslen
      go_wp2_with fail
      go_loopw [25] (fun sv wr => ∃ k : Nat, k ≤ m ∧ sv = .int .i64 k ∧ Hid (EtAt w2 cs ss k wr)) (fun sv _ => m - (Go.RowKit.intOf sv).toNat)
      case atStart => exact ⟨0, Nat.zero_le _, rfl, Lib.hid ⟨rfl, fun x hx => by simp at hx⟩⟩
      case round =>
        obtain ⟨k, hk, rfl, HT⟩ := hrel
        obtain rfl : wr = w2 := HT.out.1
        by_cases hlt : k < m
        · have hlti : (k : Int) < (m : Int) := by omega
          obtain ⟨x, hx⟩ : ∃ x, ss[k]? = some x := ⟨_, List.getElem?_eq_getElem (by rw [HM.out]; exact hlt)⟩
          obtain ⟨hv2, hs2⟩ := HV.out wr HB2.out
          obtain ⟨b, o, rfl, -, hj⟩ := at_int hs2 (by rw [HM.out]; omega)
          have u0 := hj k x hx
          have hbadE : badS cs x = true → Hid (EncW w cs ss (.returned (.tuple #[.slice none 0 0, .int .i64 0, .int .i64 8])) wr) := fun hbd => by
            have he : encE cs ss = 8 := by rw [HE0.out, if_pos (List.any_eq_true.2 ⟨x, List.mem_of_getElem? hx, hbd⟩)]
            exact Lib.hid ⟨HB2.out, .inl ⟨by rw [he]; decide, by rw [he]⟩⟩
          have HBAD := Lib.hid hbadE
          have HXX := Lib.hid hx
          clear hj hx hs2 hbadE
          by_cases d1 : x < 0
          · have b1 : decide (x < 0) = true := decide_eq_true d1
            have HE := HBAD.out (by unfold badS; rw [decide_eq_true (.inl d1)]; rfl)
            clear HBAD hv2 HT d1
            go_wp2_with fail
            go_ret3
            exact HE.out
          · have b1 : decide (x < 0) = false := decide_eq_false d1
            by_cases d2 : (n : Int) ≤ x
            · have b2 : decide (x ≥ (n : Int)) = true := decide_eq_true d2
              have HE := HBAD.out (by unfold badS; rw [HCN.out, decide_eq_true (.inr d2)]; rfl)
              clear HBAD hv2 HT d1
              go_wp2_with fail
              go_ret3
              exact HE.out
            · have b2 : decide (x ≥ (n : Int)) = false := decide_eq_false d2
              obtain ⟨s, rfl⟩ : ∃ s : Nat, x = s := ⟨x.toNat, by omega⟩
              have b2' : decide (n ≤ s) = false := decide_eq_false (by omega)
              have hsn : s < n := by omega
              have hsni : (s : Int) < (n : Int) := by omega
              obtain ⟨b4, o4, rfl, -, hj4⟩ := at_int hv2 (by rw [HCN.out]; omega)
              obtain ⟨y, hy⟩ : ∃ y, cs[s]? = some y := ⟨_, List.getElem?_eq_getElem (by rw [HCN.out]; exact hsn)⟩
              have u4 := hj4 s y hy
              have hgd : cs.getD (s : Int).toNat 0 = y := by rw [Int.toNat_natCast, List.getD_eq_getElem?_getD, hy]; rfl
              have hd : decide ((s : Int) < 0 ∨ (n : Int) ≤ (s : Int)) = false := decide_eq_false (by omega)
              by_cases d3 : y = 0
              · subst d3
                have HE := HBAD.out (by unfold badS; rw [HCN.out, hd, hgd]; rfl)
                clear HBAD hv2 HT d1 d2 hj4 hy hgd hd hsn
                go_wp2_with fail
                go_ret3
                exact HE.out
              · have b3 : (y == 0) = false := by simpa using d3
                have HT2 : Hid (EtAt wr cs ss (k + 1) wr) := Lib.hid ⟨rfl, fun z hz => by
                  rw [List.take_add_one, HXX.out] at hz
                  rcases List.mem_append.1 hz with hz | hz
                  · exact HT.out.2 z hz
                  · have : z = (s : Int) := by simpa using hz
                    rw [this]
                    unfold badS
                    rw [HCN.out, hd, hgd, b3]; rfl⟩
                clear HBAD hv2 HT d1 d2 hj4 hy hgd hd hsn d3
                go_wp2_with fail
                exact ⟨⟨k + 1, by omega, by go_num, HT2⟩, by simp only [Go.RowKit.intOf]; omega⟩
        · obtain rfl : k = m := by omega
          have hlti : ¬ (k : Int) < (k : Int) := by omega
          have hall : ∀ z ∈ ss, badS cs z = false := by
            have := HT.out.2
            rwa [List.take_of_length_le (by rw [HM.out]; exact Nat.le_refl _)] at this
          have he : encE cs ss = 0 := by rw [HE0.out, if_neg (by
            intro h
            obtain ⟨z, hz, hb⟩ := List.any_eq_true.1 h
            rw [hall z hz] at hb
            cases hb)]
          have hc0 : ∀ c ∈ cs, 0 ≤ c := fun c hc => (HOK.out.2.1 c hc).1
          have e1 : castN' (natLs cs) = cs := nat_cast hc0
          have e2 : castN' (natLs ss) = ss := nat_cast fun z hz => (bad_no (hall z hz) hc0).1
          have hsym : ∀ s ∈ natLs ss, okSym (natLs cs) s := fun s hs => by
            unfold natLs at hs
            obtain ⟨z, hz, rfl⟩ := List.mem_map.1 hs
            exact (bad_no (hall z hz) hc0).2
          obtain ⟨g, hg⟩ : ∃ g, wr.heap.size = g := ⟨_, rfl⟩
          obtain ⟨X, hX⟩ : ∃ X, wr.alloc (.cells #[.slice none 0 0, .int .i64 0] 114) = X := ⟨_, rfl⟩
          have hwx : WAt X g g (.slice none 0 0) [] := by rw [← hX, ← hg]; exact writer_new wr
          have hbX : Below g wr X := by rw [← hX, ← hg]; exact below_box _ _
          have hgX : g ≤ X.heap.size := by have := hbX.size; omega
          have hrows : ∀ W, Below g X W → Rows 1 EInt W (.slice As k cap) (castN' (natLs ss)) ∧ Rows 1 EU W (.slice A2 n c2) (cdF (natLs cs)) ∧ Rows 1 EInt W (.slice Ac n cc) (castN' (natLs cs)) := fun W hW => by
            have hb1 : Below wr.heap.size wr W := by rw [hg]; exact hbX.trans hW
            have hb2 := HV.out W (HB2.out.trans (hb1.mono HB2.out.size))
            rw [e1, e2]
            exact ⟨hb2.2, HR2.out.below stays_u hb1, hb2.1⟩
          have hwr := write_any HOK.out.lens hwx hgX (hrows X (Below.refl _ _)).1 hrows hsym (by unfold natLs; rw [List.length_map, HM.out]; exact hm1)
          have HWR := Lib.hid hwr
          have HNEW := Lib.hid (newWriter_any wr)
          have HX := Lib.hid hX
          have HG := Lib.hid hg
          have HBX := Lib.hid (show Below w.heap.size w X from HB2.out.trans ((show Below wr.heap.size wr X from by rw [hg]; exact hbX).mono HB2.out.size))
          have HWX := Lib.hid hwx
          have HEZ := Lib.hid he
          have HEL : Hid ((encB (natLs cs) (natLs ss)).length ≤ 900000) := Lib.hid (by
            have := encB_len HOK.out.lens (natLs ss)
            have h2 : (natLs ss).length = k := by unfold natLs; rw [List.length_map, HM.out]
            omega)
          have HGX := Lib.hid hgX
          clear hall he hc0 e1 e2 hsym hg hX hwx hbX hgX hrows hwr HT HE0
          go_wp2_with fail
          refine HNEW.out.mono ?_
          rintro e w3 ⟨rfl, rfl⟩
          rw [HX.out, HG.out]
          go_wp2_with fail
          refine HWR.out.mono ?_
          rintro e w4 ⟨rfl, v4, hw4, hs4, hB4⟩
          have HBY := Lib.hid (bytes_any hw4 (by have := HEL.out; omega))
          have HBL4 := Lib.hid (show Below w.heap.size w w4 from HBX.out.trans ((HWX.out.below hs4 HGX.out).mono (by rw [← HG.out]; exact HB2.out.size)))
          have HW4 := Lib.hid hw4
          clear hw4 hs4 HWR HNEW
          go_wp2_with fail
          refine HBY.out.mono ?_
          rintro e w5 ⟨v5, rfl, ho5, hb5⟩
          have hw5 : WAt w5 g g v4 (encB (natLs cs) (natLs ss)) := ⟨HW4.out.1, by rw [hb5.block g HW4.out.lt]; exact HW4.out.2.1, own_below HW4.out.2.2 fun j hj => hb5.block j (own_low HW4.out.2.2 j hj).2⟩
          have HLN := Lib.hid (len_any hw5)
          have HE : Hid (EncW w cs ss (.returned (.tuple #[v5, .int .i64 ((encB (natLs cs) (natLs ss)).length : Nat), .int .i64 0])) w5) := Lib.hid ⟨HBL4.out.trans (hb5.mono HBL4.out.size), .inr ⟨HEZ.out, v5, _, rfl, ho5⟩⟩
          obtain ⟨q, hq⟩ : ∃ q, (encB (natLs cs) (natLs ss)).length = q := ⟨_, rfl⟩
          rw [hq] at HE HLN
          clear ho5 hb5 hw5 HBY hq
          go_wp2_with fail
          refine HLN.out.mono ?_
          rintro e w6 ⟨rfl, rfl⟩
          go_wp2_with fail
          go_ret3
          exact HE.out
theorem encode_any {w : World} {vc vs : Value} {cs ss : List Int} (hv : Rows 1 EInt w vc cs) (hlen : cs.length ≤ maxLen) (hs : Rows 1 EInt w vs ss) (hslen : ss.length ≤ maxLen) :
    Calls Try.prog 21 #[vc, vs] w (EncV w cs ss) := by
  refine (encode_own hv hlen hs hslen).mono ?_
  rintro e w' ⟨hb, h | ⟨h0, v, b, rfl, ho⟩⟩
  · exact ⟨hb, .inl h⟩
  · exact ⟨hb, .inr ⟨h0, v, rfl, sees_own ho⟩⟩
end Go.Proofs.Yteennnhinfnahaa
namespace Go.Proofs.Yteennnhinfnahaa
open Go.RowKit Go.Shelf Go.Lib Go.Sort
set_option linter.unusedVariables false
set_option linter.unusedSimpArgs false

theorem block_rows {W : World} {B n : Nat} {cs : Array Value} (xs : List Int) (h : W.heap[B]? = some (.cells cs 3 (0, 0))) (hc : cs.toList = xs.map fun x => Value.int .i64 x) (hn : xs.length = n) (hm : n ≤ maxLen) : Rows 1 EInt W (.slice (some ⟨B, 0, none⟩) n n) xs := by
  subst hn
  refine own_rows (base := 0) ⟨by simp, .inr ⟨B, xs.length, cs, rfl, Nat.zero_le _, h, Nat.le_refl _, hm, ?_, ?_⟩⟩
  · rw [← Array.length_toList, hc]; simp
  · rw [hc, List.take_of_length_le (by simp)]

set_option maxRecDepth 100000 in
set_option maxHeartbeats 4000000 in
theorem sameInts_any {w : World} {v u : Value} {h g : List Int} (hv : Rows 1 EInt w v h) (hu : Rows 1 EInt w u g) (hl : h.length ≤ maxLen) (hl2 : g.length ≤ maxLen) :
    Calls Try.prog 7 #[v, u] w fun e w' => e = .returned (.bool (decide (h = g))) ∧ Below w.heap.size w w' := by
  obtain ⟨A, cap, rfl, hc⟩ := hv.form
  obtain ⟨A2, cap2, rfl, hc2⟩ := hu.form
  obtain ⟨n, hn⟩ : ∃ n, h.length = n := ⟨_, rfl⟩
  obtain ⟨n2, hn2⟩ : ∃ n, g.length = n := ⟨_, rfl⟩
  obtain ⟨q, hq⟩ : ∃ q, decide (h = g) = q := ⟨_, rfl⟩
  have hqq : q = true ↔ h = g := by rw [← hq, decide_eq_true_iff]
  rw [hq]
  have HV := Lib.hid (fun W (hb : Below w.heap.size w W) => hv.below stays_int hb)
  have HU := Lib.hid (fun W (hb : Below w.heap.size w W) => hu.below stays_int hb)
  have HQ := Lib.hid hqq
  rw [hn] at hc hl HV ⊢
  rw [hn2] at hc2 hl2 HU ⊢
  unfold maxLen at hl hl2
  have HN := Lib.hid hn
  have HN2 := Lib.hid hn2
  clear hv hu hn hn2 hq hqq
  by_cases hnn : n = n2
  · subst hnn
    go_enter Try.func7, Try.ntmps7
    go_wp2_with fail
    go_loopw [13] (fun m wr => ∃ k : Nat, k ≤ n ∧ m = .int .i64 k ∧ Hid (∀ (j : Nat), j < k → h[j]? = g[j]?) ∧ Below w.heap.size w wr) (fun m _ => n - (Go.RowKit.intOf m).toNat)
    case atStart => exact ⟨0, Nat.zero_le _, rfl, Lib.hid (fun j h => absurd h (by omega)), Below.refl _ _⟩
    case round =>
      obtain ⟨k, hk, rfl, hno, hb⟩ := hrel
      by_cases hlt : k < n
      · obtain ⟨x, hx⟩ : ∃ x, h[k]? = some x := ⟨_, List.getElem?_eq_getElem (by rw [HN.out]; exact hlt)⟩
        obtain ⟨y, hy⟩ : ∃ x, g[k]? = some x := ⟨_, List.getElem?_eq_getElem (by rw [HN2.out]; exact hlt)⟩
        obtain ⟨b1, o1, rfl, -, hj1⟩ := at_int (HV.out wr hb) (by rw [HN.out]; omega)
        obtain ⟨b2, o2, rfl, -, hj2⟩ := at_int (HU.out wr hb) (by rw [HN2.out]; omega)
        have u0 := hj1 k x hx
        have u1 := hj2 k y hy
        have HB := Lib.hid hb
        have HX := Lib.hid hx
        have HY := Lib.hid hy
        have k0 : (0 : Int) ≤ (k : Int) := by omega
        have kn : (k : Int) < (n : Int) := by omega
        clear hj1 hj2 hx hy hb
        go_wp2_with fail
        go_quiet (fail)
        obtain ⟨w3, hw3⟩ : ∃ X, wr.drewN nq = X := ⟨_, rfl⟩
        rw [hw3]
        have HB3 := Lib.hid (show Below w.heap.size w w3 by rw [← hw3]; exact below_drewN HB.out nq)
        clear hw3
        by_cases hxy : x = y
        · subst hxy
          have hno' : Hid (∀ (j : Nat), j < k + 1 → h[j]? = g[j]?) := Lib.hid fun j hj => by
            by_cases e : j = k
            · subst e; rw [HX.out, HY.out]
            · exact hno.out j (by omega)
          have hxb : (x != x) = false := by simp
          go_wp2_with fail
          exact ⟨⟨k + 1, by omega, by go_num, hno', HB3.out⟩, by simp only [Go.RowKit.intOf]; omega⟩
        · have hqf : q = false := by
            rw [← Bool.not_eq_true]
            intro hq
            have := HQ.out.1 hq
            subst this
            rw [HX.out] at HY
            exact hxy (Option.some.inj HY.out)
          subst hqf
          have hxb : (x != y) = true := by simp [hxy]
          go_wp2_with fail
          go_ret
          exact ⟨rfl, HB3.out⟩
      · obtain rfl : k = n := by omega
        have hqt : q = true := HQ.out.2 (List.ext_getElem? fun j => by
          by_cases hj : j < k
          · exact hno.out j hj
          · rw [List.getElem?_eq_none (by rw [HN.out]; omega), List.getElem?_eq_none (by rw [HN2.out]; omega)])
        subst hqt
        have HB := Lib.hid hb
        clear hb
        go_wp2_with fail
        go_ret
        exact ⟨rfl, HB.out⟩
  · have hqf : q = false := by
      rw [← Bool.not_eq_true]
      intro hq
      have := HQ.out.1 hq
      exact hnn (by rw [← HN.out, ← HN2.out, this])
    subst hqf
    have hb : ((n : Int) != (n2 : Int)) = true := by simp; omega
    go_enter Try.func7, Try.ntmps7
    go_wp2_with fail
    go_ret
    exact ⟨rfl, Below.refl _ _⟩


theorem ex_l15 : chkH [5, 2, 1, 1] 15 = 0 ∧ hufLs [5, 2, 1, 1] (15 : Int).toNat = [1, 2, 3, 3] := by decide +kernel
theorem ex_l2 : chkH [5, 2, 1, 1] 2 = 0 ∧ hufLs [5, 2, 1, 1] (2 : Int).toNat = [2, 2, 2, 2] := by decide +kernel
theorem ex_ok : okLH [1, 2, 3, 3] := by unfold okLH; decide +kernel
theorem ex_e : encE [1, 2, 3, 3] [3, 0] = 0 := by
  unfold encE
  rw [if_neg (by simpa using ex_ok)]
  decide +kernel
theorem ex_b : encB (natLs [1, 2, 3, 3]) (natLs [3, 0]) = [true, true, true, false] := by decide +kernel
theorem ex_p : pack [true, true, true, false] = [224] := by decide +kernel
def LenOk (w : World) (l : List Int) (e : Ending) (w' : World) : Prop := ∃ v, e = .returned (.tuple #[v, .int .i64 0]) ∧ Rows 1 EInt w' v l ∧ Below w.heap.size w w'
theorem lengths_ok {w : World} {v : Value} {cs : List Int} (hv : Rows 1 EInt w v cs) (hlen : cs.length ≤ maxLen) (lim : Int) (hl0 : -9223372036854775808 ≤ lim) (hl1 : lim ≤ 9223372036854775807) (hz : chkH cs lim = 0) {l : List Int} (hl : hufLs cs lim.toNat = l) :
    Calls Try.prog 5 #[v, .int .i64 lim] w (LenOk w l) := by
  refine (lengths_any hv hlen lim hl0 hl1).mono ?_
  rintro e w' ⟨hb, (⟨hne, _⟩ | ⟨_, v', rfl, hr⟩)⟩
  · exact absurd hz hne
  · exact ⟨v', rfl, by rw [← hl]; exact hr, hb⟩
def EncOk (w : World) (q : Nat) (P : List UInt8) (e : Ending) (w' : World) : Prop := ∃ v, e = .returned (.tuple #[v, .int .i64 (q : Int), .int .i64 0]) ∧ Sees w' w'.heap.size v P ∧ Below w.heap.size w w'
theorem encode_ok {w : World} {vc vs : Value} {cs ss : List Int} (hv : Rows 1 EInt w vc cs) (hlen : cs.length ≤ maxLen) (hs : Rows 1 EInt w vs ss) (hslen : ss.length ≤ maxLen) (hz : encE cs ss = 0) {l : List Bool} {P : List UInt8} {q : Nat} (hl : encB (natLs cs) (natLs ss) = l) (hp : pack l = P) (hq : l.length = q) :
    Calls Try.prog 21 #[vc, vs] w (EncOk w q P) := by
  refine (encode_any hv hlen hs hslen).mono ?_
  rintro e w' ⟨hb, (⟨hne, _⟩ | ⟨_, v', rfl, hr⟩)⟩
  · exact absurd hz hne
  · exact ⟨v', by rw [hl, hq], by rw [← hp, ← hl]; exact hr, hb⟩
def AwV (w : World) (e : Ending) (w' : World) : Prop := e = .returned (.bool true) ∧ Below w.heap.size w w'
set_option maxRecDepth 100000 in
set_option maxHeartbeats 400000 in
theorem awake_any (w : World) : Calls Try.prog 8 #[] w (AwV w) := by
  have HBLK := Lib.hid (fun (W : World) (l : List Int) (cs : Array Value) (m : Nat) (hl : l.length = m) (hm : m ≤ 100) (hc : cs.toList = l.map fun x => Value.int .i64 x) => (show Rows 1 EInt (W.alloc (.cells cs 3)) (.slice (some ⟨W.heap.size, 0, none⟩) m m) l from
    block_rows l (block_new W (.cells cs 3)) hc hl (by unfold maxLen; omega)))
  have HSAME := Lib.hid (fun (W : World) (v : Value) (l : List Int) (cs : Array Value) (m : Nat) (hv : Rows 1 EInt W v l) (hl : l.length = m) (hm : m ≤ 100) (hc : cs.toList = l.map fun x => Value.int .i64 x) => (show Calls Try.prog 7 #[v, .slice (some ⟨W.heap.size, 0, none⟩) m m] (W.alloc (.cells cs 3)) fun e w' => e = .returned (.bool true) ∧ Below W.heap.size W w' from by
    have h1 := hv.below stays_int (below_box W (.cells cs 3))
    have h2 := block_rows l (block_new W (.cells cs 3)) hc hl (by unfold maxLen; omega)
    refine (sameInts_any h1 h2 (by unfold maxLen; omega) (by unfold maxLen; omega)).mono ?_
    rintro e w' ⟨rfl, hb⟩
    exact ⟨by rw [decide_eq_true rfl], (below_box W _).trans (hb.mono (by simp))⟩))
  have HL1 := Lib.hid (lengths_ok (HBLK.out w [5, 2, 1, 1] #[.int .i64 5, .int .i64 2, .int .i64 1, .int .i64 1] 4 rfl (by omega) rfl) (by show (_ : Nat) ≤ maxLen; unfold maxLen; simp) 15 (by omega) (by omega) ex_l15.1 ex_l15.2)
  go_enter Try.func8, Try.ntmps8
  go_wp2_with fail
  refine HL1.out.mono ?_
  rintro e w1 ⟨v1, rfl, hr1, hb1⟩
  have HR1 := Lib.hid hr1
  have HB1 := Lib.hid (show Below w.heap.size w w1 from (below_box w _).trans (hb1.mono (by simp)))
  have HL2 := Lib.hid (lengths_ok (HBLK.out w1 [5, 2, 1, 1] #[.int .i64 5, .int .i64 2, .int .i64 1, .int .i64 1] 4 rfl (by omega) rfl) (by show (_ : Nat) ≤ maxLen; unfold maxLen; simp) 2 (by omega) (by omega) ex_l2.1 ex_l2.2)
  obtain ⟨A1, c1, rfl, -⟩ := hr1.form
  clear hb1 hr1 HL1
  go_wp2_with fail
  refine HL2.out.mono ?_
  rintro e w2 ⟨v2, rfl, hr2, hb2⟩
  have HR2 := Lib.hid hr2
  have HB12 := Lib.hid (show Below w1.heap.size w1 w2 from (below_box w1 _).trans (hb2.mono (by simp)))
  have HRW := Lib.hid ((HBLK.out w2 [1, 2, 3, 3] #[.int .i64 1, .int .i64 2, .int .i64 3, .int .i64 3] 4 rfl (by omega) rfl))
  obtain ⟨X2, hX2⟩ : ∃ X2, w2.alloc (.cells #[.int .i64 1, .int .i64 2, .int .i64 3, .int .i64 3] 3) = X2 := ⟨_, rfl⟩
  rw [hX2] at HRW
  have hbX2 : Below w2.heap.size w2 X2 := by rw [← hX2]; exact below_box _ _
  have HENC := Lib.hid (encode_ok (HRW.out.below stays_int (below_box X2 (.cells #[.int .i64 3, .int .i64 0] 3))) (by show (_ : Nat) ≤ maxLen; unfold maxLen; simp) (HBLK.out X2 [3, 0] #[.int .i64 3, .int .i64 0] 2 rfl (by omega) rfl) (by show (_ : Nat) ≤ maxLen; unfold maxLen; simp) ex_e ex_b ex_p rfl)
  have hX2s : X2.heap.size = w2.heap.size + 1 := by rw [← hX2, alloc_sz]
  rw [hX2s] at HENC
  have HX2 := Lib.hid hX2
  have HBX2 := Lib.hid hbX2
  obtain ⟨A2, c2, rfl, -⟩ := hr2.form
  clear hb2 hr2 HL2 hX2 hbX2 hX2s
  go_wp2_with fail
  rw [HX2.out]
  go_wp2_with fail
  refine HENC.out.mono ?_
  rintro e w3 ⟨v3, rfl, hs3, hb3⟩
  have HB23 := Lib.hid (show Below w2.heap.size w2 w3 from HBX2.out.trans (((below_box X2 _).trans (hb3.mono (by simp))).mono HBX2.out.size))
  have HB13 := Lib.hid (show Below w1.heap.size w1 w3 from HB12.out.trans (HB23.out.mono HB12.out.size))
  have HS3 := Lib.hid hs3
  have HS1 := Lib.hid (HSAME.out w3 _ [1, 2, 3, 3] #[.int .i64 1, .int .i64 2, .int .i64 3, .int .i64 3] 4 (HR1.out.below stays_int HB13.out) rfl (by omega) rfl)
  clear hb3 hs3 HENC HX2 HRW
  go_wp2_with fail
  refine HS1.out.mono ?_
  rintro e w4 ⟨rfl, hb4⟩
  have HB24 := Lib.hid (show Below w2.heap.size w2 w4 from HB23.out.trans (hb4.mono HB23.out.size))
  have HS2 := Lib.hid (HSAME.out w4 _ [2, 2, 2, 2] #[.int .i64 2, .int .i64 2, .int .i64 2, .int .i64 2] 4 (HR2.out.below stays_int HB24.out) rfl (by omega) rfl)
  have HB34 := Lib.hid hb4
  clear hb4 HS1
  go_wp2_with fail
  refine HS2.out.mono ?_
  rintro e w5 ⟨rfl, hb5⟩
  have HS5 := Lib.hid ((HS3.out.below HB34.out).below (hb5.mono HB34.out.size))
  have hcv : (convert 54 9 v3).run Try.prog w5 = .ok (.string ⟨#[224]⟩) w5 := by
    have := HS5.out.convert
    simpa using this
  have HE : Hid (Below w.heap.size w w5) := Lib.hid (HB1.out.trans ((HB13.out.trans ((HB34.out.trans (hb5.mono HB34.out.size)).mono HB13.out.size)).mono HB1.out.size))
  clear hb5 HS2
  go_wp2_with fail
  go_ret
  exact ⟨rfl, HE.out⟩
end Go.Proofs.Yteennnhinfnahaa
namespace Go.Proofs.Yteennnhinfnahaa
open Go.RowKit Go.Shelf Go.Lib Go.Sort
set_option linter.unusedVariables false
set_option linter.unusedSimpArgs false

theorem preS_snoc : ∀ (l : List Int) (c : Int) (s : Nat), preS (l ++ [c]) s = if 0 < c then preS l s ++ [s + l.length] else preS l s
  | [], c, s => by
    by_cases h : 0 < c
    · simp [preS, h]
    · simp [preS, h]
  | a :: l, c, s => by
    have e : ∀ q : List Int, preS (a :: q) s = if 0 < a then s :: preS q (s + 1) else preS q (s + 1) := fun _ => rfl
    rw [List.cons_append, e, e, preS_snoc l c (s + 1), List.length_cons, show s + 1 + l.length = s + (l.length + 1) by omega]
    by_cases h : 0 < c
    · rw [if_pos h, if_pos h]; split <;> rfl
    · rw [if_neg h, if_neg h]
theorem preS_step {cs : List Int} {i : Nat} {c : Int} (h : cs[i]? = some c) : preS (cs.take (i + 1)) 0 = if 0 < c then preS (cs.take i) 0 ++ [i] else preS (cs.take i) 0 := by
  have hi : i ≤ cs.length := Nat.le_of_lt (List.getElem?_eq_some_iff.1 h).1
  rw [List.take_add_one, h, Option.toList_some, preS_snoc, List.length_take, Nat.min_eq_left hi, Nat.zero_add]
theorem sumS_snoc (S : List Nat) (s : Nat) (f : Nat → Nat) : sumS (S ++ [s]) f = sumS S f + f s := by simp [sumS]
theorem sumS_bound {S : List Nat} {f : Nat → Nat} {M : Nat} (h : ∀ s ∈ S, f s ≤ M) : sumS S f ≤ S.length * M := by
  have := sumS_le (g := fun _ => M) h
  rwa [sumS_const] at this
theorem preS_take_le (cs : List Int) (i : Nat) : (preS (cs.take i) 0).length ≤ i := by
  rw [preS_len]
  have := presN_le (cs.take i)
  rw [List.length_take] at this
  omega
/-- The sum over the present symbols of the first i. -/
def sumP (cs : List Int) (f : Nat → Nat) (i : Nat) : Nat := sumS (preS (cs.take i) 0) f
theorem sumP_zero (cs : List Int) (f : Nat → Nat) : sumP cs f 0 = 0 := by simp [sumP, preS, sumS]
theorem sumP_step {cs : List Int} {f : Nat → Nat} {i : Nat} {c : Int} (h : cs[i]? = some c) : sumP cs f (i + 1) = sumP cs f i + (if 0 < c then f i else 0) := by
  unfold sumP
  rw [preS_step h]
  by_cases hc : 0 < c
  · rw [if_pos hc, if_pos hc, sumS_snoc]
  · rw [if_neg hc, if_neg hc]; rfl
theorem sumP_all (cs : List Int) (f : Nat → Nat) : sumP cs f cs.length = sumS (preS cs 0) f := by unfold sumP; rw [List.take_length]
theorem pre_take_mem {cs : List Int} {i s : Nat} (h : s ∈ preS (cs.take i) 0) : s < i ∧ s ∈ preS cs 0 := by
  obtain ⟨_, c, h1, h2⟩ := preS_ge (cs.take i) 0 s h
  rw [Nat.sub_zero] at h1
  rw [List.getElem?_take] at h1
  split at h1
  · refine ⟨by assumption, ?_⟩
    have := preS_mem cs 0 s c h1 h2
    rwa [Nat.zero_add] at this
  · cases h1
theorem sumP_bound {cs : List Int} {f : Nat → Nat} {M : Nat} (h : ∀ s ∈ preS cs 0, f s ≤ M) (i : Nat) : sumP cs f i ≤ i * M := by
  unfold sumP
  exact Nat.le_trans (sumS_bound fun s hs => h s (pre_take_mem hs).2) (Nat.mul_le_mul_right _ (preS_take_le cs i))
theorem hufLs_at {cs : List Int} {lim i : Nat} (h : i < cs.length) : (hufLs cs lim)[i]? = some ((hufL (cN cs) (preS cs 0) lim i : Nat) : Int) := by
  unfold hufLs
  rw [List.getElem?_map, List.getElem?_range h]; rfl
theorem cN_at {cs : List Int} {i : Nat} {c : Int} (h : cs[i]? = some c) (hc : 0 ≤ c) : ((cN cs i : Nat) : Int) = c := by
  unfold cN
  rw [List.getD_eq_getElem?_getD, h, Option.getD_some]
  omega
theorem pre_at {cs : List Int} {i : Nat} {c : Int} (h : cs[i]? = some c) (hc : 0 < c) : i ∈ preS cs 0 := by
  have := preS_mem cs 0 i c h hc
  rwa [Nat.zero_add] at this
theorem pre_not {cs : List Int} {i : Nat} {c : Int} (h : cs[i]? = some c) (hc : ¬ 0 < c) : i ∉ preS cs 0 := fun hm => by
  obtain ⟨_, c', h1, h2⟩ := preS_ge cs 0 i hm
  rw [Nat.sub_zero, h] at h1
  cases h1
  exact hc h2
/-- append of one number to a row of the call's own. -/
theorem wpList_pushZ {w : World} {ops : Array Oper} {rest : List Oper} {o : Oper} {a : Act} {Q : Exit → Act → World → Prop} (hgd : o.guard = none) (s x : Operand)
    (ho : o.op = .call { callee := .builtin .append, args := #[s, x], argTypes := #[22, 22] })
    (base : Nat) (v : Value) (n : Nat) (l : List Value) (p : Int) (hs : a.eval s = v) (hx : a.eval x = .slice (some ⟨w.heap.size, 0, none⟩) 1 1)
    (hown : w.ownsRow base 3 1 v n l) (hn : n ≤ 1000000) (hbase : base ≤ w.heap.size)
    (h : ∀ v' w', Hid (w'.ownsRow base 3 1 v' (n + 1) (l ++ [.int .i64 p])) → Hid ((w.alloc (.cells #[.int .i64 p] 3)).grownBy w' v.ownBlock) → wpList Try.prog ops Q rest (a.put o.dst v') w') :
    wpList Try.prog ops Q (o :: rest) a (w.alloc (.cells #[.int .i64 p] 3)) := by
  obtain ⟨i0, hi, hz0, hz1, hz2⟩ := info_parts' Try.infoInt2
  refine wpList_append_own _ hgd s x 22 ho base 3 i0 _ 1 8 Try.underlying22 hi hz0 hz1 hz2 rfl (by decide) v n _ hs (hown.alloc _) _ 1 1 [.int .i64 p] hx rfl (news_at w [.int .i64 p] 3) (by simp [Value.oneCell']) (by unfold maxLen; omega) (by omega) (by simp; omega) ?_
  intro v' w' h1 h2 _
  exact h v' w' (Lib.hid h1) (Lib.hid h2)
theorem pow_shift {l : Nat} (h : l ≤ 15) : wrap64 ((2 : Int) ^ l) = ((2 ^ l : Nat) : Int) ∧ 2 ^ l ≤ 32768 := by
  have hp : (2 : Nat) ^ l ≤ 2 ^ 15 := Nat.pow_le_pow_right (by omega) h
  have e : ((2 : Int) ^ l) = ((2 ^ l : Nat) : Int) := by simp
  refine ⟨?_, hp⟩
  rw [e]
  obtain ⟨P, hP⟩ : ∃ P : Nat, 2 ^ l = P := ⟨_, rfl⟩
  rw [hP] at hp ⊢
  have h0 : (0 : Int) ≤ (P : Int) := by omega
  unfold wrap64; omega
theorem wrap_addN {a b c : Nat} (h : c = a + b) (hb : c ≤ 4000000) : wrap64 ((a : Int) + (b : Int)) = (c : Int) := by unfold wrap64; omega
theorem wrap_mulN {a b c : Nat} (h : a * b = c) (hb : c ≤ 4000000) : wrap64 ((a : Int) * (b : Int)) = (c : Int) := by
  have e : (a : Int) * (b : Int) = (c : Int) := by rw [← h]; simp
  rw [e]; unfold wrap64; omega
end Go.Proofs.Yteennnhinfnahaa
namespace Go.Proofs.Yteennnhinfnahaa
open Go.RowKit Go.Shelf Go.Lib Go.Deep
set_option linter.unusedVariables false
set_option linter.unusedSimpArgs false

theorem wrap_addM {a b c : Nat} (h : c = a + b) (hb : c ≤ 1000000000000) : wrap64 ((a : Int) + (b : Int)) = (c : Int) := by unfold wrap64; omega
theorem wrap_subM {a b c : Nat} (h : a - b = c) (hb : b ≤ a) (ha : a ≤ 1000000000000) : wrap64 ((a : Int) - (b : Int)) = (c : Int) := by unfold wrap64; omega
theorem u64_id {a : Nat} (ha : a ≤ 1000000000000) : IntKind.u64.wrap (a : Int) = (a : Int) := by rw [show IntKind.u64.wrap (a : Int) = (a : Int) % 18446744073709551616 from rfl]; omega
theorem u64_add1 {a : Nat} (ha : a ≤ 1000000000000) : IntKind.u64.wrap ((a : Int) + 1) = ((a + 1 : Nat) : Int) := by rw [show IntKind.u64.wrap ((a : Int) + 1) = ((a : Int) + 1) % 18446744073709551616 from rfl]; omega
theorem u64_shl {a d c : Nat} (h : a * 2 ^ d = c) (hc : c ≤ 1000000000000) : IntKind.u64.wrap ((a : Int) * 2 ^ d) = (c : Int) := by
  have e : (a : Int) * 2 ^ d = (c : Int) := by rw [← h]; simp
  rw [e]; exact u64_id hc
theorem kraft_le {L : List Nat} : kraft L ≤ L.length * 16384 := by
  refine list_snoc (P := fun L => kraft L ≤ L.length * 16384) (by simp [kraft]) (fun l x ih => ?_) L
  rw [kraft_snoc, List.length_append, List.length_singleton, Nat.add_mul]
  refine Nat.add_le_add ih ?_
  by_cases e : x = 0
  · rw [if_pos e]; exact Nat.zero_le _
  · rw [if_neg e]
    exact Nat.le_trans (show 2 ^ (15 - x) ≤ 2 ^ 14 from Nat.pow_le_pow_right (by omega) (by omega)) (by decide)
theorem kraft_b {cs : List Int} (h : cs.length ≤ 1024) (k : Nat) : kraft (natLs (cs.take k)) ≤ 16777216 := by
  refine Nat.le_trans kraft_le (Nat.le_trans (Nat.mul_le_mul_right _ (m := 1024) ?_) (by decide))
  unfold natLs
  rw [List.length_map, List.length_take]
  omega
def VldV (w : World) (cs : List Int) (e : Ending) (w' : World) : Prop := ∃ q, e = .returned (.bool q) ∧ (q = true ↔ okLH cs) ∧ w' = w
/-- Between two rounds of Valid. -/
def VlAt (cs : List Int) (k s : Nat) : Prop := (∀ x ∈ cs.take k, 0 ≤ x ∧ x ≤ 15) ∧ kraft (natLs (cs.take k)) = s

/-- The next code, out of the last one. -/
def NxR (L : List Nat) (n s nx la : Nat) : Prop := (la = 0 ∧ firstN L n + (L.take s).count n = 0) ∨ (1 ≤ la ∧ la ≤ n ∧ (nx + 1) * 2 ^ (n - la) = firstN L n + (L.take s).count n)
theorem NxR.use {L : List Nat} {n s nx la : Nat} (h : NxR L n s nx la) (hs : L[s]? = some n) (hn : 1 ≤ n) : NxR L n (s + 1) (firstN L n + (L.take s).count n) n := by
  right
  refine ⟨hn, Nat.le_refl _, ?_⟩
  rw [Nat.sub_self, Nat.pow_zero, Nat.mul_one, List.take_add_one, hs, Option.toList_some, List.count_append, List.count_singleton]
  simp; omega
theorem NxR.pass {L : List Nat} {n s nx la x : Nat} (h : NxR L n s nx la) (hs : L[s]? = some x) (hx : x ≠ n) : NxR L n (s + 1) nx la := by
  have e : (L.take (s + 1)).count n = (L.take s).count n := by
    rw [List.take_add_one, hs, Option.toList_some, List.count_append, List.count_singleton, if_neg (by simpa using hx)]; rfl
  unfold NxR
  rw [e]
  exact h
theorem NxR.next {L : List Nat} {n nx la : Nat} (h : NxR L n L.length nx la) (hn : 1 ≤ n) : NxR L (n + 1) 0 nx la := by
  unfold NxR at h ⊢
  have e : firstN L (n + 1) + (L.take 0).count (n + 1) = 2 * (firstN L n + (L.take L.length).count n) := by
    rw [List.take_length, ← endN_eq L hn]; simp [firstN]
  rw [e]
  rcases h with ⟨h1, h2⟩ | ⟨h1, h2, h3⟩
  · exact .inl ⟨h1, by omega⟩
  · refine .inr ⟨h1, by omega, ?_⟩
    rw [← h3, show n + 1 - la = (n - la) + 1 by omega, Nat.pow_succ, ← Nat.mul_assoc]; omega
theorem NxR.start (L : List Nat) : NxR L 1 0 0 0 := .inl ⟨rfl, by simp [firstN, endN]⟩
/-- Between two symbols of the reference's Codes. -/
def RcAt (w : World) (D : Nat) (L : List Nat) (n s nx la : Nat) (wr : World) : Prop := CdAt w D L n ((L.take s).count n) wr ∧ NxR L n s nx la ∧ nx ≤ 32768 ∧ la ≤ 15

end Go.Proofs.Yteennnhinfnahaa
