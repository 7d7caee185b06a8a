/-
  WALKS over package tokens, fifth part: Build, Encode.
  WALKS over package tokens, sixth part: numbersOf, At, Slice.
  WALKS over package tokens, seventh part: At, Slice.
  WALKS over the laws' helpers of package tokens: the reference's Check, built, awake.
-/
import Derived.Test.YteennnhinfnahaaDoorTzT
import Derived.Test.YteennnhinfnahaaDoorTzS
import Derived.Test.YteennnhinfnahaaDoorTzU
namespace Go.Proofs.YteennnhinfnahaaDoor
open Go.RowKit Go.Shelf Go.Lib
set_option linter.unusedVariables false
set_option linter.unusedSimpArgs false

def natT (cs : List Int) : List Nat := cs.map Int.toNat
def BuildT (w : World) (cs : List Int) (e : Ending) (w' : World) : Prop :=
  Below w.heap.size w w' ∧ ((chkT cs ≠ 0 ∧ e = .returned (.tuple #[.pointer none, .int .i64 (chkT cs)])) ∨ (chkT cs = 0 ∧ okT (natT cs) ∧ castN' (natT cs) = cs ∧ ∃ g, e = .returned (.tuple #[.pointer (some ⟨g, 0, none⟩), .int .i64 0]) ∧ SAt w' g (bstS (natT cs))))
theorem badT_any {cs : List Int} {k : Nat} {c : Int} (h : cs[k]? = some c) (hb : badT c = true) : cs.any badT = true := List.any_eq_true.2 ⟨c, List.mem_of_getElem? h, hb⟩
theorem badT_step {cs : List Int} {k : Nat} {c : Int} (h : cs[k]? = some c) (h0 : ∀ x ∈ cs.take k, badT x = false) (hb : badT c = false) : ∀ x ∈ cs.take (k + 1), badT x = false := fun x hx => by
  rw [List.take_add_one, h] at hx
  rcases List.mem_append.1 hx with hx | hx
  · exact h0 x hx
  · have : x = c := by simpa using hx
    rw [this]; exact hb
theorem badT_all {cs : List Int} (h0 : ∀ x ∈ cs.take cs.length, badT x = false) : cs.any badT = false := by
  rw [List.take_length] at h0
  exact List.any_eq_false.2 fun x hx => by rw [h0 x hx]; decide
theorem chkT_big {cs : List Int} (h : 4096 < cs.length) : chkT cs = 2 := by unfold chkT; rw [if_pos h]
theorem chkT_bad {cs : List Int} (h : cs.length ≤ 4096) (hb : cs.any badT = true) : chkT cs = 8 := by unfold chkT; rw [if_neg (by omega), if_pos hb]
theorem chkT_good {cs : List Int} (h : cs.length ≤ 4096) (hb : cs.any badT = false) : chkT cs = 0 := by unfold chkT; rw [if_neg (by omega), if_neg (by rw [hb]; decide)]
set_option maxRecDepth 100000 in
set_option maxHeartbeats 4000000 in
theorem buildT_any {w : World} {v : Value} {cs : List Int} (hv : Rows 1 EInt w v cs) (hlen : cs.length ≤ maxLen) : Calls Tryd.prog 11 #[v] w (BuildT w cs) := by
  have HV := Lib.hid (fun W (hb : Below w.heap.size w W) => hv.below stays_int hb)
  obtain ⟨A, cap, rfl, -⟩ := hv.form
  obtain ⟨n, hn⟩ : ∃ n, cs.length = n := ⟨_, rfl⟩
  rw [hn] at HV hlen ⊢
  unfold maxLen at hlen
  have HN := Lib.hid hn
  by_cases hbig : 4096 < n
  · have HE : Hid (BuildT w cs (.returned (.tuple #[.pointer none, .int .i64 2])) w) := Lib.hid (by
      have h2 := chkT_big (cs := cs) (by rw [hn]; exact hbig)
      exact ⟨Below.refl _ _, .inl ⟨by rw [h2]; decide, by rw [h2]⟩⟩)
    have hbi : decide ((n : Int) > 4096) = true := decide_eq_true (by omega)
    have hbn : decide (4096 < n) = true := decide_eq_true hbig
    clear hv hn
    go_enter Tryd.func11, Tryd.ntmps11
    go_wp2_with fail
    go_ret2
    exact HE.out
  · have hbi : decide ((n : Int) > 4096) = false := decide_eq_false (by omega)
    have hbn : decide (4096 < n) = false := decide_eq_false hbig
    have hn4 : n ≤ 4096 := by omega
    have HE8 := Lib.hid (fun (h : cs.any badT = true) => show BuildT w cs (.returned (.tuple #[.pointer none, .int .i64 8])) w from by
      have h2 := chkT_bad (by rw [hn]; exact hn4) h
      exact ⟨Below.refl _ _, .inl ⟨by rw [h2]; decide, by rw [h2]⟩⟩)
    have HG0 := Lib.hid (fun (h : cs.any badT = false) => chkT_good (by rw [hn]; exact hn4) h)
    clear hv hn hbig
    go_enter Tryd.func11, Tryd.ntmps11
    go_wp2_with fail
    go_loopw [13] (fun iv wr => wr = w ∧ ∃ k : Nat, k ≤ n ∧ iv = .int .i64 k ∧ Hid (∀ x ∈ cs.take k, badT x = false)) (fun iv _ => n - (Go.RowKit.intOf iv).toNat)
    case atStart => exact ⟨rfl, 0, Nat.zero_le _, rfl, Lib.hid (fun x hx => by simp at hx)⟩
    case round =>
      obtain ⟨rfl, k, hk, rfl, HT⟩ := hrel
      by_cases hlt : k < n
      · have hlti : (k : Int) < (n : Int) := by omega
        obtain ⟨x, hx⟩ : ∃ x, cs[k]? = some x := ⟨_, List.getElem?_eq_getElem (by rw [HN.out]; exact hlt)⟩
        obtain ⟨b, o, rfl, -, hj⟩ := at_int (HV.out _ (Below.refl _ _)) (by rw [HN.out]; omega)
        have u0 := hj k x hx
        by_cases d1 : x < 0
        · have b1 : decide (x < 0) = true := decide_eq_true d1
          have HE := Lib.hid (HE8.out (badT_any hx (by unfold badT; rw [decide_eq_true_eq]; omega)))
          clear hj hx HT d1 HE8 HG0
          go_wp2_with fail
          go_ret2
          exact HE.out
        · have b1 : decide (x < 0) = false := decide_eq_false d1
          by_cases d2 : 1024 ≤ x
          · have b2 : decide (x ≥ 1024) = true := decide_eq_true d2
            have b2' : decide (1024 ≤ x) = true := decide_eq_true d2
            have HE := Lib.hid (HE8.out (badT_any hx (by unfold badT; rw [decide_eq_true_eq]; omega)))
            clear hj hx HT d1 d2 HE8 HG0
            go_wp2_with fail
            go_ret2
            exact HE.out
          · have b2 : decide (x ≥ 1024) = false := decide_eq_false d2
            have b2' : decide (1024 ≤ x) = false := decide_eq_false d2
            have HNX : Hid (∀ y ∈ cs.take (k + 1), badT y = false) := Lib.hid (badT_step hx HT.out (by unfold badT; rw [decide_eq_false_iff_not]; omega))
            clear hj hx HT d1 d2
            go_wp2_with fail
            exact ⟨⟨trivial, k + 1, by omega, by go_num, HNX⟩, by simp only [Go.RowKit.intOf]; omega⟩
      · obtain rfl : k = n := by omega
        have hlti : ¬ (k : Int) < (k : Int) := by omega
        have hz := HG0.out (badT_all (by have h := HT.out; rw [← HN.out] at h; exact h))
        obtain ⟨hcs, hok⟩ := chkT_ok hz
        have hnat : castN' (natT cs) = cs := hcs
        have HZ := Lib.hid hz
        have HNAT := Lib.hid hnat
        have HOK := Lib.hid (show okT (natT cs) from hok)
        have HPK := Lib.hid (packS_any (by rw [hnat]; exact HV.out _ (Below.refl _ _)) HOK.out)
        have HCD := Lib.hid (fun W (hb : Below wr.heap.size wr W) => codeS_any (w := W) (by rw [hnat]; exact HV.out W hb) HOK.out)
        obtain ⟨ns, hns⟩ : ∃ ns, natT cs = ns := ⟨_, rfl⟩
        have HF : Hid (∀ g W, Below wr.heap.size wr W → SAt W g (bstS ns) → BuildT wr cs (.returned (.tuple #[.pointer (some ⟨g, 0, none⟩), .int .i64 0])) W) := Lib.hid (fun g W hb hs => ⟨hb, .inr ⟨HZ.out, HOK.out, HNAT.out, g, rfl, by rw [hns]; exact hs⟩⟩)
        rw [hns] at HPK HCD HOK
        clear HT hz hcs hok hnat hns HE8 HG0 HZ HNAT
        go_wp2_with fail
        refine HPK.out.mono ?_
        rintro e w2 ⟨g1, rfl, hs1, hb1⟩
        have HC2 := Lib.hid (HCD.out w2 hb1)
        have HS1 := Lib.hid hs1
        have HB1 := Lib.hid hb1
        clear hs1 hb1 HPK HCD
        go_wp2_with fail
        refine HC2.out.mono ?_
        rintro e w3 ⟨g2, rfl, hs2, hb2⟩
        have HS1b := Lib.hid (HS1.out.below hb2)
        have HB2 := Lib.hid (HB1.out.trans (hb2.mono HB1.out.size))
        have HS2 := Lib.hid hs2
        have HP2 := Lib.hid (payloadT_any hs2 (cdS_ok HOK.out).1 (cdS_ok HOK.out).2)
        clear hs2 hb2 HC2 HS1 HB1
        go_wp2_with fail
        refine HP2.out.mono ?_
        rintro e w4 ⟨v4, rfl, ho4, hb4⟩
        obtain ⟨A4, c4, rfl, -⟩ := own_form ho4
        have HS1c := Lib.hid (HS1b.out.below hb4)
        have HS2c := Lib.hid (HS2.out.below hb4)
        have HB4 := Lib.hid (HB2.out.trans (hb4.mono HB2.out.size))
        have HP1 := Lib.hid (payloadT_any HS1c.out (pkS_ok HOK.out).1 (pkS_ok HOK.out).2)
        clear ho4 hb4 HP2 HS1b HS2 HB2
        go_wp2_with fail
        refine HP1.out.mono ?_
        rintro e w5 ⟨v5, rfl, ho5, hb5⟩
        obtain ⟨A5, c5, rfl, -⟩ := own_form ho5
        have HS1d := Lib.hid (HS1c.out.below hb5)
        have HS2d := Lib.hid (HS2c.out.below hb5)
        have HB5 := Lib.hid (HB4.out.trans (hb5.mono HB4.out.size))
        have HBST := Lib.hid (show bstS ns = if (payS (cdS ns)).length < (payS (pkS ns)).length then cdS ns else pkS ns from rfl)
        obtain ⟨x2, hx2⟩ : ∃ z, (payS (cdS ns)).length = z := ⟨_, rfl⟩
        obtain ⟨x1, hx1⟩ : ∃ z, (payS (pkS ns)).length = z := ⟨_, rfl⟩
        rw [hx1, hx2] at HBST
        simp only [hx1, hx2]
        clear ho5 hb5 HP1 HS1c HS2c HB4 hx1 hx2
        by_cases hc : x2 < x1
        · have HE := Lib.hid (HF.out g2 w5 HB5.out (by rw [HBST.out, if_pos hc]; exact HS2d.out))
          have hd : decide ((x2 : Int) < (x1 : Int)) = true := decide_eq_true (by omega)
          have hdi : (x2 : Int) < (x1 : Int) := by omega
          clear HF hc
          go_wp2_with fail
          go_ret2
          exact HE.out
        · have HE := Lib.hid (HF.out g1 w5 HB5.out (by rw [HBST.out, if_neg hc]; exact HS1d.out))
          have hdi : ¬ (x2 : Int) < (x1 : Int) := by omega
          have hd : decide ((x2 : Int) < (x1 : Int)) = false := decide_eq_false hdi
          clear HF hc
          go_wp2_with fail
          go_ret2
          exact HE.out

/-- What Encode answers. -/
def encT (S : Stm) : List UInt8 := sealL (payS S)
theorem encodeT_any {w : World} {g : Nat} {S : Stm} (h : SAt w g S) (hok : okS S) (hlen : (payS S).length ≤ 90400) (ht : Tab w) (h0 : 0 < w.heap.size) :
    Calls Tryd.prog 17 #[.pointer (some ⟨g, 0, none⟩)] w fun e w' => ∃ v' b, e = .returned v' ∧ w'.ownsRow b 5 1 v' (encT S).length (Lib.byteCells (encT S)) ∧ Below w.heap.size w w' := by
  have HP := Lib.hid (payloadT_any h hok hlen)
  have HT := Lib.hid (fun W (hb : Below w.heap.size w W) => ht.below hb h0)
  have HL := Lib.hid hlen
  clear h hok hlen ht h0
  go_enter Tryd.func17, Tryd.ntmps17
  go_wp2_with fail
  refine HP.out.mono ?_
  rintro e w2 ⟨v2, rfl, ho2, hb2⟩
  have HB2 := Lib.hid hb2
  have HSE := Lib.hid (seal_any (sees_own ho2) (by have := HL.out; omega) (HT.out w2 hb2))
  clear ho2 hb2 HP HT
  go_wp2_with fail
  refine HSE.out.mono ?_
  rintro e w3 ⟨v3, rfl, ho3, hb3⟩
  have HO3 := Lib.hid ho3
  have HB3 := Lib.hid (HB2.out.trans (hb3.mono HB2.out.size))
  clear ho3 hb3 HSE HB2
  go_wp2_with fail
  go_ret
  exact ⟨_, _, rfl, HO3.out, HB3.out⟩
end Go.Proofs.YteennnhinfnahaaDoor
namespace Go.Proofs.YteennnhinfnahaaDoor
open Go.RowKit Go.Shelf Go.Lib
set_option linter.unusedVariables false
set_option linter.unusedSimpArgs false

/-- Numbers that a function of the package answers. -/
def NosV (w : World) (l : List Nat) (e : Ending) (w' : World) : Prop := ∃ v, e = .returned v ∧ Rows 1 EInt w' v (castN' l) ∧ Below w.heap.size w w'
theorem nosB_zero {S : Stm} (h : S.kind = 0) (i : Nat) (p : Nat × List UInt8) : nosB S i p = (unpB (prs1 p.2) p.2).getD [] := by unfold nosB; rw [if_pos h]
theorem nosB_one {S : Stm} (h : S.kind = 1) (i : Nat) (p : Nat × List UInt8) : nosB S i p = (decF (castN' S.lens) p.2 (p.1 : Nat) ((min 64 (S.size - 64 * i) : Nat) : Int)).1 := by unfold nosB; rw [if_neg (by omega), if_pos h]
theorem nosB_else {S : Stm} (h : S.kind ≠ 0) (h1 : S.kind ≠ 1) (i : Nat) (p : Nat × List UInt8) : nosB S i p = [] := by unfold nosB; rw [if_neg h, if_neg h1]
set_option maxRecDepth 100000 in
set_option maxHeartbeats 4000000 in
theorem nosT_any {w : World} {g : Nat} {S : Stm} (h : SAt w g S) (hok : okS S) {i : Nat} {p : Nat × List UInt8} (hp : S.blks[i]? = some p) (h64 : 64 * i ≤ S.size) :
    Calls Tryd.prog 21 #[.pointer (some ⟨g, 0, none⟩), .int .i64 (i : Nat)] w (NosV w (nosB S i p)) := by
  obtain ⟨vl, vb, h1, h2, h3⟩ := h
  have hgl : g < w.heap.size := (Array.getElem?_eq_some_iff.1 h1).1
  have hil := (List.getElem?_eq_some_iff.1 hp).1
  obtain ⟨Al, cl, rfl, -⟩ := h2.form
  obtain ⟨Ab, cb, rfl, hcb⟩ := h3.form
  obtain ⟨b, o, rfl, hpc⟩ := pc_all h3 (by omega)
  obtain ⟨A2, c2, hpw⟩ := hpc i p hp
  obtain ⟨k1, k2, k3, k4, k5, k6⟩ := hok
  have hp6 := k6 p (List.mem_of_getElem? hp)
  obtain ⟨u0, u1, hs0⟩ := hpw w (Below.refl _ _)
  obtain ⟨x, C⟩ := p
  obtain ⟨sz, kd, ls, bs⟩ := S
  simp only at h1 h2 h3 k1 k2 k3 k4 k5 hp6 u0 u1 hs0 h64 hil hpw hcb
  obtain ⟨m, hm⟩ : ∃ m, bs.length = m := ⟨_, rfl⟩
  have hm64 : m ≤ 64 := by rw [← hm, k5]; exact nbT_le k1
  obtain ⟨n, hn⟩ : ∃ n, ls.length = n := ⟨_, rfl⟩
  obtain ⟨q, hq⟩ : ∃ q, C.length = q := ⟨_, rfl⟩
  rw [castN'_len, hn] at h1 h2
  rw [hm] at h1 hil
  rw [hq] at u1 hs0 hp6 hpw
  have HN := Lib.hid hn
  have HQ := Lib.hid hq
  have HK3 := Lib.hid k3
  obtain ⟨c0, c1, c2', c3⟩ := s_cells h1
  have HV := Lib.hid (fun W (hb : Below w.heap.size w W) => And.intro (s_cells (block_below h1 hb hgl)) (And.intro (h2.below stays_int hb) (hpw W hb).2.2))
  obtain ⟨N, hN⟩ : ∃ N, w.heap.size = N := ⟨_, rfl⟩
  obtain ⟨X, hX⟩ : ∃ X, w.alloc (.cells #[.int .i64 (x : Nat), .slice A2 q c2] 55) = X := ⟨_, rfl⟩
  have hbX : X.heap[N]? = some (.cells #[.int .i64 (x : Nat), .slice A2 q c2] 55 (0, 0)) := by rw [← hX, ← hN]; exact block_new w _
  have hBX : Below N w X := by rw [← hX, ← hN]; exact below_box w _
  have HBX := Lib.hid hBX
  have HXS := Lib.hid (show X.heap.size = N + 1 by rw [← hX, ← hN]; simp)
  have HBB := Lib.hid hbX
  have HNN := Lib.hid hN
  rw [hN] at HV
  have p0 : X.cell? ⟨N, 0, none⟩ = some (.int .i64 (x : Nat)) := cell_of hbX rfl
  have p1 : X.cell? ⟨N, 1, none⟩ = some (.slice A2 q c2) := cell_of hbX rfl
  obtain ⟨e0, e1, e2, e3⟩ := (HV.out X hBX).1
  have l1 : (w.alloc (.cells #[.int .i64 (x : Nat), .slice A2 q c2] 55)).cell? ⟨g, 1, none⟩ = some (.int .i64 (kd : Nat)) := by rw [hX]; exact e1
  have l2 : (w.alloc (.cells #[.int .i64 (x : Nat), .slice A2 q c2] 55)).cell? ⟨w.heap.size, 1, none⟩ = some (.slice A2 q c2) := by rw [hX, hN]; exact p1
  have hii : (i : Int) < (m : Int) := by omega
  have HXX := Lib.hid hX
  clear h1 h2 h3 hpc hpw hp k4 k5 k6 hs0 hcb hm hn hq hN hbX hBX hX hgl
  by_cases hk0 : kd = 0
  · subst hk0
    have HU := Lib.hid (unpackB_any (w := X) (v := .slice A2 q c2) (L := C) (((HV.out X HBX.out).2.2).mono (by rw [HXS.out]; omega)) (by rw [HQ.out]; omega))
    have HR := Lib.hid (nosB_zero (S := ⟨sz, 0, ls, bs⟩) rfl i (x, C))
    simp only at HR
    have hz : (((0 : Nat) : Int) == 0) = true := rfl
    have hz2 : ((0 : Int) == 0) = true := rfl
    go_enter Tryd.func21, Tryd.ntmps21
    go_wp2_with fail
    rw [HXX.out]
    refine HU.out.mono ?_
    rintro e w3 ⟨hb3, ⟨vs, hvs, -, v3, rfl, hr3⟩ | ⟨hvs, rfl⟩⟩
    · have HE : Hid (NosV w (nosB ⟨sz, 0, ls, bs⟩ i (x, C)) (.returned v3) w3) := Lib.hid ⟨v3, rfl, by rw [HR.out, hvs]; exact hr3, by rw [HNN.out]; exact HBX.out.trans (hb3.mono (by rw [HXS.out]; omega))⟩
      clear hb3 hvs hr3 HU HR
      go_wp2_with fail
      go_ret
      exact HE.out
    · have HE : Hid (NosV w (nosB ⟨sz, 0, ls, bs⟩ i (x, C)) (.returned (.slice none 0 0)) w3) := Lib.hid ⟨_, rfl, by rw [HR.out, hvs]; exact Rows.nil _, by rw [HNN.out]; exact HBX.out.trans (hb3.mono (by rw [HXS.out]; omega))⟩
      clear hb3 hvs HU HR
      go_wp2_with fail
      go_ret
      exact HE.out
  · by_cases hk1 : kd = 1
    · subst hk1
      have HR := Lib.hid (nosB_one (S := ⟨sz, 1, ls, bs⟩) rfl i (x, C))
      simp only at HR
      obtain ⟨r, hr⟩ : ∃ r, sz - 64 * i = r := ⟨_, rfl⟩
      obtain ⟨t, ht⟩ : ∃ t, min 64 r = t := ⟨_, rfl⟩
      obtain ⟨j, hj⟩ : ∃ j, 64 * i = j := ⟨_, rfl⟩
      rw [hr, ht] at HR
      have ht63 : t ≤ 64 := by omega
      have HD := Lib.hid (fun (W : World) (hb : Below N X W) (hz : N + 1 ≤ W.heap.size) => decode_any (w := W) (vc := .slice Al n cl) (vb := .slice A2 q c2) (cs := castN' ls) (bs := C) (HV.out W (HBX.out.trans hb)).2.1 (by rw [castN'_len]; have := HK3.out; unfold maxLen; omega) (((HV.out W (HBX.out.trans hb)).2.2).mono (by omega)) (by rw [HQ.out]; omega) (x : Nat) (t : Nat) (by omega) (by omega) (by omega) (by omega))
      have HD4 := Lib.hid (HD.out X.drew (Below.refl _ _).drew (Nat.le_of_eq HXS.out.symm))
      have HCL := Lib.hid (fun (W : World) (hb : Below (N + 1) X W) => show (W.cell? ⟨g, 2, none⟩ = some (.slice Al n cl) ∧ W.cell? ⟨N, 1, none⟩ = some (.slice A2 q c2) ∧ W.cell? ⟨N, 0, none⟩ = some (.int .i64 (x : Nat)) ∧ W.cell? ⟨g, 0, none⟩ = some (.int .i64 (sz : Nat))) from by
        have h1 := (HV.out W (HBX.out.trans (hb.mono (by omega)))).1
        have h2 : W.heap[N]? = some (.cells #[.int .i64 (x : Nat), .slice A2 q c2] 55 (0, 0)) := (hb.block N (by omega)).trans HBB.out
        exact ⟨h1.2.2.1, cell_of h2 rfl, cell_of h2 rfl, h1.1⟩)
      have hz : (((1 : Nat) : Int) == 0) = false := rfl
      have hz2 : ((1 : Int) == 0) = false := rfl
      have hz3 : (((1 : Nat) : Int) == 1) = true := rfl
      have hz4 : ((1 : Int) == 1) = true := rfl
      have a1 : (i : Int) * 64 = (j : Int) := by omega
      have a2 : IntKind.i64.wrap (j : Int) = (j : Int) := by rw [IntKind.wrap_i64]; omega
      have a3 : (sz : Int) - (j : Int) = (r : Int) := by omega
      have a4 : IntKind.i64.wrap (r : Int) = (r : Int) := by rw [IntKind.wrap_i64]; omega
      have a5 : min (64 : Int) (r : Int) = (t : Int) := by omega
      clear hr ht hj
      go_enter Tryd.func21, Tryd.ntmps21
      go_wp2_with fail
      rw [HNN.out, HXX.out]
      clear c0 c1 c2' c3 u0 u1 e3 l1 l2
      go_region_held3 (fun w' => w'.cell? ⟨g, 2, none⟩ = some (.slice Al n cl) ∧ w'.cell? ⟨N, 1, none⟩ = some (.slice A2 q c2) ∧ w'.cell? ⟨N, 0, none⟩ = some (.int .i64 (x : Nat)) ∧ w'.cell? ⟨g, 0, none⟩ = some (.int .i64 (sz : Nat)))
        (first
          | go_keep
          | (with_reducible exact HC4.out)
          | fail)
        ((first
          | (go_at_call 30; (with_reducible refine HD4.out.mono ?_); rintro e w4 ⟨hb4, v4, rfl, hr4⟩; have HB4 := Lib.hid (show Below (N + 1) X w4 by have h := (Below.refl (N + 1) X).drew.trans (hb4.mono (Nat.le_of_eq HXS.out.symm)); exact h); have HC4 := Lib.hid (HCL.out w4 HB4.out); have HR4 := Lib.hid hr4; clear hb4 hr4)
          | fail))
      have HE : Hid (NosV w (nosB ⟨sz, 1, ls, bs⟩ i (x, C)) (.returned v4) w4) := Lib.hid ⟨v4, rfl, by rw [HR.out]; exact HR4.out, by rw [HNN.out]; exact HBX.out.trans (HB4.out.mono (by omega))⟩
      clear HC4 HB4 HR4 HR
      go_wp2_with fail
      go_ret
      exact HE.out
    · have HE : Hid (NosV w (nosB ⟨sz, kd, ls, bs⟩ i (x, C)) (.returned (.slice none 0 0)) X) := Lib.hid ⟨_, rfl, by rw [nosB_else (by exact hk0) (by exact hk1)]; exact Rows.nil _, by rw [HNN.out]; exact HBX.out⟩
      have hz : ((kd : Int) == 0) = false := by simp; omega
      have hz1 : ((kd : Int) == 1) = false := by simp; omega
      rw [← HXX.out] at HE
      clear hk0 hk1 e0 e1 e2 e3 p0 p1
      go_enter Tryd.func21, Tryd.ntmps21
      go_wp2_with fail
      go_ret
      exact HE.out
end Go.Proofs.YteennnhinfnahaaDoor
namespace Go.Proofs.YteennnhinfnahaaDoor
open Go.RowKit Go.Shelf Go.Lib
set_option linter.unusedVariables false
set_option linter.unusedSimpArgs false

/-- The number at a place, and whether there is one. -/
def inT (ns : List Nat) (i : Int) : Bool := decide (0 ≤ i ∧ i < ns.length)
def atT (ns : List Nat) (i : Int) : Int := if inT ns i then ((ns.getD i.toNat 0 : Nat) : Int) else 0
theorem inT_no {ns : List Nat} {i : Int} (h : i < 0 ∨ (ns.length : Int) ≤ i) : inT ns i = false := by unfold inT; rw [decide_eq_false_iff_not]; omega
theorem inT_yes {ns : List Nat} {k : Nat} (h : k < ns.length) : inT ns (k : Int) = true := by unfold inT; rw [decide_eq_true_eq]; omega
theorem atT_no {ns : List Nat} {i : Int} (h : inT ns i = false) : atT ns i = 0 := by unfold atT; rw [if_neg (by rw [h]; decide)]
theorem atT_yes {ns : List Nat} {k x : Nat} (h : ns[k]? = some x) : atT ns (k : Int) = x := by
  unfold atT
  rw [if_pos (inT_yes (List.getElem?_eq_some_iff.1 h).1), Int.toNat_natCast, List.getD_eq_getElem?_getD, h]; rfl
def AtTV (w : World) (ns : List Nat) (i : Int) (e : Ending) (w' : World) : Prop := e = .returned (.tuple #[.int .i64 (atT ns i), .bool (inT ns i)]) ∧ Below w.heap.size w w'
set_option maxRecDepth 100000 in
set_option maxHeartbeats 4000000 in
theorem atT_any {w : World} {g : Nat} {ns : List Nat} (h : SAt w g (bstS ns)) (hok : okT ns) (i : Int) (h0 : -9223372036854775808 ≤ i) (h1 : i ≤ 9223372036854775807) :
    Calls Tryd.prog 12 #[.pointer (some ⟨g, 0, none⟩), .int .i64 i] w (AtTV w ns i) := by
  obtain ⟨n, hn⟩ : ∃ n, ns.length = n := ⟨_, rfl⟩
  have HS := Lib.hid h
  obtain ⟨vl, vb, hg, -, -⟩ := h
  rw [bst_size, hn] at hg
  have c0 := (s_cells hg).1
  have HN := Lib.hid hn
  have hn4 : n ≤ 4096 := by rw [← hn]; exact hok.1
  by_cases d1 : i < 0
  · have HE : Hid (AtTV w ns i (.returned (.tuple #[.int .i64 0, .bool false])) w) := Lib.hid (by
      have h := inT_no (ns := ns) (.inl d1)
      exact ⟨by rw [atT_no h, h], Below.refl _ _⟩)
    have b1 : decide (i < 0) = true := decide_eq_true d1
    clear hg hn d1
    go_enter Tryd.func12, Tryd.ntmps12
    go_wp2_with fail
    go_ret2
    exact HE.out
  · have b1 : decide (i < 0) = false := decide_eq_false d1
    by_cases d2 : (n : Int) ≤ i
    · have HE : Hid (AtTV w ns i (.returned (.tuple #[.int .i64 0, .bool false])) w) := Lib.hid (by
        have h := inT_no (ns := ns) (i := i) (.inr (by rw [hn]; exact d2))
        exact ⟨by rw [atT_no h, h], Below.refl _ _⟩)
      have b2 : decide (i ≥ (n : Int)) = true := decide_eq_true d2
      have b2' : decide ((n : Int) ≤ i) = true := decide_eq_true d2
      clear hg hn d1 d2
      go_enter Tryd.func12, Tryd.ntmps12
      go_wp2_with fail
      go_ret2
      exact HE.out
    · obtain ⟨k, rfl⟩ : ∃ k : Nat, i = k := ⟨i.toNat, by omega⟩
      have hkn : k < n := by omega
      have b1' : decide ((k : Int) < 0) = false := decide_eq_false d1
      have b2 : decide ((k : Int) ≥ (n : Int)) = false := decide_eq_false d2
      have b2' : decide (n ≤ k) = false := decide_eq_false (by omega)
      have b3 : decide ((n : Int) ≤ (k : Int)) = false := decide_eq_false d2
      have hq1 : (k : Int).tdiv 64 = ((k / 64 : Nat) : Int) := by rw [Int.tdiv_eq_ediv_of_nonneg (by omega)]; omega
      have hq2 : IntKind.i64.wrap ((k / 64 : Nat) : Int) = ((k / 64 : Nat) : Int) := by rw [IntKind.wrap_i64]; omega
      have hr1 : (k : Int).tmod 64 = ((k % 64 : Nat) : Int) := by rw [Int.tmod_eq_emod_of_nonneg (by omega)]; omega
      have hr2 : IntKind.i64.wrap ((k % 64 : Nat) : Int) = ((k % 64 : Nat) : Int) := by rw [IntKind.wrap_i64]; omega
      obtain ⟨p, hp, hpn⟩ := nos_bst hok (i := k / 64) (by rw [hn]; unfold nbT; omega)
      have HNO := Lib.hid (nosT_any HS.out (bst_ok hok).1 hp (by rw [bst_size, hn]; omega))
      rw [hpn] at HNO
      obtain ⟨x, hx⟩ : ∃ x, ns[k]? = some x := ⟨_, List.getElem?_eq_getElem (by rw [hn]; exact hkn)⟩
      have hget : (blkT ns (k / 64))[k % 64]? = some x := by rw [blkT_get]; exact hx
      obtain ⟨j, hj⟩ : ∃ j, k / 64 = j := ⟨_, rfl⟩
      obtain ⟨r, hr⟩ : ∃ r, k % 64 = r := ⟨_, rfl⟩
      rw [hj] at hq1 hq2 HNO hget
      rw [hr] at hr1 hr2 hget
      have HGET := Lib.hid hget
      have HE : Hid (∀ w', Below w.heap.size w w' → AtTV w ns (k : Int) (.returned (.tuple #[.int .i64 (x : Nat), .bool true])) w') := Lib.hid (fun w' hb => ⟨by rw [atT_yes hx, inT_yes (by rw [hn]; exact hkn)], hb⟩)
      have hrl : r < (blkT ns j).length := (List.getElem?_eq_some_iff.1 hget).1
      have HRL := Lib.hid hrl
      clear hg hn d1 d2 hp hpn hx hget hj hr hrl HS
      go_enter Tryd.func12, Tryd.ntmps12
      go_wp2_with fail
      refine HNO.out.mono ?_
      rintro e w2 ⟨v2, rfl, hr2', hb2⟩
      obtain ⟨A2, c2, rfl, -⟩ := hr2'.form
      obtain ⟨b, o, rfl, -, hjj⟩ := at_int hr2' (by rw [castN'_len]; have := HRL.out; omega)
      have u0 := hjj r (x : Int) (by unfold castN'; rw [List.getElem?_map, HGET.out]; rfl)
      have hE := Lib.hid (HE.out w2 hb2)
      obtain ⟨L, hL⟩ : ∃ L, (castN' (blkT ns j)).length = L := ⟨_, rfl⟩
      have hrL : (r : Int) < (L : Int) := by rw [← hL, castN'_len]; have := HRL.out; omega
      simp only [hL]
      clear hr2' hb2 hjj hL HNO HE
      go_wp2_with fail
      go_ret2
      exact hE.out
/-- A part of a row of numbers. -/
theorem sliceT_rows (A : Option Addr) (n cap : Nat) {xs : List Int} (hn : xs.length = n) (hc : n ≤ cap) (lo hi : Nat) (h1 : lo ≤ hi) (h2 : hi ≤ n) :
    ∃ (A' : Option Addr) (c' : Nat), (∀ W, (Instr.slice 22 (.slice A n cap) (some (.int .i64 (lo : Int))) (some (.int .i64 (hi : Int))) none).run Tryd.prog W = .ok (.slice A' (hi - lo) c') W) ∧ ∀ (W : World), Rows 1 EInt W (.slice A n cap) xs → Rows 1 EInt W (.slice A' (hi - lo) c') ((xs.take hi).drop lo) := by
  have hsz : ∀ W, (sizeOf (Tryd.prog.elem 22)).run Tryd.prog W = .ok 1 W := fun W => by kernel_rfl
  refine ⟨if cap = lo then A else A.map (·.add (lo * 1)), cap - lo, fun W => ?_, fun W h => ?_⟩
  · rw [run_slice_lh W 22 _ _ _ (by kernel_rfl) .i64 .i64 lo hi (by omega) (by omega) (by omega), hsz W]
    simp [Result.andThen, sliced]
  · refine h.part h1 (by omega) (by omega) _ (fun h0 b off hA => ?_)
    rw [if_neg (by omega), hA]
    simp [add_plain]
def iT (xs : List Int) : List Value := xs.map fun x => Value.int .i64 x
theorem rows_seesT {w : World} {v : Value} {xs : List Int} (h : Rows 1 EInt w v xs) (h0 : 0 < xs.length) : SeesC w w.heap.size v (iT xs) := by
  obtain ⟨A, cap, rfl, hc⟩ := h.form
  obtain ⟨b, o, rfl, hb, hj⟩ := at_int h h0
  refine .inr ⟨⟨b, o, none⟩, cap, by simp [iT], by simpa [iT] using hc, fun _ => hb, fun j u hu => ?_⟩
  unfold iT at hu
  rw [List.getElem?_map] at hu
  cases hx : xs[j]? with
  | none => rw [hx] at hu; cases hu
  | some x =>
    rw [hx] at hu
    simp only [Option.map_some, Option.some.injEq] at hu
    rw [← hu]
    have ha : (⟨b, o, none⟩ : Addr).add j = ⟨b, o + j, none⟩ := by unfold Addr.add; split <;> simp_all
    rw [ha]
    exact hj j x hx
/-- append of numbers that are read to a row of the call's own. -/
theorem wpList_catI {w : World} {ops : Array Oper} {rest : List Oper} {o : Oper} {a : Act} {Q : Exit → Act → World → Prop} (hgd : o.guard = none) (s x : Operand)
    (ho : o.op = .call { callee := .builtin .append, args := #[s, x], argTypes := #[22, 22] }) (base : Nat) (v : Value) (L : List Int) (hs : a.eval s = v) (hown : w.ownsRow base 3 1 v L.length (iT L))
    (vx : Value) (M : List Int) (hx : a.eval x = vx) (hn : Rows 1 EInt w vx M) (h0 : 0 < M.length) (h63 : L.length + M.length ≤ 1000000) (hbase : base ≤ w.heap.size)
    (h : ∀ v' w', Hid (w'.ownsRow base 3 1 v' (L ++ M).length (iT (L ++ M))) → Hid (w.grownBy w' v.ownBlock) → wpList Tryd.prog ops Q rest (a.put o.dst v') w') : wpList Tryd.prog ops Q (o :: rest) a w := by
  obtain ⟨i0, hi, hz0, hz1, hz2⟩ := info_parts' Tryd.infoInt2
  have hl : (iT M).length = M.length := by simp [iT]
  refine wpList_append_sees hgd s x 22 ho base 3 i0 _ 8 Tryd.underlying22 hi hz0 hz1 hz2 rfl v L.length (iT L) hs hown vx _ (iT M) hx (rows_seesT hn h0) (fun u hu => by
    obtain ⟨y, _, rfl⟩ := List.mem_map.1 hu
    rfl) (by rw [hl]; unfold maxLen; omega) (by rw [hl]; omega) hbase ?_
  intro v' w' h1 h2 _
  refine h v' w' (Lib.hid ?_) (Lib.hid h2)
  rw [hl] at h1
  rw [List.length_append, show iT (L ++ M) = iT L ++ iT M by simp [iT]]
  exact h1
/-- May these be the bounds of a part? -/
def okCut (n : Nat) (a b : Int) : Prop := 0 ≤ a ∧ a ≤ b ∧ b ≤ n
def SliceV (w : World) (ns : List Nat) (a b : Int) (e : Ending) (w' : World) : Prop :=
  Below w.heap.size w w' ∧ ((okCut ns.length a b ∧ ∃ v, e = .returned (.tuple #[v, .bool true]) ∧ Rows 1 EInt w' v (castN' ((ns.take b.toNat).drop a.toNat))) ∨ (¬ okCut ns.length a b ∧ e = .returned (.tuple #[.slice none 0 0, .bool false])))
/-- So many blocks have been read. -/
def cutT (ns : List Nat) (f c : Nat) : List Nat := (ns.drop (64 * f)).take (64 * c)
theorem cutT_step (ns : List Nat) (f c : Nat) : cutT ns f (c + 1) = cutT ns f c ++ blkT ns (f + c) := by
  unfold cutT blkT
  rw [show 64 * (f + c) = 64 * f + 64 * c by omega, ← List.drop_drop, show 64 * (c + 1) = 64 * c + 64 by omega, List.take_add]
theorem cutT_len (ns : List Nat) (f c : Nat) : (cutT ns f c).length = min (64 * c) (ns.length - 64 * f) := by simp [cutT]
theorem cutT_part {ns : List Nat} {f c a b : Nat} (ha : 64 * f ≤ a) (hab : a ≤ b) (hb : b ≤ 64 * (f + c)) : ((cutT ns f c).take (b - 64 * f)).drop (a - 64 * f) = (ns.take b).drop a := by
  unfold cutT
  rw [List.take_take, Nat.min_eq_left (by omega), List.drop_take, List.drop_drop, List.drop_take]
  congr 1
  · omega
  · congr 1
    omega
structure SlAt (w : World) (ns : List Nat) (f c : Nat) (v : Value) (wr : World) : Prop where
  bl : Below w.heap.size w wr
  own : wr.ownsRow w.heap.size 3 1 v (castN' (cutT ns f c)).length (iT (castN' (cutT ns f c)))
set_option maxRecDepth 100000 in
set_option maxHeartbeats 4000000 in
theorem sliceT_any {w : World} {g : Nat} {ns : List Nat} (h : SAt w g (bstS ns)) (hok : okT ns) (a b : Int) (ha0 : -9223372036854775808 ≤ a) (ha1 : a ≤ 9223372036854775807) (hb0 : -9223372036854775808 ≤ b) (hb1 : b ≤ 9223372036854775807) :
    Calls Tryd.prog 13 #[.pointer (some ⟨g, 0, none⟩), .int .i64 a, .int .i64 b] w (SliceV w ns a b) := by
  obtain ⟨n, hn⟩ : ∃ n, ns.length = n := ⟨_, rfl⟩
  have HS := Lib.hid (fun W (hb : Below w.heap.size w W) => h.below hb)
  obtain ⟨vl, vb, hg, -, -⟩ := h
  rw [bst_size, hn] at hg
  have c0 := (s_cells hg).1
  have HN := Lib.hid hn
  have hn4 : n ≤ 4096 := by rw [← hn]; exact hok.1
  have HNO : Hid (¬ okCut n a b → SliceV w ns a b (.returned (.tuple #[.slice none 0 0, .bool false])) w) := Lib.hid (fun h => ⟨Below.refl _ _, .inr ⟨by rw [hn]; exact h, rfl⟩⟩)
  by_cases d1 : a < 0
  · have HE := Lib.hid (HNO.out (fun h => by have := h.1; omega))
    have b1 : decide (a < 0) = true := decide_eq_true d1
    clear hg hn d1 HNO
    go_enter Tryd.func13, Tryd.ntmps13
    go_wp2_with fail
    go_ret2
    exact HE.out
  · have b1 : decide (a < 0) = false := decide_eq_false d1
    by_cases d2 : b < a
    · have HE := Lib.hid (HNO.out (fun h => by have := h.2.1; omega))
      have b2 : decide (b < a) = true := decide_eq_true d2
      clear hg hn d1 d2 HNO
      go_enter Tryd.func13, Tryd.ntmps13
      go_wp2_with fail
      go_ret2
      exact HE.out
    · have b2 : decide (b < a) = false := decide_eq_false d2
      by_cases d3 : (n : Int) < b
      · have HE := Lib.hid (HNO.out (fun h => by have := h.2.2; omega))
        have b3 : decide (b > (n : Int)) = true := decide_eq_true d3
        have b3' : decide ((n : Int) < b) = true := decide_eq_true d3
        clear hg hn d1 d2 d3 HNO
        go_enter Tryd.func13, Tryd.ntmps13
        go_wp2_with fail
        go_ret2
        exact HE.out
      · obtain ⟨lo, rfl⟩ : ∃ k : Nat, a = k := ⟨a.toNat, by omega⟩
        obtain ⟨hi, rfl⟩ : ∃ k : Nat, b = k := ⟨b.toNat, by omega⟩
        have b1' : decide ((lo : Int) < 0) = false := decide_eq_false d1
        have b2' : decide (hi < lo) = false := decide_eq_false (by omega)
        have b3 : decide ((hi : Int) > (n : Int)) = false := decide_eq_false d3
        have b3' : decide (n < hi) = false := decide_eq_false (by omega)
        have hlh : lo ≤ hi := by omega
        have hhn : hi ≤ n := by omega
        have HE : Hid (∀ v w', Below w.heap.size w w' → Rows 1 EInt w' v (castN' ((ns.take hi).drop lo)) → SliceV w ns lo hi (.returned (.tuple #[v, .bool true])) w') := Lib.hid (fun v w' hb hr => ⟨hb, .inl ⟨⟨by omega, by omega, by rw [hn]; omega⟩, v, rfl, hr⟩⟩)
        have hq1 : (lo : Int).tdiv 64 = ((lo / 64 : Nat) : Int) := by rw [Int.tdiv_eq_ediv_of_nonneg (by omega)]; omega
        have hq2 : IntKind.i64.wrap ((lo / 64 : Nat) : Int) = ((lo / 64 : Nat) : Int) := by rw [IntKind.wrap_i64]; omega
        obtain ⟨f, hf⟩ : ∃ f, lo / 64 = f := ⟨_, rfl⟩
        have hfl : 64 * f ≤ lo := by omega
        have hfu : lo < 64 * f + 64 := by omega
        rw [hf] at hq1 hq2
        have HBL := Lib.hid (fun (j : Nat) (hj : 64 * j < hi) (W : World) (hb : Below w.heap.size w W) => show Calls Tryd.prog 21 #[.pointer (some ⟨g, 0, none⟩), .int .i64 (j : Nat)] W (NosV W (blkT ns j)) from by
          obtain ⟨p, hp, hpn⟩ := nos_bst hok (i := j) (by rw [hn]; unfold nbT; omega)
          rw [← hpn]
          exact nosT_any (HS.out W hb) (bst_ok hok).1 hp (by rw [bst_size, hn]; omega))
        have HST : Hid (SlAt w ns f 0 (.slice none 0 0) w) := Lib.hid ⟨Below.refl _ _, by
          have e : cutT ns f 0 = [] := by simp [cutT]
          rw [e]
          exact World.ownsRow_nil _ _ _ _⟩
        clear hg hn d1 d2 d3 HNO hf HS
        go_enter Tryd.func13, Tryd.ntmps13
        go_wp2_with fail
        have HFF := Lib.hid (And.intro hfl hfu)
        have HLH := Lib.hid (And.intro hlh hhn)
        clear hlh hhn hfl hfu b1 b1' b2 b2' b3 b3' hq1 hq2
        go_loopw [9, 10] (fun nv0 iv wr => ∃ (nv : Value) (c j : Nat), nv = nv0 ∧ iv = .int .i64 (j : Nat) ∧ Hid (f + c = j ∧ (c = 0 ∨ 64 * j < hi + 64)) ∧ Hid (SlAt w ns f c nv wr)) (fun _ iv _ => 5000 - (Go.RowKit.intOf iv).toNat)
        case atStart => exact ⟨_, 0, f, rfl, rfl, Lib.hid ⟨rfl, .inl rfl⟩, HST⟩
        case round =>
          clear HST
          obtain ⟨nv, c, j, rfl, rfl, HJ, HT⟩ := hrel
          obtain ⟨J, hJ⟩ : ∃ J, 64 * j = J := ⟨_, rfl⟩
          have hj4 : J ≤ 64 * j := by omega
          have hjb : j ≤ 200 := by have := HJ.out; have := HFF.out; have := HLH.out; omega
          have hm1 : (j : Int) * 64 = (J : Int) := by omega
          have hm2 : IntKind.i64.wrap (J : Int) = (J : Int) := by rw [IntKind.wrap_i64]; omega
          have HJJ := Lib.hid hJ
          have hof := own_form HT.out.own
          obtain ⟨ln, hln⟩ : ∃ ln, (castN' (cutT ns f c)).length = ln := ⟨_, rfl⟩
          rw [hln] at hof
          obtain ⟨bA, bc, rfl, hcap⟩ := hof
          have HLN := Lib.hid hln
          by_cases hlt : J < hi
          · have hlti : (J : Int) < (hi : Int) := by omega
            have HC := Lib.hid (HBL.out j (by omega) wr HT.out.bl)
            have HPOS : Hid (0 < (castN' (blkT ns j)).length) := Lib.hid (by
              rw [castN'_len]
              refine blkT_pos ?_
              rw [HN.out]
              have := HLH.out
              unfold nbT
              omega)
            have HBD : Hid ((castN' (cutT ns f c)).length + (castN' (blkT ns j)).length ≤ 1000000) := Lib.hid (by
              rw [castN'_len, castN'_len, cutT_len, HN.out]
              have := blkT_le ns j
              omega)
            have HSTEP := Lib.hid (show castN' (cutT ns f (c + 1)) = castN' (cutT ns f c) ++ castN' (blkT ns j) by rw [cutT_step, HJ.out.1]; simp [castN'])
            have hj5 : j + 1 ≤ 4999 := by omega
            clear hJ hj4 hln hcap hlt
            go_wp2_with fail
            refine HC.out.mono ?_
            rintro e w2 ⟨v2, rfl, hr2, hb2⟩
            have HR2 := Lib.hid hr2
            have HO2 := Lib.hid (own_below HT.out.own fun k e => hb2.block k (own_low HT.out.own k e).2)
            have HB2 := Lib.hid (HT.out.bl.trans (hb2.mono HT.out.bl.size))
            obtain ⟨A2, c2, rfl, -⟩ := hr2.form
            obtain ⟨l2, hl2⟩ : ∃ l, (castN' (blkT ns j)).length = l := ⟨_, rfl⟩
            rw [hl2] at HR2
            simp only [hl2]
            clear hr2 hb2 hl2 HC
            go_wp2_with (at_builtin; refine wpList_catI rfl (.tmp 35) (.tmp 38) rfl w.heap.size _ (castN' (cutT ns f c)) rfl HO2.out _ (castN' (blkT ns j)) rfl HR2.out HPOS.out HBD.out HB2.out.size ?_)
            intro v3 w3 HO3 HG3
            have HNX : Hid (SlAt w ns f (c + 1) v3 w3) := Lib.hid ⟨HB2.out.grown HG3.out HB2.out.size (fun k e => (own_low HO2.out k e).1), by rw [HSTEP.out, List.length_append]; exact HO3.out⟩
            have HJ2 : Hid (f + (c + 1) = j + 1 ∧ (c + 1 = 0 ∨ 64 * (j + 1) < hi + 64)) := Lib.hid ⟨by have := HJ.out.1; omega, .inr (by have := HJJ.out; omega)⟩
            clear HO3 HG3 HO2 HR2 HB2 HT
            go_wp2_with fail
            exact ⟨⟨_, c + 1, j + 1, rfl, by go_num, HJ2, HNX⟩, by simp only [Go.RowKit.intOf]; omega⟩
          · have hlti : ¬ (J : Int) < (hi : Int) := by omega
            obtain ⟨F, hF⟩ : ∃ F, 64 * f = F := ⟨_, rfl⟩
            obtain ⟨lo2, hlo2⟩ : ∃ z, lo - 64 * f = z := ⟨_, rfl⟩
            obtain ⟨hi2, hhi2⟩ : ∃ z, hi - 64 * f = z := ⟨_, rfl⟩
            have hln2 : ln = min (64 * c) (n - 64 * f) := by rw [← hln, castN'_len, cutT_len, HN.out]
            have hjj := HJ.out
            have hff := HFF.out
            have hll := HLH.out
            have q1 : (f : Int) * 64 = (F : Int) := by omega
            have q2 : IntKind.i64.wrap (F : Int) = (F : Int) := by rw [IntKind.wrap_i64]; omega
            have q3 : (lo : Int) - (F : Int) = (lo2 : Int) := by omega
            have q4 : IntKind.i64.wrap (lo2 : Int) = (lo2 : Int) := by rw [IntKind.wrap_i64]; omega
            have q5 : (hi : Int) - (F : Int) = (hi2 : Int) := by omega
            have q6 : IntKind.i64.wrap (hi2 : Int) = (hi2 : Int) := by rw [IntKind.wrap_i64]; omega
            obtain ⟨A', c', hsl, hrow⟩ := sliceT_rows bA ln bc hln hcap lo2 hi2 (by omega) (by omega)
            have hpart : ((castN' (cutT ns f c)).take hi2).drop lo2 = castN' ((ns.take hi).drop lo) := by
              rw [← cutT_part (ns := ns) (f := f) (c := c) hff.1 hll.1 (by omega), hlo2, hhi2]
              unfold castN'
              rw [List.map_drop, List.map_take]
            have hrr := hrow wr (by
              have h := own_rows HT.out.own
              exact h)
            rw [hpart] at hrr
            have HE2 := Lib.hid (HE.out _ wr HT.out.bl hrr)
            clear hJ hj4 hln hcap hlt hF hlo2 hhi2 hln2 hjj hff hll hrow hpart hrr HT HE
            go_wp2_with fail
            go_ret2
            exact HE2.out
end Go.Proofs.YteennnhinfnahaaDoor
namespace Go.Proofs.YteennnhinfnahaaDoor
open Go.RowKit Go.Shelf Go.Lib
set_option linter.unusedVariables false
set_option linter.unusedSimpArgs false

set_option maxRecDepth 100000 in
set_option maxHeartbeats 4000000 in
theorem refCheckT_any {w : World} {v : Value} {cs : List Int} (hv : Rows 1 EInt w v cs) (hlen : cs.length ≤ maxLen) : Calls Tryd.prog 15 #[v] w fun e w' => e = .returned (.int .i64 (chkT cs)) ∧ w' = w := by
  have HV := Lib.hid hv
  obtain ⟨A, cap, rfl, -⟩ := hv.form
  obtain ⟨n, hn⟩ : ∃ n, cs.length = n := ⟨_, rfl⟩
  rw [hn] at HV hlen ⊢
  unfold maxLen at hlen
  have HN := Lib.hid hn
  obtain ⟨c, hc⟩ : ∃ c, chkT cs = c := ⟨_, rfl⟩
  have HC := Lib.hid hc
  rw [hc]
  by_cases hbig : 4096 < n
  · have h2 : c = 2 := by rw [← hc]; exact chkT_big (by rw [hn]; exact hbig)
    have hbi : decide ((n : Int) > 4096) = true := decide_eq_true (by omega)
    have hbn : decide (4096 < n) = true := decide_eq_true hbig
    have H2 := Lib.hid h2
    clear hv hn hc h2
    go_enter Tryd.func15, Tryd.ntmps15
    go_wp2_with fail
    go_ret
    rw [H2.out]
    exact ⟨rfl, rfl⟩
  · have hbi : decide ((n : Int) > 4096) = false := decide_eq_false (by omega)
    have hbn : decide (4096 < n) = false := decide_eq_false hbig
    have hn4 : n ≤ 4096 := by omega
    have HE8 := Lib.hid (fun (h : cs.any badT = true) => show c = 8 from by rw [← hc]; exact chkT_bad (by rw [hn]; exact hn4) h)
    have HG0 := Lib.hid (fun (h : cs.any badT = false) => show c = 0 from by rw [← hc]; exact chkT_good (by rw [hn]; exact hn4) h)
    clear hv hn hbig hc
    go_enter Tryd.func15, Tryd.ntmps15
    go_wp2_with fail
    go_loopw [10] (fun iv wr => wr = w ∧ ∃ k : Nat, k ≤ n ∧ iv = .int .i64 k ∧ Hid (∀ x ∈ cs.take k, badT x = false)) (fun iv _ => n - (Go.RowKit.intOf iv).toNat)
    case atStart => exact ⟨rfl, 0, Nat.zero_le _, rfl, Lib.hid (fun x hx => by simp at hx)⟩
    case round =>
      obtain ⟨rfl, k, hk, rfl, HT⟩ := hrel
      by_cases hlt : k < n
      · have hlti : (k : Int) < (n : Int) := by omega
        obtain ⟨x, hx⟩ : ∃ x, cs[k]? = some x := ⟨_, List.getElem?_eq_getElem (by rw [HN.out]; exact hlt)⟩
        obtain ⟨b, o, rfl, -, hj⟩ := at_int HV.out (by rw [HN.out]; omega)
        have u0 := hj k x hx
        by_cases d1 : x < 0
        · have b1 : decide (x < 0) = true := decide_eq_true d1
          have HE := Lib.hid (HE8.out (badT_any hx (by unfold badT; rw [decide_eq_true_eq]; omega)))
          clear hj hx HT d1 HE8 HG0
          go_wp2_with fail
          go_ret
          rw [HE.out]
          exact ⟨rfl, rfl⟩
        · have b1 : decide (x < 0) = false := decide_eq_false d1
          by_cases d2 : 1024 ≤ x
          · have b2 : decide (x ≥ 1024) = true := decide_eq_true d2
            have b2' : decide (1024 ≤ x) = true := decide_eq_true d2
            have HE := Lib.hid (HE8.out (badT_any hx (by unfold badT; rw [decide_eq_true_eq]; omega)))
            clear hj hx HT d1 d2 HE8 HG0
            go_wp2_with fail
            go_ret
            rw [HE.out]
            exact ⟨rfl, rfl⟩
          · have b2 : decide (x ≥ 1024) = false := decide_eq_false d2
            have b2' : decide (1024 ≤ x) = false := decide_eq_false d2
            have HNX : Hid (∀ y ∈ cs.take (k + 1), badT y = false) := Lib.hid (badT_step hx HT.out (by unfold badT; rw [decide_eq_false_iff_not]; omega))
            clear hj hx HT d1 d2
            go_wp2_with fail
            exact ⟨⟨trivial, k + 1, by omega, by go_num, HNX⟩, by simp only [Go.RowKit.intOf]; omega⟩
      · obtain rfl : k = n := by omega
        have hlti : ¬ (k : Int) < (k : Int) := by omega
        have HZ := Lib.hid (HG0.out (badT_all (by have h := HT.out; rw [← HN.out] at h; exact h)))
        clear HT HE8 HG0
        go_wp2_with fail
        go_ret
        rw [HZ.out]
        exact ⟨rfl, rfl⟩
/-- What the law's built answers. -/
def BuiltT (w : World) (cs : List Int) (e : Ending) (w' : World) : Prop :=
  Below w.heap.size w w' ∧ ((chkT cs ≠ 0 ∧ e = .returned (.tuple #[.pointer none, .bool true])) ∨ (chkT cs = 0 ∧ okT (natT cs) ∧ castN' (natT cs) = cs ∧ ∃ g, e = .returned (.tuple #[.pointer (some ⟨g, 0, none⟩), .bool true]) ∧ SAt w' g (bstS (natT cs))))
set_option maxRecDepth 100000 in
set_option maxHeartbeats 4000000 in
theorem builtT_any {w : World} {v : Value} {cs : List Int} (hv : Rows 1 EInt w v cs) (hlen : cs.length ≤ maxLen) : Calls Tryd.prog 8 #[v] w (BuiltT w cs) := by
  have HB := Lib.hid (buildT_any hv hlen)
  have HC := Lib.hid (fun W (hb : Below w.heap.size w W) => refCheckT_any (w := W) (hv.below stays_int hb) hlen)
  obtain ⟨A, cap, rfl, -⟩ := hv.form
  obtain ⟨n, hn⟩ : ∃ n, cs.length = n := ⟨_, rfl⟩
  rw [hn] at HB HC ⊢
  obtain ⟨c, hc⟩ : ∃ c, chkT cs = c := ⟨_, rfl⟩
  have HCC := Lib.hid hc
  rw [hc] at HC
  clear hv hlen hn hc
  go_enter Tryd.func8, Tryd.ntmps8
  go_wp2_with fail
  refine HB.out.mono ?_
  rintro e w2 ⟨hb2, ⟨hz, rfl⟩ | ⟨hz, hok, hnat, g, rfl, hs2⟩⟩
  · have HE : Hid (BuiltT w cs (.returned (.tuple #[.pointer none, .bool true])) w2) := Lib.hid ⟨hb2, .inl ⟨hz, rfl⟩⟩
    have HC2 := Lib.hid (HC.out w2 hb2)
    rw [HCC.out] at hz ⊢
    have b1 : (c == c) = true := by simp
    have b2 : (c == 0) = false := by simpa using hz
    clear hb2 hz HB HC
    go_wp2_with fail
    refine HC2.out.mono ?_
    rintro e w3 ⟨rfl, rfl⟩
    go_wp2_with fail
    go_ret2
    exact HE.out
  · have HE : Hid (BuiltT w cs (.returned (.tuple #[.pointer (some ⟨g, 0, none⟩), .bool true])) w2) := Lib.hid ⟨hb2, .inr ⟨hz, hok, hnat, g, rfl, hs2⟩⟩
    have HC2 := Lib.hid (HC.out w2 hb2)
    rw [HCC.out] at hz
    subst hz
    clear hb2 hok hnat hs2 HB HC
    go_wp2_with fail
    refine HC2.out.mono ?_
    rintro e w3 ⟨rfl, rfl⟩
    go_wp2_with fail
    go_ret2
    exact HE.out

/- The document's example. -/
theorem exT_wid : wid [5, 5, 5] = 3 := by
  refine wid_of (by decide) fun j hj => ?_
  simp only [cst_cstN]
  revert j
  decide +kernel
theorem exT_x : xsK 3 [5, 5, 5] 3 = ⟨0, 0, []⟩ := rfl
theorem exT_pack : packB (castB (blkT [5, 5, 5] 0)) = [3, 3, 0, 182, 128] := by
  rw [packB_blk, show blkT [5, 5, 5] 0 = [5, 5, 5] from rfl, exT_wid]
  unfold blkB
  have h3 : ([5, 5, 5] : List Nat).length = 3 := rfl
  rw [h3, exT_x, enc_lt (v := 3) (by decide), enc_lt (v := 0) (by decide)]
  decide +kernel
theorem exT_pay : payS (pkS [5, 5, 5]) = [3, 0, 5, 3, 3, 0, 182, 128] := by
  have e1 : pkS [5, 5, 5] = ⟨3, 0, [], [pkB [5, 5, 5] 0]⟩ := rfl
  have e2 : pkB [5, 5, 5] 0 = (5, [3, 3, 0, 182, 128]) := by unfold pkB; rw [exT_pack]; rfl
  rw [e1, e2]
  unfold payS payH payP
  simp only [List.flatMap_cons, List.flatMap_nil]
  rw [if_neg (by decide), enc_lt (v := 3) (by decide), enc_lt (v := 0) (by decide), enc_lt (v := 5) (by decide)]
  decide +kernel
theorem exT_len : 8 ≤ (payS (cdS [5, 5, 5])).length := by
  have h1 := enc_pos (cdS [5, 5, 5]).size
  have h2 := enc_pos (cdS [5, 5, 5]).kind
  have h3 : 6 ≤ (payH (cdS [5, 5, 5])).length := by
    unfold payH
    rw [if_pos (show (cdS [5, 5, 5]).kind = 1 from rfl), List.length_append, List.length_map, show (cdS [5, 5, 5]).lens = lnT [5, 5, 5] from rfl, lnT_len, show topT [5, 5, 5] = 6 from rfl]
    omega
  unfold payS
  simp only [List.length_append]
  omega
theorem exT_best : bstS [5, 5, 5] = pkS [5, 5, 5] := by
  unfold bstS
  rw [if_neg]
  have h1 := exT_len
  have h2 : (payS (pkS [5, 5, 5])).length = 8 := by rw [exT_pay]; rfl
  omega
theorem exT_chk : chkT [5, 5, 5] = 0 := by decide
theorem exT_nat : natT [5, 5, 5] = [5, 5, 5] := by decide
theorem exT_len12 : (encT (pkS [5, 5, 5])).length = 12 := by unfold encT; rw [seal_len, exT_pay]; rfl
theorem exT_take : (encT (pkS [5, 5, 5])).take 8 = [3, 0, 5, 3, 3, 0, 182, 128] := by
  unfold encT
  rw [exT_pay]
  rfl
def AwT (w : World) (e : Ending) (w' : World) : Prop := e = .returned (.bool true) ∧ Below w.heap.size w w'
set_option maxRecDepth 100000 in
set_option maxHeartbeats 4000000 in
theorem awakeT_any {w : World} (ht : Tab w) (h0 : 0 < w.heap.size) : Calls Tryd.prog 10 #[] w (AwT w) := by
  obtain ⟨w1, hw1⟩ : ∃ X, w.alloc (.cells #[.int .i64 5, .int .i64 5, .int .i64 5] 3) = X := ⟨_, rfl⟩
  have hb1 : Below w.heap.size w w1 := by rw [← hw1]; exact below_box _ _
  have hr1 : Rows 1 EInt w1 (.slice (some ⟨w.heap.size, 0, none⟩) 3 3) [5, 5, 5] := by
    rw [← hw1]
    exact rows_int (l := [5, 5, 5]) rfl (Nat.le_refl _) (block_new w (.cells (intRow [5, 5, 5]) 3))
  have HBU := Lib.hid (buildT_any hr1 (by decide))
  have HT := Lib.hid (fun W (hb : Below w.heap.size w W) => ht.below hb h0)
  have H0 := Lib.hid (fun W (hb : Below w.heap.size w W) => Nat.lt_of_lt_of_le h0 hb.size)
  have HB1 := Lib.hid hb1
  have HW1 := Lib.hid hw1
  clear hb1 hr1 hw1 ht h0
  go_enter Tryd.func10, Tryd.ntmps10
  go_wp2_with fail
  rw [HW1.out]
  refine HBU.out.mono ?_
  rintro e w2 ⟨hb2, ⟨hz, -⟩ | ⟨-, hok, -, g, rfl, hs2⟩⟩
  · exact absurd exT_chk hz
  rw [exT_nat, exT_best] at hs2
  rw [exT_nat] at hok
  have hb2w := HB1.out.trans (hb2.mono HB1.out.size)
  have HB2 := Lib.hid hb2w
  have HK := Lib.hid (kindT_any hs2)
  have HEN := Lib.hid (fun W (hb : Below w2.heap.size w2 W) => encodeT_any (hs2.below hb) (pkS_ok hok).1 (pkS_ok hok).2 (HT.out W (hb2w.trans (hb.mono hb2w.size))) (H0.out W (hb2w.trans (hb.mono hb2w.size))))
  clear hb2 hok hs2 hb2w HBU HB1 HW1
  go_wp2_with fail
  refine HK.out.mono ?_
  rintro e w3 ⟨rfl, rfl⟩
  have HE1 := Lib.hid (HEN.out w3 (Below.refl _ _))
  have hkz : (((pkS [5, 5, 5]).kind : Nat) : Int) = 0 := rfl
  rw [hkz]
  go_wp2_with fail
  refine HE1.out.mono ?_
  rintro e w4 ⟨v4, b4, rfl, ho4, hb4⟩
  rw [exT_len12] at ho4
  obtain ⟨A4, c4, rfl, -⟩ := own_form ho4
  have HE2 := Lib.hid (HEN.out w4 hb4)
  have HB4 := Lib.hid (HB2.out.trans (hb4.mono HB2.out.size))
  clear ho4 hb4 HE1 HEN
  go_wp2_with fail
  refine HE2.out.mono ?_
  rintro e w5 ⟨v5, b5, rfl, ho5, hb5⟩
  have hse := sees_own ho5
  rw [exT_len12] at ho5
  obtain ⟨A5, c5, rfl, hc5⟩ := own_form ho5
  have hcv := ((hse.to).2.2 8 (by decide)).convert
  rw [exT_take] at hcv
  have hsl : ∀ W, (Instr.slice 44 (.slice A5 12 c5) none (some (.int .i64 8)) none).run Tryd.prog W = .ok (.slice A5 8 c5) W := fun W => slice_to A5 12 c5 8 (by decide) hc5 W
  have HB5 := Lib.hid (HB4.out.trans (hb5.mono HB4.out.size))
  clear ho5 hb5 HE2 hse HB4 hc5
  go_wp2_with fail
  go_ret
  exact ⟨rfl, HB5.out⟩
end Go.Proofs.YteennnhinfnahaaDoor
