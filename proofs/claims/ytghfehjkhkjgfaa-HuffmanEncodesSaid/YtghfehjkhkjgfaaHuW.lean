/-
  WALKS over the reference of package huffman: Encode.
-/
import Derived.Test.YtghfehjkhkjgfaaHuV
import Derived.Test.YtghfehjkhkjgfaaBiL
import Derived.Test.YtghfehjkhkjgfaaBiT
namespace Go.Proofs.Ytghfehjkhkjgfaa
open Go.RowKit Go.Shelf Go.Lib
set_option linter.unusedVariables false
set_option linter.unusedSimpArgs false

/-- Between two symbols of the reference's Encode. -/
structure ReAt (w2 : World) (N : Nat) (cs ss : List Int) (k : Nat) (v : Value) (wr : World) : Prop where
  b : Below N w2 wr
  o : wr.ownsRow N 4 1 v (encB (natLs cs) (natLs (ss.take k))).length (boolCells (encB (natLs cs) (natLs (ss.take k))))
  g : ∀ x ∈ ss.take k, badS cs x = false
theorem cell_low {w : World} {a : Addr} {v : Value} (h : w.cell? a = some v) : a.block < w.heap.size := by
  rcases Nat.lt_or_ge a.block w.heap.size with hlt | hge
  · exact hlt
  · unfold World.cell? at h
    rw [Array.getElem?_eq_none hge] at h
    cases h
theorem natLs_take (ss : List Int) (k : Nat) : natLs (ss.take k) = (natLs ss).take k := by unfold natLs; rw [List.map_take]

set_option maxRecDepth 100000 in
set_option maxHeartbeats 8000000 in
theorem refEncode_any {w : World} {vc vs : Value} {cs ss : List Int} (hv : Rows 1 EInt w vc cs) (hlen : cs.length ≤ maxLen) (hs : Rows 1 EInt w vs ss) (hslen : ss.length ≤ maxLen) :
    Calls Try.prog 21 #[vc, vs] w (EncV w cs ss) := by
  have HCD := Lib.hid (refCodes_any hv hlen)
  have HV := Lib.hid (fun W (hb : Below w.heap.size w W) => And.intro (hv.below stays_int hb) (hs.below stays_int hb))
  obtain ⟨Ac, cc, rfl, -⟩ := hv.form
  obtain ⟨As, cap, rfl, -⟩ := hs.form
  obtain ⟨n, hn⟩ : ∃ n, cs.length = n := ⟨_, rfl⟩
  obtain ⟨m, hm⟩ : ∃ m, ss.length = m := ⟨_, rfl⟩
  rw [hn] at HCD HV ⊢
  rw [hm] at HV hslen ⊢
  unfold maxLen at hslen
  have HCN := Lib.hid hn
  have HM := Lib.hid hm
  clear hv hs hlen hn hm
  go_enter Try.func21, Try.ntmps21
  go_wp2_with fail
  refine HCD.out.mono ?_
  rintro e w2 ⟨hb, h | h⟩
  · obtain ⟨hno, rfl⟩ := h
    have he : encE cs ss = 1 := by unfold encE; rw [if_pos hno]
    have HE : Hid (EncV w cs ss (.returned (.tuple #[.slice none 0 0, .int .i64 0, .int .i64 1])) w2) := Lib.hid ⟨hb, .inl ⟨by rw [he]; decide, by rw [he]⟩⟩
    clear hb hno HCD he
    go_wp2_with fail
    go_ret3
    exact HE.out
  · obtain ⟨hok, v2, rfl, hr2⟩ := h
    obtain ⟨A2, c2, rfl, -⟩ := hr2.form
    have hcl : (cdF (natLs cs)).length = n := by rw [cdF_len]; unfold natLs; rw [List.length_map, HCN.out]
    rw [hcl] at hr2
    have HOK := Lib.hid hok
    have HB2 := Lib.hid hb
    have HCL := Lib.hid hcl
    rw [hcl]
    by_cases hbig : 4096 < m
    · have hI : (4096 : Int) < (m : Int) := by omega
      have he : encE cs ss = 2 := by unfold encE; rw [if_neg (by simpa using hok), if_pos (by rw [HM.out]; exact hbig)]
      have HE : Hid (EncV w cs ss (.returned (.tuple #[.slice none 0 0, .int .i64 0, .int .i64 2])) w2) := Lib.hid ⟨hb, .inl ⟨by rw [he]; decide, by rw [he]⟩⟩
      clear hb hok hr2 HCD he hcl hbig hslen
      go_wp2_with fail
      go_ret3
      exact HE.out
    · have hI : ¬ (4096 : Int) < (m : Int) := by omega
      have he0 : encE cs ss = if ss.any (badS cs) then 8 else 0 := by unfold encE; rw [if_neg (by simpa using hok), if_neg (by rw [HM.out]; exact hbig)]
      have HE0 := Lib.hid he0
      have hm1 : m ≤ 4096 := by omega
      have hnn : n ≤ 1024 := by have := hok.1; rw [HCN.out] at this; exact this
      have hc0 : ∀ c ∈ cs, 0 ≤ c := fun c hc => (hok.2.1 c hc).1
      have HC0 := Lib.hid hc0
      obtain ⟨N, hN⟩ : ∃ N, w2.heap.size = N := ⟨_, rfl⟩
      have HR := Lib.hid (fun W (hb2 : Below N w2 W) => (show (Rows 1 EInt W (.slice Ac n cc) cs ∧ Rows 1 EInt W (.slice As m cap) ss) ∧ Rows 1 EU W (.slice A2 n c2) (cdF (natLs cs)) from by
        rw [← hN] at hb2
        exact ⟨HV.out W (hb.trans (hb2.mono hb.size)), hr2.below stays_u hb2⟩))
      have HBW := Lib.hid (show ∀ W, Below N w2 W → Below w.heap.size w W from fun W hb2 => by rw [← hN] at hb2; exact hb.trans (hb2.mono hb.size))
      have HST0 : Hid (ReAt w2 N cs ss 0 (.slice none 0 0) w2) := Lib.hid ⟨Below.refl _ _, by simp only [List.take_zero, natLs, List.map_nil, encB, List.flatMap_nil]; exact World.ownsRow_nil _ _ _ 1, fun x hx => by simp at hx⟩
      have HNN := Lib.hid hN
      obtain ⟨i0, hi, hz0, hz1, hz2⟩ := info_parts' Try.infoBool
      clear hb hok hr2 HCD he0 hcl hbig hslen hc0 hN HB2 HV
      go_wp2_with fail
      go_loopw [9, 25] (fun lv sv wr => ∃ k : Nat, k ≤ m ∧ sv = .int .i64 k ∧ Hid (ReAt w2 N cs ss k lv wr)) (fun _ sv _ => m - (Go.RowKit.intOf sv).toNat)
      case atStart => exact ⟨0, Nat.zero_le _, rfl, HST0⟩
      case round =>
        clear HST0
        obtain ⟨k, hk, rfl, HT⟩ := hrel
        by_cases hlt : k < m
        · have hlti : (k : Int) < (m : Int) := by omega
          obtain ⟨x, hx⟩ : ∃ x, ss[k]? = some x := ⟨_, List.getElem?_eq_getElem (by rw [HM.out]; exact hlt)⟩
          obtain ⟨⟨hv2, hs2⟩, hu2⟩ := HR.out wr HT.out.b
          obtain ⟨b, o, rfl, -, hj⟩ := at_int hs2 (by rw [HM.out]; omega)
          have u0 := hj k x hx
          have hbadE : badS cs x = true → Hid (EncV w cs ss (.returned (.tuple #[.slice none 0 0, .int .i64 0, .int .i64 8])) wr) := fun hbd => by
            have he : encE cs ss = 8 := by rw [HE0.out, if_pos (List.any_eq_true.2 ⟨x, List.mem_of_getElem? hx, hbd⟩)]
            exact Lib.hid ⟨HBW.out wr HT.out.b, .inl ⟨by rw [he]; decide, by rw [he]⟩⟩
          have HBAD := Lib.hid hbadE
          have HXX := Lib.hid hx
          clear hj hx hs2 hbadE
          by_cases d1 : x < 0
          · have b1 : decide (x < 0) = true := decide_eq_true d1
            have HE := HBAD.out (by unfold badS; rw [decide_eq_true (.inl d1)]; rfl)
            clear HBAD hv2 hu2 HT d1
            go_wp2_with fail
            go_ret3
            exact HE.out
          · have b1 : decide (x < 0) = false := decide_eq_false d1
            by_cases d2 : (n : Int) ≤ x
            · have b2 : decide (x ≥ (n : Int)) = true := decide_eq_true d2
              have HE := HBAD.out (by unfold badS; rw [HCN.out, decide_eq_true (.inr d2)]; rfl)
              clear HBAD hv2 hu2 HT d1
              go_wp2_with fail
              go_ret3
              exact HE.out
            · have b2 : decide (x ≥ (n : Int)) = false := decide_eq_false d2
              obtain ⟨s, rfl⟩ : ∃ s : Nat, x = s := ⟨x.toNat, by omega⟩
              have b2' : decide (n ≤ s) = false := decide_eq_false (by omega)
              have hsn : s < n := by omega
              have hsni : (s : Int) < (n : Int) := by omega
              obtain ⟨⟨hv0, -⟩, hu0⟩ := HR.out w2 (Below.refl _ _)
              obtain ⟨b4, o4, rfl, -, hj4⟩ := at_int hv0 (by rw [HCN.out]; omega)
              obtain ⟨y, hy⟩ : ∃ y, cs[s]? = some y := ⟨_, List.getElem?_eq_getElem (by rw [HCN.out]; exact hsn)⟩
              have u4' := hj4 s y hy
              have hl4 : b4 < N := by rw [← HNN.out]; exact cell_low u4'
              have u4 := (HT.out.b.cell (p := ⟨b4, o4 + s, none⟩) hl4).trans u4'
              clear u4'
              have hgd : cs.getD (s : Int).toNat 0 = y := by rw [Int.toNat_natCast, List.getD_eq_getElem?_getD, hy]; rfl
              have hd : decide ((s : Int) < 0 ∨ (n : Int) ≤ (s : Int)) = false := decide_eq_false (by omega)
              by_cases d3 : y = 0
              · subst d3
                have HE := HBAD.out (by unfold badS; rw [HCN.out, hd, hgd]; rfl)
                clear HBAD hv2 hu2 hv0 HT d1 d2 hj4 hy hgd hd hsn
                go_wp2_with fail
                go_ret3
                exact HE.out
              · have b3 : (y == 0) = false := by simpa using d3
                have hy0 := HC0.out y (List.mem_of_getElem? hy)
                have hy15 := (HOK.out.2.1 y (List.mem_of_getElem? hy)).2
                obtain ⟨len, rfl⟩ : ∃ len : Nat, y = len := ⟨y.toNat, by omega⟩
                have hln : (natLs cs)[s]? = some len := by unfold natLs; rw [List.getElem?_map, hy]; simp
                have hg2 : ∀ z ∈ ss.take (k + 1), badS cs z = false := fun z hz => by
                  rw [List.take_add_one, HXX.out] at hz
                  rcases List.mem_append.1 hz with hz | hz
                  · exact HT.out.g z hz
                  · have : z = (s : Int) := by simpa using hz
                    rw [this]
                    unfold badS
                    rw [HCN.out, hd, hgd, b3]; rfl
                have hns : (natLs ss)[k]? = some s := by unfold natLs; rw [List.getElem?_map, HXX.out]; simp
                have hgl : (natLs cs).getD s 0 = len := by rw [List.getD_eq_getElem?_getD, hln]; rfl
                have hstep := encB_step (L := natLs cs) hns
                rw [hgl, ← natLs_take, ← natLs_take] at hstep
                obtain ⟨b5, o5, rfl, -, hj5⟩ := at_u hu0 (by rw [HCL.out]; omega)
                have u5' := hj5 s _ (cdF_at hln)
                have hl5 : b5 < N := by rw [← HNN.out]; exact cell_low u5'
                have u5 := (HT.out.b.cell (p := ⟨b5, o5 + s, none⟩) hl5).trans u5'
                clear u5'
                have hcb := codeN_le HOK.out.lens s
                obtain ⟨cd, hcd⟩ : ∃ cd, codeN (natLs cs) s = cd := ⟨_, rfl⟩
                rw [hcd] at u5 hstep hcb
                have hT := HT.out
                obtain ⟨q, hq⟩ : ∃ q, (encB (natLs cs) (natLs (ss.take k))).length = q := ⟨_, rfl⟩
                have hq1 : q ≤ 100000 := by
                  rw [← hq]
                  refine Nat.le_trans (encB_len HOK.out.lens _) ?_
                  unfold natLs
                  rw [List.length_map, List.length_take, HM.out]
                  omega
                have howl := hT.o
                rw [hq] at howl
                have HOWN := Lib.hid howl
                have HLOW := Lib.hid (low_of cd len (len : Int) rfl (by omega) (by omega) wr.drew)
                have hlen15 : len ≤ 15 := by omega
                have hlen1 : 0 < len := by omega
                have HLL := Lib.hid (low_len cd len)
                have hN1 : N ≤ wr.heap.size := by have := hT.b.size; rw [HNN.out] at this; exact this
                have HPUSH : Hid (∀ v' wa w', Below wr.heap.size wr wa → w'.ownsRow N 4 1 v' (q + len) (boolCells (encB (natLs cs) (natLs (ss.take k))) ++ boolCells (low cd len)) → wa.grownBy w' u9.ownBlock → ReAt w2 N cs ss (k + 1) v' w') := Lib.hid (fun v' wa w' h0 h1 h2 => by
                  refine ⟨((hT.b.trans (h0.mono hN1))).grown h2 (Nat.le_trans hN1 h0.size) (fun j e => (own_low howl j e).1), ?_, hg2⟩
                  rw [hstep, List.length_append, hq, low_len, boolCells_app]
                  exact h1)
                clear HBAD hv2 hu2 hv0 HT d1 d2 hj4 hy hgd hd hsn d3 hy0 hy15 hln hg2 hns hgl hstep hj5 hcb hcd hT hq howl
                go_wp2_with fail
                refine wp_region_held_drew (S := (fun w' => w'.cell? ⟨b5, o5 + s, none⟩ = some (.int .u64 (cd : Int)) ∧ w'.cell? ⟨b4, o4 + s, none⟩ = some (.int .i64 (len : Int)))) (by kernel_rfl) ?_ (fun hHeld => ?_)
                · (try dsimp only); exact ⟨u5, u4⟩
                refine wpAnyH_take (i := 0) (oi := ?oi1) (v := ?v1) ?hi1 (by kernel_rfl) (by kernel_rfl) (by kernel_rfl) ?hq1 ?hy1 (by assumption) ?hr1
                case hi1 => (simp only [List.getElem?_toArray, List.getElem?_cons_zero]; rfl)
                case hq1 => exact fun _ _ _ h => h
                case hy1 => exact Or.inl ⟨by rfl, by intro whSw hSw'; (try dsimp only at hSw'); (first | (go_simp; done) | (go_simp; with_reducible rfl))⟩
                try simp only [Act.put, List.setIfInBounds_toArray, List.set_cons_zero, List.set_cons_succ]
                refine wpAnyH_take (i := 1) (oi := ?oi2) (v := ?v2) ?hi2 (by kernel_rfl) (by kernel_rfl) (by kernel_rfl) ?hq2 ?hy2 (by assumption) ?hr2
                case hi2 => (simp only [List.getElem?_toArray, List.getElem?_cons_succ, List.getElem?_cons_zero]; rfl)
                case hq2 => exact fun _ _ _ h => h
                case hy2 => exact Or.inl ⟨by rfl, by intro whSw hSw'; (try dsimp only at hSw'); (first | (go_simp; done) | (go_simp; with_reducible rfl))⟩
                try simp only [Act.put, List.setIfInBounds_toArray, List.set_cons_zero, List.set_cons_succ]
                refine wpAnyH_take (i := 2) (oi := ?oi3) (v := ?v3) ?hi3 (by kernel_rfl) (by kernel_rfl) (by kernel_rfl) ?hq3 ?hy3 (by assumption) ?hr3
                case hi3 => (simp only [List.getElem?_toArray, List.getElem?_cons_succ, List.getElem?_cons_zero]; rfl)
                case hq3 => exact fun _ _ _ h => h
                case hy3 => exact Or.inl ⟨by rfl, by intro whSw hSw'; (try dsimp only at hSw'); (first | (go_simp; done) | (go_simp; with_reducible rfl))⟩
                try simp only [Act.put, List.setIfInBounds_toArray, List.set_cons_zero, List.set_cons_succ]
                refine wpAnyH_take (i := 3) (oi := ?oi4) (v := ?v4) ?hi4 (by kernel_rfl) (by kernel_rfl) (by kernel_rfl) ?hq4 ?hy4 (by assumption) ?hr4
                case hi4 => (simp only [List.getElem?_toArray, List.getElem?_cons_succ, List.getElem?_cons_zero]; rfl)
                case hq4 => exact fun _ _ _ h => h
                case hy4 => exact Or.inl ⟨by rfl, by intro whSw hSw'; (try dsimp only at hSw'); (first | (go_simp; done) | (go_simp; with_reducible rfl))⟩
                try simp only [Act.put, List.setIfInBounds_toArray, List.set_cons_zero, List.set_cons_succ]
                refine wpAnyH_take (i := 4) (oi := ?oi5) (v := ?v5) ?hi5 (by kernel_rfl) (by kernel_rfl) (by kernel_rfl) ?hq5 ?hy5 (by assumption) ?hr5
                case hi5 => (simp only [List.getElem?_toArray, List.getElem?_cons_succ, List.getElem?_cons_zero]; rfl)
                case hq5 => exact fun _ _ _ h => h
                case hy5 => exact Or.inl ⟨by rfl, by intro whSw hSw'; (try dsimp only at hSw'); (first | (go_simp; done) | (go_simp; with_reducible rfl))⟩
                try simp only [Act.put, List.setIfInBounds_toArray, List.set_cons_zero, List.set_cons_succ]
                refine wpAnyH_take (i := 5) (oi := ?oi6) (v := ?v6) ?hi6 (by kernel_rfl) (by kernel_rfl) (by kernel_rfl) ?hq6 ?hy6 (by assumption) ?hr6
                case hi6 => (simp only [List.getElem?_toArray, List.getElem?_cons_succ, List.getElem?_cons_zero]; rfl)
                case hq6 => exact fun _ _ _ h => h
                case hy6 => exact Or.inl ⟨by rfl, by intro whSw hSw'; (try dsimp only at hSw'); (first | (go_simp; done) | (go_simp; with_reducible rfl))⟩
                try simp only [Act.put, List.setIfInBounds_toArray, List.set_cons_zero, List.set_cons_succ]
                refine wpAnyH_take (i := 6) (oi := ?oi7) (v := ?v7) ?hi7 (by kernel_rfl) (by kernel_rfl) (by kernel_rfl) ?hq7 ?hy7 (by assumption) ?hr7
                case hi7 => (simp only [List.getElem?_toArray, List.getElem?_cons_succ, List.getElem?_cons_zero]; rfl)
                case hq7 => exact fun _ _ _ h => h
                case hy7 => exact Or.inl ⟨by rfl, by intro whSw hSw'; (try dsimp only at hSw'); (first | (go_simp; done) | (go_simp; with_reducible rfl))⟩
                try simp only [Act.put, List.setIfInBounds_toArray, List.set_cons_zero, List.set_cons_succ]
                refine wpAnyH_take (i := 7) (oi := ?oi8) (v := ?v8) ?hi8 (by kernel_rfl) (by kernel_rfl) (by kernel_rfl) ?hq8 ?hy8 (by assumption) ?hr8
                case hi8 => (simp only [List.getElem?_toArray, List.getElem?_cons_succ, List.getElem?_cons_zero]; rfl)
                case hq8 => exact fun _ _ _ h => h
                case hy8 => exact Or.inl ⟨by rfl, by intro whSw hSw'; (try dsimp only at hSw'); (first | (go_simp; done) | (go_simp; with_reducible rfl))⟩
                try simp only [Act.put, List.setIfInBounds_toArray, List.set_cons_zero, List.set_cons_succ]
                refine wpAnyH_take (i := 8) (oi := ?oi9) (v := ?v9) ?hi9 (by kernel_rfl) (by kernel_rfl) (by kernel_rfl) ?hq9 ?hy9 (by assumption) ?hr9
                case hi9 => (simp only [List.getElem?_toArray, List.getElem?_cons_succ, List.getElem?_cons_zero]; rfl)
                case hq9 => exact fun _ _ _ h => h
                case hy9 => exact Or.inl ⟨by rfl, by intro whSw hSw'; (try dsimp only at hSw'); (first | (go_simp; done) | (go_simp; with_reducible rfl))⟩
                try simp only [Act.put, List.setIfInBounds_toArray, List.set_cons_zero, List.set_cons_succ]
                refine wpAnyH_ready (rs := [9]) (by kernel_rfl) (by simp) ?_
                refine AllReadyH.cons (o := ?oo10) ?hi10 (fun K hK => ?hs10) ?hm10
                case hi10 => (simp only [List.getElem?_toArray, List.getElem?_cons_succ, List.getElem?_cons_zero]; rfl)
                · go_simp
                  refine HLOW.out.mono ?_
                  rintro e wa ⟨vl, rfl, hol, hbl⟩
                  have hbl' : Below wr.heap.size wr wa := ⟨hbl.os, hbl.tape, hbl.output, hbl.size, hbl.block⟩
                  obtain ⟨A5, c5, rfl, -⟩ := own_formI hol
                  have HSL := Lib.hid (seesC_own hol).1
                  have HO9 := Lib.hid (own_below HOWN.out fun k hk => hbl'.block k (own_low HOWN.out k hk).2)
                  have HBL := Lib.hid hbl'
                  have HS2 := Lib.hid (show wa.cell? ⟨b5, o5 + s, none⟩ = some (.int .u64 (cd : Int)) ∧ wa.cell? ⟨b4, o4 + s, none⟩ = some (.int .i64 (len : Int)) from ⟨(hbl'.cell (p := ⟨b5, o5 + s, none⟩) (cell_low u5)).trans u5, (hbl'.cell (p := ⟨b4, o4 + s, none⟩) (cell_low u4)).trans u4⟩)
                  clear hol hbl hbl'
                  (try go_wp2_with fail)
                  refine hK.out _ _ ?_ (fun hHeld => ?_)
                  · (try dsimp only); first | exact HS3.out | exact HS2.out | exact ⟨u5, u4⟩
                  clear hK K
                  try simp only [Act.put, List.setIfInBounds_toArray, List.set_cons_zero, List.set_cons_succ]
                  refine wpAnyH_ready (rs := [10]) (by kernel_rfl) (by simp) ?_
                  refine AllReadyH.cons (o := ?oo11) ?hi11 (fun K hK => ?hs11) ?hm11
                  case hi11 => (simp only [List.getElem?_toArray, List.getElem?_cons_succ, List.getElem?_cons_zero]; rfl)
                  · refine step_append_any rfl (.tmp 44) (.tmp 53) 79 rfl N 4 i0 _ 1 Try.underlying79 hi hz0 hz1 hz2 rfl u9 q _ rfl HO9.out _ wa.heap.size _ rfl HSL.out (bools_one _) (by rw [boolCells_length, low_len]; unfold maxLen; omega) (by rw [boolCells_length, low_len]; omega) (Nat.le_trans hN1 HBL.out.size) ?_
                    intro v' wb ho hg _
                    rw [boolCells_length, low_len] at ho
                    have HNX := Lib.hid (HPUSH.out v' _ wb HBL.out ho hg)
                    have hb3 : Below N wa wb := below_of_grown hg (Nat.le_trans hN1 HBL.out.size) (fun k e => (own_low HO9.out k e).1)
                    have HS3 := Lib.hid (show wb.cell? ⟨b5, o5 + s, none⟩ = some (.int .u64 (cd : Int)) ∧ wb.cell? ⟨b4, o4 + s, none⟩ = some (.int .i64 (len : Int)) from ⟨(hb3.cell (p := ⟨b5, o5 + s, none⟩) hl5).trans HS2.out.1, (hb3.cell (p := ⟨b4, o4 + s, none⟩) hl4).trans HS2.out.2⟩)
                    clear ho hg hb3
                    refine hK.out _ _ ?_ (fun hHeld => ?_)
                    · (try dsimp only); first | exact HS3.out | exact HS2.out | exact ⟨u5, u4⟩
                    clear hK K
                    try simp only [Act.put, List.setIfInBounds_toArray, List.set_cons_zero, List.set_cons_succ]
                    refine wpAnyH_take (i := 11) (oi := ?oi12) (v := ?v12) ?hi12 (by kernel_rfl) (by kernel_rfl) (by kernel_rfl) ?hq12 ?hy12 (by assumption) ?hr12
                    case hi12 => (simp only [List.getElem?_toArray, List.getElem?_cons_succ, List.getElem?_cons_zero]; rfl)
                    case hq12 => exact fun _ _ _ h => h
                    case hy12 => exact Or.inl ⟨by rfl, by intro whSw hSw'; (try dsimp only at hSw'); (first | (go_simp; done) | (go_simp; with_reducible rfl))⟩
                    try simp only [Act.put, List.setIfInBounds_toArray, List.set_cons_zero, List.set_cons_succ]
                    refine wpAnyH_done (by kernel_rfl) ?_ _
                    clear HPUSH HO9 HSL HBL HOWN HLOW HLL hHeld
                    go_wp2_with fail
                    exact ⟨⟨k + 1, by omega, by go_num, HNX⟩, by simp only [Go.RowKit.intOf]; omega⟩
                  exact AllReadyH.nil
                exact AllReadyH.nil
        · obtain rfl : k = m := by omega
          have hlti : ¬ (k : Int) < (k : Int) := by omega
          obtain ⟨hbT, hoT, hgT⟩ := HT.out
          rw [List.take_of_length_le (by rw [HM.out]; exact Nat.le_refl _)] at hoT hgT
          have he : encE cs ss = 0 := by rw [HE0.out, if_neg (by
            intro h
            obtain ⟨z, hz, hb⟩ := List.any_eq_true.1 h
            rw [hgT z hz] at hb
            cases hb)]
          obtain ⟨B, hB⟩ : ∃ B, encB (natLs cs) (natLs ss) = B := ⟨_, rfl⟩
          rw [hB] at hoT
          have hBl : B.length ≤ 1000000 := by
            rw [← hB]
            refine Nat.le_trans (encB_len HOK.out.lens _) ?_
            unfold natLs
            rw [List.length_map, HM.out]
            omega
          obtain ⟨Ab, cb, rfl, -⟩ := own_formI hoT
          have HPK := Lib.hid (pack_any (seesC_own hoT).1 hBl)
          have HEN := Lib.hid (show ∀ w3 v3, w3.ownsRow wr.heap.size 5 1 v3 (pack B).length (Go.Lib.byteCells (pack B)) → Below wr.heap.size wr w3 → EncV w cs ss (.returned (.tuple #[v3, .int .i64 (B.length : Nat), .int .i64 0])) w3 from fun w3 v3 h1 h2 => by
            have h0 := HBW.out wr hbT
            refine ⟨h0.trans (h2.mono h0.size), .inr ⟨he, v3, by rw [hB], by rw [hB]; exact sees_own h1⟩⟩)
          obtain ⟨q, hq⟩ : ∃ q, B.length = q := ⟨_, rfl⟩
          rw [hq] at HPK HEN
          rw [hq]
          clear hbT hoT hgT he hB hBl hq HT HE0
          go_wp2_with fail
          refine HPK.out.mono ?_
          rintro e w3 ⟨v3, rfl, ho3, hb3⟩
          have HE := Lib.hid (HEN.out w3 v3 ho3 hb3)
          clear ho3 hb3 HEN HPK
          go_wp2_with fail
          go_ret3
          exact HE.out
end Go.Proofs.Ytghfehjkhkjgfaa
