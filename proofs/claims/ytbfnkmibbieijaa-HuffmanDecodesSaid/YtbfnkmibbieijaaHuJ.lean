/-
  WALKS over package huffman: Lengths.
-/
import Derived.Test.YtbfnkmibbieijaaHuH
import Derived.Test.YtbfnkmibbieijaaHuI
import Derived.Laws.MakeOwn
namespace Go.Proofs.Ytbfnkmibbieijaa
open Go.RowKit Go.Shelf Go.Lib Go.Sort
set_option linter.unusedVariables false
set_option linter.unusedSimpArgs false

/-- The lengths that Lengths finds. -/
def hufLs (cs : List Int) (lim : Nat) : List Int := (List.range cs.length).map fun s => ((hufL (cN cs) (preS cs 0) lim s : Nat) : Int)
theorem hufLs_len (cs : List Int) (lim : Nat) : (hufLs cs lim).length = cs.length := by simp [hufLs]
theorem chk_zero {cs : List Int} {lim : Int} (h : chkH cs lim = 0) : ∃ l : Nat, lim = l ∧ 1 ≤ l ∧ l ≤ 15 ∧ cs.length ≤ 1024 ∧ (∀ c ∈ cs, 0 ≤ c ∧ c ≤ 4096) ∧ presN cs ≤ 2 ^ l := by
  unfold chkH at h
  by_cases c1 : lim < 1 ∨ 15 < lim
  · rw [if_pos c1] at h; omega
  · rw [if_neg c1] at h
    by_cases c2 : 1024 < cs.length
    · rw [if_pos c2] at h; omega
    · rw [if_neg c2] at h
      by_cases c3 : cs.any badC = true
      · rw [if_pos c3] at h; omega
      · rw [if_neg c3] at h
        by_cases c4 : 2 ^ lim.toNat < presN cs
        · rw [if_pos c4] at h; omega
        · refine ⟨lim.toNat, by omega, by omega, by omega, by omega, fun c hc => ?_, by omega⟩
          have h3 : cs.any badC = false := by simpa using c3
          have := List.any_eq_false.1 h3 c hc
          unfold badC at this
          simp at this
          omega
theorem lev_f {c : Nat → Nat} {M : Nat} {S : List Nat} (f : PT → Nat) (hf : ∀ a b, f (.node a b) = f a + f b) (hM : ∀ s ∈ S, f (.leaf s) ≤ M) : ∀ i, ∀ t ∈ lev c (leavesP S) i, f t ≤ M * 2 ^ i
  | 0, t, h => by simp [lev] at h
  | i + 1, t, h => by
    have h1 := (lev_perm c (leavesP S) i).mem_iff.1 h
    rw [Nat.pow_succ, ← Nat.mul_assoc]
    rcases List.mem_append.1 h1 with h1 | h1
    · obtain ⟨s, hs, rfl⟩ := List.mem_map.1 h1
      have := hM s hs
      have h2 : 1 ≤ 2 ^ i := Nat.one_le_two_pow
      have h3 : M * 1 ≤ M * 2 ^ i := Nat.mul_le_mul_left _ h2
      omega
    · have key : ∀ l : List PT, (∀ t ∈ l, f t ≤ M * 2 ^ i) → ∀ t ∈ pairs l, f t ≤ M * 2 ^ i * 2 := by
        intro l
        induction l using pairs.induct with
        | case1 x y m ih =>
          intro h t ht
          rcases List.mem_cons.1 ht with rfl | ht
          · have := h x (by simp)
            have := h y (by simp)
            rw [hf]; omega
          · exact ih (fun z hz => h z (by simp [hz])) t ht
        | case2 m hm =>
          intro _ t ht
          unfold pairs at ht
          split at ht
          · exact absurd rfl (hm _ _ _)
          · simp at ht
      exact key _ (lev_f f hf hM i) t h1
theorem occ_le_L {s : Nat} {t : PT} : ∀ {l : List PT}, t ∈ l → t.occ s ≤ occL s l
  | [], h => by simp at h
  | u :: l, h => by
    have e : occL s (u :: l) = u.occ s + occL s l := by simp [occL]
    rw [e]
    rcases List.mem_cons.1 h with rfl | h
    · omega
    · have := occ_le_L (s := s) h; omega
theorem lev_occ {c : Nat → Nat} {S : List Nat} (hS : S.Nodup) {i s : Nat} {t : PT} (ht : t ∈ lev c (leavesP S) i) (h : 0 < t.occ s) : s ∈ S := Classical.byContradiction fun hn => by
  have h1 := (nest c S hS i _ (Nat.le_refl _)).no s hn
  rw [List.take_length] at h1
  have := occ_le_L (s := s) ht
  omega
/-- Trees are added, one behind the other. -/
def addL (l : List PT) (L : List Int) : List Int := l.foldl (fun L t => addT t L) L
theorem addL_snoc (l : List PT) (t : PT) (L : List Int) : addL (l ++ [t]) L = addT t (addL l L) := by simp [addL]
theorem addL_len : ∀ (l : List PT) (L : List Int), (addL l L).length = L.length
  | [], L => rfl
  | t :: l, L => by show (addL l (addT t L)).length = _; rw [addL_len l, addT_len]
theorem addL_at : ∀ (l : List PT) (L : List Int) (s : Nat) (x : Int), L[s]? = some x → (addL l L)[s]? = some (x + (occL s l : Nat))
  | [], L, s, x, h => by show L[s]? = _; rw [h]; simp [occL]
  | t :: l, L, s, x, h => by
    show (addL l (addT t L))[s]? = _
    rw [addL_at l _ s _ (addT_at t L s x h)]
    have e : occL s (t :: l) = t.occ s + occL s l := by simp [occL]
    rw [e]; congr 1; omega
theorem occL_bound {f : Nat} {s : Nat} : ∀ {l : List PT}, (∀ t ∈ l, t.occ s ≤ f) → occL s l ≤ l.length * f
  | [], _ => by simp [occL]
  | t :: l, h => by
    have e : occL s (t :: l) = t.occ s + occL s l := by simp [occL]
    have := h t (by simp)
    have := occL_bound (l := l) fun u hu => h u (by simp [hu])
    rw [e, List.length_cons, Nat.add_mul]; omega
theorem addL_huf {cs : List Int} {lim : Nat} : addL ((lev (cN cs) (leavesP (preS cs 0)) lim).take (cutK (preS cs 0).length)) (List.replicate cs.length 0) = hufLs cs lim := by
  apply List.ext_getElem?
  intro s
  by_cases h : s < cs.length
  · rw [addL_at _ _ s 0 (by rw [List.getElem?_replicate, if_pos h])]
    unfold hufLs hufL
    rw [List.getElem?_map, List.getElem?_range h]
    simp
  · rw [List.getElem?_eq_none (by rw [addL_len]; simpa using h), List.getElem?_eq_none (by rw [hufLs_len]; omega)]
theorem fit_at {cs : List Int} {lim i : Nat} {t : PT} (hl : lim ≤ 15) (ht : (lev (cN cs) (leavesP (preS cs 0)) lim)[i]? = some t) (hi : i ≤ 100000) : FitT t (addL ((lev (cN cs) (leavesP (preS cs 0)) lim).take i) (List.replicate cs.length 0)) := by
  have hsz : ∀ u ∈ lev (cN cs) (leavesP (preS cs 0)) lim, u.size ≤ 1 * 2 ^ lim := lev_f PT.size (fun _ _ => rfl) (fun _ _ => Nat.le_refl _) lim
  have hp : (2 : Nat) ^ lim ≤ 2 ^ 15 := Nat.pow_le_pow_right (by omega) hl
  refine ⟨fun s hs => ?_, fun x hx => ?_⟩
  · have h1 := lev_occ (preS_nodup cs 0) (List.mem_of_getElem? ht) hs
    obtain ⟨_, c, h2, _⟩ := preS_ge cs 0 s h1
    rw [addL_len, List.length_replicate]
    exact (List.getElem?_eq_some_iff.1 h2).1
  · obtain ⟨s, hs, rfl⟩ := List.getElem_of_mem hx
    have hs' : s < cs.length := by simpa [addL_len] using hs
    have h1 := addL_at ((lev (cN cs) (leavesP (preS cs 0)) lim).take i) (List.replicate cs.length 0) s 0 (by rw [List.getElem?_replicate, if_pos hs'])
    obtain ⟨_, h2⟩ := List.getElem?_eq_some_iff.1 h1
    rw [h2]
    have h3 := occL_bound (f := 2 ^ 15) (s := s) (l := (lev (cN cs) (leavesP (preS cs 0)) lim).take i) fun u hu => by
      have := hsz u (List.mem_of_mem_take hu)
      have := occ_size s u
      omega
    have h4 : ((lev (cN cs) (leavesP (preS cs 0)) lim).take i).length * 2 ^ 15 ≤ i * 2 ^ 15 := Nat.mul_le_mul_right _ (by rw [List.length_take]; omega)
    have h5 := hsz t (List.mem_of_getElem? ht)
    omega
def LenV (w : World) (cs : List Int) (lim : Int) (e : Ending) (w' : World) : Prop :=
  Below w.heap.size w w' ∧ ((chkH cs lim ≠ 0 ∧ e = .returned (.tuple #[.slice none 0 0, .int .i64 (chkH cs lim)])) ∨ (chkH cs lim = 0 ∧ ∃ v, e = .returned (.tuple #[v, .int .i64 0]) ∧ Rows 1 EInt w' v (hufLs cs lim.toNat)))
theorem cut_max (k : Nat) : max (k : Int) (2 * (k : Int) - 2) = ((cutK k : Nat) : Int) := by unfold cutK; omega

theorem RepL.at {c : Nat → Nat} {its : List It} {ns : List Nat} {ts : List PT} (h : RepL c its ns ts) {i x : Nat} (hx : ns[i]? = some x) : ∃ t, ts[i]? = some t ∧ RepI c its x t := by
  obtain ⟨ps, rfl, rfl, h⟩ := h
  rw [List.getElem?_map] at hx
  cases e : ps[i]? with
  | none => rw [e] at hx; simp at hx
  | some p =>
    rw [e] at hx
    have e2 : p.1 = x := by simpa using hx
    refine ⟨p.2, by rw [List.getElem?_map, e]; rfl, ?_⟩
    rw [← e2]; exact h p (List.mem_of_getElem? e)
theorem grown_refl (w : World) (r : Option Nat) : w.grownBy w r := ⟨rfl, rfl, rfl, Nat.le_refl _, fun _ _ _ => rfl⟩
/-- Between two tallies. -/
def MtAt (D n : Nat) (X : World) (ts : List PT) (i : Nat) (W : World) : Prop := W.heap[D]? = some (.cells (intRow (addL (ts.take i) (List.replicate n 0))) 3 (0, 0)) ∧ X.grownBy W (some D)
set_option maxRecDepth 100000 in
set_option maxHeartbeats 4000000 in
theorem lengths_any {w : World} {v : Value} {cs : List Int} (hv : Rows 1 EInt w v cs) (hlen : cs.length ≤ maxLen) (lim : Int) (hl0 : -9223372036854775808 ≤ lim) (hl1 : lim ≤ 9223372036854775807) :
    Calls Try.prog 25 #[v, .int .i64 lim] w (LenV w cs lim) := by
  have HCK := Lib.hid (check_any hv hlen lim hl0 hl1)
  by_cases hz : chkH cs lim = 0
  · obtain ⟨l, rfl, h1, h2, h3, h4, h5⟩ := chk_zero hz
    have HPL := Lib.hid (plant_any hv (by omega))
    obtain ⟨A, cap, rfl, hc⟩ := hv.form
    obtain ⟨n, hn⟩ : ∃ n, cs.length = n := ⟨_, rfl⟩
    obtain ⟨N, hN⟩ : ∃ N, w.heap.size = N := ⟨_, rfl⟩
    obtain ⟨S, hS⟩ : ∃ S, preS cs 0 = S := ⟨_, rfl⟩
    have hnd : S.Nodup := by rw [← hS]; exact preS_nodup cs 0
    have hSl : S.length ≤ 2 ^ l := by rw [← hS, preS_len]; exact h5
    have hSn : S.length ≤ n := by rw [← hS, preS_len, ← hn]; exact presN_le cs
    have hcut := huf_enough (cN cs) S h1 hSl
    have hcM : ∀ s ∈ S, cN cs s ≤ 4096 := fun s hs => by
      rw [← hS] at hs
      obtain ⟨_, c, q1, q2⟩ := preS_ge cs 0 s hs
      rw [Nat.sub_zero] at q1
      have := h4 c (List.mem_of_getElem? q1)
      unfold cN
      rw [List.getD_eq_getElem?_getD, q1, Option.getD_some]
      omega
    have HLL := Lib.hid (show ∀ (W : World) (vi vl : Value), PAt w N W vi vl (lfIt cs 0) → Calls Try.prog 51 #[.pointer (some ⟨N, 0, none⟩), .int .i64 l] W (LastV W W.heap.size W.heap.size N N vl (cN cs) S l) from fun W vi vl hp => by
      have e : (lfIt cs 0).length = S.length := by rw [lf_len, hS]
      refine lastList_any hp.f (by have := hp.l; rw [e] at this; exact this) (by rw [← hS]; exact lf_at cs) (by rw [e]; exact Nat.le_refl _) (by omega) hcM l h2)
    rw [hz, hn] at HCK
    rw [hn, hN] at HPL
    rw [hn]
    have HZ := Lib.hid hz
    have HN := Lib.hid hN
    have HCN := Lib.hid hn
    have HS := Lib.hid hS
    obtain ⟨i1, hi1, hy0, hy1, hy2⟩ := info_parts' Try.infoInt2
    have hn4 : n ≤ 1024 := by rw [← hn]; exact h3
    have hmk : ∀ W : World, (Instr.makeSlice 22 (.int .i64 n) (.int .i64 n)).run Try.prog W = .ok (.slice (some ⟨W.heap.size, 0, none⟩) n n) (W.alloc (.cells (intRow (List.replicate n 0)) 3)) := fun W => by
      have := run_make (P := Try.prog) W 22 3 i1 _ Try.underlying22 hi1 hy0 .i64 .i64 n n (by omega) (by omega) (by rw [hy2]; omega) (by omega)
      rw [Int.toNat_natCast, hy1, Nat.mul_one] at this
      rw [← made_int]
      exact this
    have HFIT := Lib.hid (fun (i : Nat) (t : PT) (ht : (lev (cN cs) (leavesP S) l)[i]? = some t) (hi : i ≤ 100000) => show FitT t (addL ((lev (cN cs) (leavesP S) l).take i) (List.replicate n 0)) from by
      rw [← hS] at ht ⊢
      rw [← hn]
      exact fit_at h2 ht hi)
    have HHUF := Lib.hid (show addL ((lev (cN cs) (leavesP S) l).take (cutK S.length)) (List.replicate n 0) = hufLs cs l from by rw [← hS, ← hn]; exact addL_huf)
    have hkk : S.length ≤ 1024 := by omega
    obtain ⟨k, hk⟩ : ∃ k, S.length = k := ⟨_, rfl⟩
    rw [hk] at hcut hkk HHUF
    have hmax := cut_max k
    obtain ⟨q, hq⟩ : ∃ q, cutK k = q := ⟨_, rfl⟩
    have hqb : q ≤ 2048 := by rw [← hq]; unfold cutK; omega
    rw [hq] at hcut HHUF hmax
    have HCUT := Lib.hid hcut
    have HK := Lib.hid hk
    have hw1 : wrap64 (2 * (k : Int)) = 2 * (k : Int) := by unfold wrap64; omega
    have hw2 : wrap64 (2 * (k : Int) - 2) = 2 * (k : Int) - 2 := by unfold wrap64; omega
    clear hv hz hn hN hS hnd hSl hSn hcut hcM h1 h2 h3 h4 h5 hl0 hl1 hlen hc hk hq
    go_enter Try.func25, Try.ntmps25
    go_wp2_with fail
    refine HCK.out.mono ?_
    rintro e w1 ⟨rfl, rfl⟩
    go_wp2_with fail
    refine HPL.out.mono ?_
    rintro e w2 ⟨vi, vl, rfl, hp⟩
    obtain ⟨Al, capl, rfl, -⟩ := own_formI hp.l
    have HP := Lib.hid hp
    have HC2 := Lib.hid (HLL.out w2 vi _ hp)
    clear hp HPL HCK
    go_wp2_with fail
    refine HC2.out.mono ?_
    rintro e w3 ⟨lv, rfl, hla⟩
    obtain ⟨⟨vi3, its, ns, hf3, hlf3, hln3, hrep, hown3⟩, hs3, ht3⟩ := hla
    obtain ⟨A3, cap3, rfl, hc3⟩ := own_formI hown3
    have hkl : (lfIt cs 0).length = k := by rw [lf_len, HS.out, HK.out]
    rw [hkl] at hf3
    have c0 := cell_of (i := 1) hf3.box rfl
    obtain ⟨m, hm⟩ : ∃ m, ns.length = m := ⟨_, rfl⟩
    have hqm : q ≤ m := by rw [← hm, hrep.len]; exact HCUT.out
    rw [hm] at hown3 hc3 ⊢
    have hsl : ∀ W, (Instr.slice 22 (.slice A3 m cap3) none (some (.int .i64 (q : Int))) none).run Try.prog W = .ok (.slice A3 q cap3) W := fun W => sliceI_to _ _ _ _ hqm hc3 W
    obtain ⟨D, hD⟩ : ∃ D, w3.heap.size = D := ⟨_, rfl⟩
    obtain ⟨X, hX⟩ : ∃ X, w3.alloc (.cells (intRow (List.replicate n 0)) 3) = X := ⟨_, rfl⟩
    have hbl3 : Below N w1 w3 := by have h1 := HP.out.b; exact h1.trans hs3.be
    have hND : N ≤ D := by rw [← hD, ← HN.out]; exact hbl3.size
    have HX := Lib.hid hX
    have HD := Lib.hid hD
    have HBX : Hid (Below N w1 X) := Lib.hid (by rw [← hX]; exact hbl3.alloc (by rw [hD]; exact hND) _)
    have HFX : Hid (FAt X N N vi3 (.slice Al k capl) its) := Lib.hid (by rw [← hX]; exact hf3.alloc _)
    have HOX : Hid (X.ownsRow w2.heap.size 3 1 (.slice A3 m cap3) m (idxV ns)) := Lib.hid (by rw [← hX]; exact hown3.alloc _)
    have HDX : Hid (X.heap[D]? = some (.cells (intRow (List.replicate n 0)) 3 (0, 0))) := Lib.hid (by rw [← hX, ← hD]; exact block_new _ _)
    have HLD : Hid (∀ b, A3 = some b → b.block < D) := Lib.hid (fun b hb => by
      have := (own_low hown3 b.block (by rw [hb]; rfl)).2
      omega)
    have HREP := Lib.hid hrep
    have HM := Lib.hid hm
    have HNDD := Lib.hid hND
    clear hf3 hlf3 hln3 hrep hown3 hs3 ht3 hm hc3 hkl HC2 HLL HP hD hX hbl3 hND
    go_wp2_with fail
    rw [HX.out, HD.out]
    have hmz : MtAt D n X (lev (cN cs) (leavesP S) l) 0 X := ⟨HDX.out, grown_refl _ _⟩
    have HST0 := Lib.hid hmz
    clear hmz hmk c0 hsl
    go_loopw [40] (fun sv wr => ∃ i : Nat, i ≤ q ∧ sv = .int .i64 i ∧ Hid (MtAt D n X (lev (cN cs) (leavesP S) l) i wr)) (fun sv _ => q - (Go.RowKit.intOf sv).toNat)
    case atStart => exact ⟨0, Nat.zero_le _, rfl, HST0⟩
    case round =>
      clear HST0 HX
      obtain ⟨i, hi, rfl, HT⟩ := hrel
      by_cases hlt : i < q
      · have hlti : (i : Int) < (q : Int) := by omega
        obtain ⟨x, hx⟩ : ∃ x, ns[i]? = some x := ⟨_, List.getElem?_eq_getElem (by rw [HM.out]; omega)⟩
        obtain ⟨t, ht, hr⟩ := HREP.out.at hx
        obtain ⟨b, o, rfl, -, hj⟩ := at_int (own_int (by rw [HM.out]; exact HOX.out)) (by rw [List.length_map, HM.out]; omega)
        have u0 := hj i (x : Int) (by rw [List.getElem?_map, hx]; rfl)
        have hbD : b ≠ D := by have := HLD.out ⟨b, o, none⟩ rfl; simp only at this; omega
        have u1 : wr.cell? ⟨b, o + i, none⟩ = some (.int .i64 (x : Int)) := HT.out.2.cell u0 (fun e => by cases e; exact hbD rfl)
        have hcall := tally_any (F := N) (D := D) hr wr N vi3 (.slice Al k capl) _ (HFX.out.grownInt HDX.out HT.out.2) HT.out.1 (HFIT.out i t ht (by omega))
        rw [addL_len, List.length_replicate] at hcall
        have HCALL := Lib.hid hcall
        have HTK := Lib.hid (show (lev (cN cs) (leavesP S) l).take (i + 1) = (lev (cN cs) (leavesP S) l).take i ++ [t] from by rw [List.take_add_one, ht]; rfl)
        clear hx ht hr hj u0 hbD hcall
        go_wp2_with fail
        refine HCALL.out.mono ?_
        rintro e w4 ⟨rfl, hD4, hg4⟩
        have HN4 : Hid (MtAt D n X (lev (cN cs) (leavesP S) l) (i + 1) w4) := Lib.hid ⟨by rw [HTK.out, addL_snoc]; exact hD4, grown_transZ HT.out.2 hg4⟩
        clear hD4 hg4 HCALL HTK HT u1
        go_wp2_with fail
        exact ⟨⟨i + 1, by omega, by go_num, HN4⟩, by simp only [Go.RowKit.intOf]; omega⟩
      · obtain rfl : i = q := by omega
        have hlti : ¬ (i : Int) < (i : Int) := by omega
        have HE : Hid (LenV w1 cs l (.returned (.tuple #[.slice (some ⟨D, 0, none⟩) n n, .int .i64 0])) wr) := Lib.hid (by
          have h1 := HT.out.1
          rw [HHUF.out] at h1
          refine ⟨by rw [HN.out]; exact HBX.out.grown HT.out.2 (Nat.le_trans HNDD.out (Nat.le_of_lt (heap_lt HDX.out))) (fun k e => by cases e; exact HNDD.out), .inr ⟨HZ.out, _, rfl, ?_⟩⟩
          rw [Int.toNat_natCast]
          exact rows_int (by rw [hufLs_len, HCN.out]) (Nat.le_refl _) h1)
        clear HT
        go_wp2_with fail
        go_ret2
        exact HE.out
  · have HE : Hid (LenV w cs lim (.returned (.tuple #[.slice none 0 0, .int .i64 (chkH cs lim)])) w) := Lib.hid ⟨Below.refl _ _, .inl ⟨hz, rfl⟩⟩
    obtain ⟨A, cap, rfl, hc⟩ := hv.form
    obtain ⟨r, hr⟩ : ∃ r, chkH cs lim = r := ⟨_, rfl⟩
    rw [hr] at HCK HE hz
    have hne : (r != 0) = true := by simpa using hz
    clear hv hz hr hl0 hl1 hlen hc
    go_enter Try.func25, Try.ntmps25
    go_wp2_with fail
    refine HCK.out.mono ?_
    rintro e w1 ⟨rfl, rfl⟩
    go_wp2_with fail
    go_ret2
    exact HE.out
end Go.Proofs.Ytbfnkmibbieijaa
