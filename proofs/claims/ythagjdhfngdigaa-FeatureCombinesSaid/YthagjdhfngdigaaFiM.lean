/-
  WALKS over package feature: Has, Union, Intersect, Subset.
-/
import Derived.Test.YthagjdhfngdigaaFhM
import Derived.Deep.RegionHeld3
import Derived.Deep.DrawnRows
namespace Go.Proofs.Ythagjdhfngdigaa
open Go.RowKit Go.Shelf Go.Lib

theorem rs_one (w : World) (a : ByteArray) : RS (w.alloc (.cells #[.string a] 9)) (.slice (some ⟨w.heap.size, 0, none⟩) 1 1) [a.data.toList] := by
  refine RS.of rfl (Nat.le_refl _) (fun _ => ⟨_, _, rfl, by simp, fun j f hf => ?_⟩) (fun h => by cases h)
  refine cell_of (block_new w _) ?_
  cases j with
  | zero => simp at hf; subst hf; simp only [Lib.mk_data]; rfl
  | succ j => simp at hf
theorem rs_two (w : World) (a b : ByteArray) : RS (w.alloc (.cells #[.string a, .string b] 9)) (.slice (some ⟨w.heap.size, 0, none⟩) 2 2) [a.data.toList, b.data.toList] := by
  refine RS.of rfl (Nat.le_refl _) (fun _ => ⟨_, _, rfl, by simp, fun j f hf => ?_⟩) (fun h => by cases h)
  refine cell_of (block_new w _) ?_
  match j with
  | 0 => simp at hf; subst hf; simp only [Lib.mk_data]; rfl
  | 1 => simp at hf; subst hf; simp only [Lib.mk_data]; rfl
  | j + 2 => simp at hf
theorem errP_one (a : Bs) : errP [a] = (parseL a).2 := by
  unfold errP
  by_cases h : (parseL a).2 = 0
  · rw [if_pos h, h]; rfl
  · rw [if_neg h]
theorem errP_two (a b : Bs) : errP [a, b] = err2 a b := by
  have := errP_one b
  unfold errP err2
  rw [this]
theorem parse_small (s : Bs) : (parseL s).1.length ≤ 120 ∧ ∀ f ∈ (parseL s).1, f.length ≤ 120 := by
  by_cases h : (parseL s).2 = 0
  · obtain ⟨hg, hs, hl⟩ := parseL_ok h
    refine ⟨?_, fun f hf => (valE_zero.1 (hg.2.2 f hf)).1⟩
    have := len_textB (parseL s).1
    rw [hs, textL_len] at hl
    omega
  · rw [parseL_bad h]
    exact ⟨Nat.zero_le _, fun f hf => by simp at hf⟩
theorem below_new {w w' : World} (o : Obj) (h : Below (w.alloc o).heap.size (w.alloc o) w') : Below w.heap.size w w' :=
  ((Below.refl _ w).alloc (Nat.le_refl _) o).trans (h.mono (by simp))

set_option maxRecDepth 100000 in
set_option maxHeartbeats 2000000 in
theorem has_any (s f : ByteArray) (hs : s.size ≤ maxLen) (w : World) :
    Calls Try.prog 18 #[.string s, .string f] w fun e w' => e = .returned (.bool (hasL s.data.toList f.data.toList)) ∧ Below w.heap.size w w' := by
  have hr := read_any (rs_one w s) (by simp) (fun g hg => by rw [List.mem_singleton] at hg; rw [hg, ← Lib.size_eq]; exact hs)
  unfold ReadV at hr
  rw [errP_one] at hr
  obtain ⟨k, hk⟩ : ∃ k, (parseL s.data.toList).2 = k := ⟨_, rfl⟩
  rw [hk] at hr
  have hsm := (parse_small s.data.toList).1
  obtain ⟨x, hx⟩ : ∃ x, (parseL s.data.toList).1 = x := ⟨_, rfl⟩
  rw [hx] at hsm
  have hh : hasL s.data.toList f.data.toList = (decide (k = 0) && decide (f.data.toList ∈ x)) := by unfold hasL; rw [hk, hx]
  have hxs : [s.data.toList].map (fun t => (parseL t).1) = [x] := by rw [List.map_singleton, hx]
  rw [hh]
  have HR := Lib.hid hr
  have HX := Lib.hid hxs
  clear hr hk hx hh hxs
  by_cases h0 : k = 0
  · subst h0
    go_enter Try.func18, Try.ntmps18
    go_wp2_with fail
    refine HR.out.mono ?_
    rintro e w2 ⟨⟨sv, rfl, hset⟩, hb2⟩
    have HB2 := Lib.hid (below_new _ hb2)
    obtain ⟨vs, hvs⟩ := hset trivial
    have hrow := hvs.rows
    rw [HX.out] at hrow
    obtain ⟨A, cap, rfl, hc, hr⟩ := hrow.form
    obtain ⟨b, off, rfl, -, hj⟩ := hr (by simp)
    obtain ⟨v, c0, hv⟩ := hj 0 x rfl
    have HC := Lib.hid (contains_row hv (by unfold maxLen; omega) f)
    have hc1 : 1 ≤ cap := hc
    clear hb2 hset hvs hrow hr hj hv hc
    rw [Nat.add_zero] at c0
    go_wp2_with fail
    refine HC.out.mono ?_
    rintro e w3 ⟨rfl, rfl⟩
    go_wp2_with fail
    go_ret
    exact ⟨rfl, HB2.out⟩
  · have h0i : ¬ ((k : Int) = 0) := by omega
    rw [decide_eq_false h0, Bool.false_and]
    go_enter Try.func18, Try.ntmps18
    go_wp2_with fail
    refine HR.out.mono ?_
    rintro e w2 ⟨⟨sv, rfl, -⟩, hb2⟩
    have HB2 := Lib.hid (below_new _ hb2)
    clear hb2
    have hkk : ((k : Int) == 0) = false := by simp [h0]
    go_wp2_with fail
    go_ret
    exact ⟨rfl, HB2.out⟩
theorem text_both {x y : Fs} (h : asc x) (hs : (textL x).length ≤ 120) : textT (bothS x y) = (textL (bothS x y), 0) := by
  unfold textT
  have e : setS (bothS x y) = bothS x y := setS_of (bothS_asc y h) fun z => Iff.rfl
  have := bothS_size x y
  rw [textL_len] at hs
  rw [e, if_neg (by rw [textL_len]; omega)]
theorem sub_both (x y : Fs) : decide (∀ f ∈ x, f ∈ y) = decide ((bothS x y).length = x.length) := by
  rw [Bool.eq_iff_iff, decide_eq_true_iff, decide_eq_true_iff, bothS_len]
/-- What read answers of two texts, as the callers take it. -/
def Read2 (w : World) (a b : Bs) (e : Ending) (w' : World) : Prop :=
  (∃ sv, e = .returned (.tuple #[sv, .int .i64 (err2 a b : Nat)]) ∧ (err2 a b = 0 → RowsS w' sv [(parseL a).1, (parseL b).1])) ∧ Below w.heap.size w w'
theorem read_two (a b : ByteArray) (ha : a.size ≤ maxLen) (hb : b.size ≤ maxLen) (w : World) :
    Calls Try.prog 35 #[.slice (some ⟨w.heap.size, 0, none⟩) 2 2] (w.alloc (.cells #[.string a, .string b] 9)) (Read2 w a.data.toList b.data.toList) := by
  refine (read_any (rs_two w a b) (by simp) (fun g hg => by
    simp only [List.mem_cons, List.not_mem_nil, or_false] at hg
    rcases hg with rfl | rfl
    · rw [← Lib.size_eq]; exact ha
    · rw [← Lib.size_eq]; exact hb)).mono ?_
  rintro e w' ⟨⟨sv, rfl, h⟩, hb'⟩
  rw [errP_two] at h ⊢
  refine ⟨⟨sv, rfl, fun h0 => ?_⟩, below_new _ hb'⟩
  obtain ⟨vs, hvs⟩ := h h0
  exact hvs.rows

set_option maxRecDepth 100000 in
set_option maxHeartbeats 2000000 in
theorem union_any (a b : ByteArray) (ha : a.size ≤ maxLen) (hb : b.size ≤ maxLen) (w : World) :
    Calls Try.prog 20 #[.string a, .string b] w fun e w' => e = .returned (.tuple #[.string ⟨(unionL a.data.toList b.data.toList).1.toArray⟩, .int .i64 ((unionL a.data.toList b.data.toList).2 : Nat)]) ∧ Below w.heap.size w w' := by
  have hr := read_two a b ha hb w
  unfold Read2 at hr
  obtain ⟨hx1, hx2⟩ := parse_small a.data.toList
  obtain ⟨hy1, hy2⟩ := parse_small b.data.toList
  have hu : unionL a.data.toList b.data.toList = if err2 a.data.toList b.data.toList = 0 then textT ((parseL a.data.toList).1 ++ (parseL b.data.toList).1) else ([], err2 a.data.toList b.data.toList) := rfl
  obtain ⟨k, hk⟩ : ∃ k, err2 a.data.toList b.data.toList = k := ⟨_, rfl⟩
  obtain ⟨x, hx⟩ : ∃ x, (parseL a.data.toList).1 = x := ⟨_, rfl⟩
  obtain ⟨y, hy⟩ : ∃ x, (parseL b.data.toList).1 = x := ⟨_, rfl⟩
  rw [hx, hy, hk] at hr hu
  rw [hx] at hx1 hx2
  rw [hy] at hy1 hy2
  rw [hu]
  have hfl : [x, y].flatten = x ++ y := by simp
  have HR := Lib.hid hr
  have HF := Lib.hid hfl
  have HS : Hid (∀ f ∈ x ++ y, f.length ≤ 120) := Lib.hid fun f hf => (List.mem_append.1 hf).elim (hx2 f) (hy2 f)
  have HL : Hid ((x ++ y).length ≤ 240) := Lib.hid (by rw [List.length_append]; omega)
  clear hr hk hx hy hu hx1 hx2 hy1 hy2 hfl ha hb
  by_cases h0 : k = 0
  · subst h0
    rw [if_pos rfl]
    obtain ⟨t1, ht1⟩ : ∃ t : ByteArray, (⟨(textT (x ++ y)).1.toArray⟩ : ByteArray) = t := ⟨_, rfl⟩
    obtain ⟨t2, ht2⟩ : ∃ t : Nat, (textT (x ++ y)).2 = t := ⟨_, rfl⟩
    rw [ht1, ht2]
    have H1 := Lib.hid ht1
    have H2 := Lib.hid ht2
    clear ht1 ht2
    go_enter Try.func20, Try.ntmps20
    go_wp2_with fail
    refine HR.out.mono ?_
    rintro e w2 ⟨⟨sv, rfl, hset⟩, hb2⟩
    have HB2 := Lib.hid hb2
    have hcc := concat_any (hset trivial) (by simp) (by rw [HF.out]; have := HL.out; omega)
    rw [HF.out] at hcc
    have HC := Lib.hid hcc
    clear hb2 hset hcc
    go_wp2_with fail
    refine HC.out.mono ?_
    rintro e w3 ⟨⟨cv, rfl, hown⟩, hb3⟩
    have HB3 := Lib.hid (HB2.out.trans (hb3.mono HB2.out.size))
    have ht := text_any (rs_own hown).1 (by have := HL.out; unfold maxLen; omega) HS.out
    rw [H1.out, H2.out] at ht
    have HT := Lib.hid ht
    clear hb3 hown ht
    go_wp2_with fail
    refine HT.out.mono ?_
    rintro e w4 ⟨rfl, hb4⟩
    have HB4 := Lib.hid (HB3.out.trans (hb4.mono HB3.out.size))
    clear hb4
    go_wp2_with fail
    go_ret2
    exact ⟨rfl, HB4.out⟩
  · have h0i : ¬ ((k : Int) = 0) := by omega
    rw [if_neg h0]
    clear h0
    go_enter Try.func20, Try.ntmps20
    go_wp2_with fail
    refine HR.out.mono ?_
    rintro e w2 ⟨⟨sv, rfl, -⟩, hb2⟩
    have HB2 := Lib.hid hb2
    clear hb2
    go_wp2_with fail
    go_ret2
    exact ⟨rfl, HB2.out⟩

set_option maxRecDepth 100000 in
set_option maxHeartbeats 2000000 in
theorem inter_any (a b : ByteArray) (ha : a.size ≤ maxLen) (hb : b.size ≤ maxLen) (w : World) :
    Calls Try.prog 22 #[.string a, .string b] w fun e w' => e = .returned (.tuple #[.string ⟨(interL a.data.toList b.data.toList).1.toArray⟩, .int .i64 ((interL a.data.toList b.data.toList).2 : Nat)]) ∧ Below w.heap.size w w' := by
  have hr := read_two a b ha hb w
  unfold Read2 at hr
  obtain ⟨hx1, hx2⟩ := parse_small a.data.toList
  obtain ⟨hy1, hy2⟩ := parse_small b.data.toList
  have hu : interL a.data.toList b.data.toList = if err2 a.data.toList b.data.toList = 0 then (textL (bothS (parseL a.data.toList).1 (parseL b.data.toList).1), 0) else ([], err2 a.data.toList b.data.toList) := rfl
  have hta : err2 a.data.toList b.data.toList = 0 → textT (bothS (parseL a.data.toList).1 (parseL b.data.toList).1) = (textL (bothS (parseL a.data.toList).1 (parseL b.data.toList).1), 0) := fun h => by
    obtain ⟨hg, hs, hl⟩ := parseL_ok (err2_zero.1 h).1
    exact text_both hg.1 (by rw [← hs]; exact hl)
  obtain ⟨k, hk⟩ : ∃ k, err2 a.data.toList b.data.toList = k := ⟨_, rfl⟩
  obtain ⟨x, hx⟩ : ∃ x, (parseL a.data.toList).1 = x := ⟨_, rfl⟩
  obtain ⟨y, hy⟩ : ∃ x, (parseL b.data.toList).1 = x := ⟨_, rfl⟩
  rw [hx, hy, hk] at hr hu hta
  rw [hx] at hx1 hx2
  rw [hy] at hy1 hy2
  rw [hu]
  have HR := Lib.hid hr
  have HX := Lib.hid hx1
  have HY := Lib.hid hy1
  have HS : Hid (∀ f ∈ bothS x y, f.length ≤ 120) := Lib.hid fun f hf => hx2 f ((bothS_mem x y f).1 hf).1
  have HL : Hid ((bothS x y).length ≤ 120) := Lib.hid (Nat.le_trans (List.length_filter_le _ _) hx1)
  clear hr hk hx hy hu hx1 hx2 hy1 hy2 ha hb
  by_cases h0 : k = 0
  · subst h0
    rw [if_pos rfl]
    have HTA := Lib.hid (hta rfl)
    clear hta
    obtain ⟨t1, ht1⟩ : ∃ t : ByteArray, (⟨(textL (bothS x y)).toArray⟩ : ByteArray) = t := ⟨_, rfl⟩
    simp only [ht1]
    have H1 := Lib.hid ht1
    clear ht1
    go_enter Try.func22, Try.ntmps22
    go_wp2_with fail
    refine HR.out.mono ?_
    rintro e w2 ⟨⟨sv, rfl, hset⟩, hb2⟩
    have HB2 := Lib.hid hb2
    have hrow := hset trivial
    obtain ⟨A, cap, rfl, hc, hr⟩ := hrow.form
    obtain ⟨bk, off, rfl, hbk, hj⟩ := hr (by simp)
    obtain ⟨v0, c0, hv0⟩ := hj 0 x rfl
    obtain ⟨v1, c1, hv1⟩ := hj 1 y rfl
    have htx : ∀ W v, RS W v (bothS x y) → Calls Try.prog 31 #[v] W fun e w' => e = .returned (.tuple #[.string t1, .int .i64 0]) ∧ Below W.heap.size W w' := fun W v hv => by
      have ht := text_any hv (by have := HL.out; unfold maxLen; omega) HS.out
      rw [HTA.out] at ht
      simp only [H1.out] at ht
      exact ht
    have HTX := Lib.hid htx
    have HC := Lib.hid (common_any (w := w2.drew) (hv0.below (Below.refl _ _).drew) (hv1.below (Below.refl _ _).drew) (by have := HX.out; omega) (by have := HY.out; omega))
    have hc1 : 2 ≤ cap := hc
    have HCL := Lib.hid (fun W (h : Below w2.drew.heap.size w2.drew W) => And.intro ((h.cell (p := ⟨bk, off, none⟩) hbk).trans c0) ((h.cell (p := ⟨bk, off + 1, none⟩) hbk).trans c1))
    clear hb2 hset hrow hr hj hv0 hv1 hc htx hbk
    rw [Nat.add_zero] at c0
    go_wp2_with fail
    go_region_held3 (fun w' => w'.cell? ⟨bk, off, none⟩ = some v0 ∧ w'.cell? ⟨bk, off + 1, none⟩ = some v1)
      (first
        | go_keep
        | (exact HCL.out _ (hb3.trans (hb4.mono hb3.size)))
        | (exact HCL.out _ hb3)
        | fail)
      ((first
        | (go_at_call 39; (with_reducible refine HC.out.mono ?_); rintro e w3 ⟨⟨cv, rfl, hown⟩, hb3⟩)
        | (go_at_call 31; (with_reducible refine (HTX.out _ _ (rs_own hown).1).mono ?_); rintro e w4 ⟨rfl, hb4⟩)
        | fail))
    have hb34 := HB2.out.drew.trans ((hb3.trans (hb4.mono hb3.size)).mono HB2.out.size)
    have HB4 := Lib.hid hb34
    clear hb3 hb4 hb34 hown
    go_wp2_with fail
    go_ret2
    exact ⟨rfl, HB4.out⟩
  · have h0i : ¬ ((k : Int) = 0) := by omega
    rw [if_neg h0]
    clear h0 hta
    go_enter Try.func22, Try.ntmps22
    go_wp2_with fail
    refine HR.out.mono ?_
    rintro e w2 ⟨⟨sv, rfl, -⟩, hb2⟩
    have HB2 := Lib.hid hb2
    clear hb2
    go_wp2_with fail
    go_ret2
    exact ⟨rfl, HB2.out⟩

set_option maxRecDepth 100000 in
set_option maxHeartbeats 2000000 in
theorem subset_any (a b : ByteArray) (ha : a.size ≤ maxLen) (hb : b.size ≤ maxLen) (w : World) :
    Calls Try.prog 24 #[.string a, .string b] w fun e w' => e = .returned (.tuple #[.bool (subL a.data.toList b.data.toList).1, .int .i64 ((subL a.data.toList b.data.toList).2 : Nat)]) ∧ Below w.heap.size w w' := by
  have hr := read_two a b ha hb w
  unfold Read2 at hr
  obtain ⟨hx1, -⟩ := parse_small a.data.toList
  obtain ⟨hy1, -⟩ := parse_small b.data.toList
  have hu : subL a.data.toList b.data.toList = if err2 a.data.toList b.data.toList = 0 then (decide (∀ f ∈ (parseL a.data.toList).1, f ∈ (parseL b.data.toList).1), 0) else (false, err2 a.data.toList b.data.toList) := rfl
  rw [sub_both] at hu
  obtain ⟨k, hk⟩ : ∃ k, err2 a.data.toList b.data.toList = k := ⟨_, rfl⟩
  obtain ⟨x, hx⟩ : ∃ x, (parseL a.data.toList).1 = x := ⟨_, rfl⟩
  obtain ⟨y, hy⟩ : ∃ x, (parseL b.data.toList).1 = x := ⟨_, rfl⟩
  rw [hx, hy, hk] at hr hu
  rw [hx] at hx1
  rw [hy] at hy1
  rw [hu]
  have HR := Lib.hid hr
  have HX := Lib.hid hx1
  have HY := Lib.hid hy1
  clear hr hk hx hy hu hx1 hy1 ha hb
  by_cases h0 : k = 0
  · subst h0
    rw [if_pos rfl]
    obtain ⟨q, hq⟩ : ∃ q, decide ((bothS x y).length = x.length) = q := ⟨_, rfl⟩
    simp only [hq]
    have HQ := Lib.hid hq
    clear hq
    go_enter Try.func24, Try.ntmps24
    go_wp2_with fail
    refine HR.out.mono ?_
    rintro e w2 ⟨⟨sv, rfl, hset⟩, hb2⟩
    have HB2 := Lib.hid hb2
    have hrow := hset trivial
    obtain ⟨A, cap, rfl, hc, hr⟩ := hrow.form
    obtain ⟨bk, off, rfl, hbk, hj⟩ := hr (by simp)
    obtain ⟨v0, c0, hv0⟩ := hj 0 x rfl
    obtain ⟨v1, c1, hv1⟩ := hj 1 y rfl
    have HC := Lib.hid (common_any (w := w2.drew) (hv0.below (Below.refl _ _).drew) (hv1.below (Below.refl _ _).drew) (by have := HX.out; omega) (by have := HY.out; omega))
    obtain ⟨A0, k0, rfl, hk0, -⟩ := hv0.form
    obtain ⟨n, hn⟩ : ∃ n, x.length = n := ⟨_, rfl⟩
    obtain ⟨m, hm⟩ : ∃ m, (bothS x y).length = m := ⟨_, rfl⟩
    rw [hn] at c0 HC
    rw [hm] at HC
    have hqq := HQ.out
    rw [hn, hm] at hqq
    have hn120 : n ≤ 120 := by rw [← hn]; exact HX.out
    have hm120 : m ≤ 120 := by rw [← hm]; exact Nat.le_trans (List.length_filter_le _ _) HX.out
    have hc1 : 2 ≤ cap := hc
    have HCL := Lib.hid (fun W (h : Below w2.drew.heap.size w2.drew W) => And.intro ((h.cell (p := ⟨bk, off, none⟩) hbk).trans c0) ((h.cell (p := ⟨bk, off + 1, none⟩) hbk).trans c1))
    have hd : q = decide ((m : Int) = (n : Int)) := by
      rw [← hqq, Bool.eq_iff_iff, decide_eq_true_iff, decide_eq_true_iff]
      omega
    have HD := Lib.hid hd
    clear hb2 hset hrow hr hj hv0 hv1 hc hbk hn hm hk0 hd hqq
    rw [Nat.add_zero] at c0
    go_wp2_with fail
    go_region_held3 (fun w' => w'.cell? ⟨bk, off, none⟩ = some (.slice A0 n k0) ∧ w'.cell? ⟨bk, off + 1, none⟩ = some v1)
      (first
        | go_keep
        | (exact HCL.out _ hb3)
        | fail)
      ((first
        | (go_at_call 39; (with_reducible refine HC.out.mono ?_); rintro e w3 ⟨⟨cv, rfl, hown⟩, hb3⟩; obtain ⟨cA, cc, rfl, hcc⟩ := own_form hown)
        | fail))
    have hb23 := HB2.out.drew.trans (hb3.mono HB2.out.size)
    have HB4 := Lib.hid hb23
    clear hb3 hb23 hown
    go_wp2_with fail
    go_ret2
    exact ⟨by rw [HD.out]; rfl, HB4.out⟩
  · have h0i : ¬ ((k : Int) = 0) := by omega
    rw [if_neg h0]
    clear h0
    go_enter Try.func24, Try.ntmps24
    go_wp2_with fail
    refine HR.out.mono ?_
    rintro e w2 ⟨⟨sv, rfl, -⟩, hb2⟩
    have HB2 := Lib.hid hb2
    clear hb2
    go_wp2_with fail
    go_ret2
    exact ⟨rfl, HB2.out⟩
end Go.Proofs.Ythagjdhfngdigaa
