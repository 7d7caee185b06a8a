/-
  WALKS over package feature: Format, read.
-/
import Derived.Test.YthagjdhfngdigaaFfM
namespace Go.Proofs.Ythagjdhfngdigaa
open Go.RowKit Go.Shelf Go.Lib

theorem errS_step {fs : Fs} {k : Nat} {f : Bs} (hf : fs[k]? = some f) : errS (fs.drop k) = if elE f = 0 then errS (fs.drop (k + 1)) else elE f := by
  obtain ⟨hk, rfl⟩ := List.getElem?_eq_some_iff.1 hf
  rw [List.drop_eq_getElem_cons hk, errS]

set_option maxRecDepth 100000 in
set_option maxHeartbeats 2000000 in
theorem format_any {w : World} {v : Value} {fs : Fs} (hv : RS w v fs) (hl : fs.length ≤ maxLen) (hs : ∀ f ∈ fs, f.length ≤ maxLen) :
    Calls Try.prog 16 #[v] w fun e w' => e = .returned (.tuple #[.string ⟨(formatL fs).1.toArray⟩, .int .i64 ((formatL fs).2 : Nat)]) ∧ Below w.heap.size w w' := by
  obtain ⟨A, cap, rfl, hc, -⟩ := hv.form
  obtain ⟨n, hn⟩ : ∃ n, fs.length = n := ⟨_, rfl⟩
  have HV := Lib.hid (fun W (h : Below w.heap.size w W) => hv.below h)
  have HSZ := Lib.hid hs
  have HT := Lib.hid (fun W (h : Below w.heap.size w W) (h0 : errS fs = 0) => text_any (w := W) (hv.below h) hl (fun f hf => (valE_zero.1 (elE_zero.1 ((errS_zero fs).1 h0 f hf)).2).1))
  rw [hn] at hc hl HT ⊢
  have HN := Lib.hid hn
  unfold maxLen at hl
  clear hn hs hv
  go_enter Try.func16, Try.ntmps16
  go_wp2_with fail
  go_loopw [9] (fun i wr => ∃ k : Nat, k ≤ n ∧ i = .int .i64 k ∧ errS fs = errS (fs.drop k) ∧ Below w.heap.size w wr) (fun i _ => n - (Go.RowKit.intOf i).toNat)
  case atStart => exact ⟨0, Nat.zero_le _, rfl, rfl, Below.refl _ _⟩
  case round =>
    obtain ⟨k, hk, rfl, he, hb⟩ := hrel
    by_cases hlt : k < n
    · obtain ⟨f, hf⟩ : ∃ f, fs[k]? = some f := ⟨_, List.getElem?_eq_getElem (by rw [HN.out]; omega)⟩
      obtain ⟨A', cap', he', -, hr⟩ := (HV.out wr hb).form
      cases he'
      obtain ⟨bk, off, rfl, -, hj⟩ := hr (by rw [HN.out]; omega)
      have c0 := hj k f hf
      have hfs := HSZ.out f (List.mem_of_getElem? hf)
      rw [errS_step hf] at he
      obtain ⟨F, hF⟩ : ∃ s : ByteArray, (⟨f.toArray⟩ : ByteArray) = s := ⟨_, rfl⟩
      have hFl : F.data.toList = f := by rw [← hF]
      rw [hF] at c0
      have hck := fun W => checkF_any F (by rw [Lib.size_eq, hFl]; exact hfs) W
      rw [hFl] at hck
      obtain ⟨q, hq⟩ : ∃ q, elE f = q := ⟨_, rfl⟩
      rw [hq] at hck he
      have HCK := Lib.hid hck
      have HB := Lib.hid hb
      clear hck hb hF hFl hj hr hf hfs hq
      by_cases h0 : q = 0
      · subst h0
        rw [if_pos rfl] at he
        have HE := Lib.hid he
        clear he
        go_wp2_with fail
        refine (HCK.out _).mono ?_
        rintro e w2 ⟨rfl, hb2⟩
        have HB2 := Lib.hid hb2
        clear hb2
        go_wp2_with fail
        exact ⟨⟨k + 1, by omega, by go_num, HE.out, HB.out.trans (HB2.out.mono HB.out.size)⟩, by simp only [Go.RowKit.intOf]; omega⟩
      · rw [if_neg h0] at he
        have HE := Lib.hid he
        have h0i : ¬ ((q : Int) = 0) := by omega
        have HF : Hid (formatL fs = ([], q)) := Lib.hid (by unfold formatL; rw [he, if_neg h0])
        clear he h0
        go_wp2_with fail
        refine (HCK.out _).mono ?_
        rintro e w2 ⟨rfl, hb2⟩
        have HB2 := Lib.hid hb2
        clear hb2
        go_wp2_with fail
        go_ret2
        exact ⟨by rw [HF.out]; rfl, HB.out.trans (HB2.out.mono HB.out.size)⟩
    · obtain rfl : k = n := by omega
      have h0 : errS fs = 0 := by
        rw [he, List.drop_eq_nil_of_le (by rw [HN.out]; exact Nat.le_refl _)]
        rfl
      have HF : Hid (formatL fs = textT fs) := Lib.hid (by unfold formatL; rw [if_pos h0])
      have HTX := Lib.hid (HT.out wr hb h0)
      have HB := Lib.hid hb
      obtain ⟨t1, ht1⟩ : ∃ t : ByteArray, (⟨(textT fs).1.toArray⟩ : ByteArray) = t := ⟨_, rfl⟩
      obtain ⟨t2, ht2⟩ : ∃ t : Nat, (textT fs).2 = t := ⟨_, rfl⟩
      rw [ht1, ht2] at HTX
      have H1 := Lib.hid ht1
      have H2 := Lib.hid ht2
      clear hb he h0 ht1 ht2
      go_wp2_with fail
      refine HTX.out.mono ?_
      rintro e w2 ⟨rfl, hb2⟩
      have HB2 := Lib.hid hb2
      clear hb2
      go_wp2_with fail
      go_ret2
      exact ⟨by rw [HF.out, H1.out, H2.out]; rfl, HB.out.trans (HB2.out.mono HB.out.size)⟩

/-- append of one slice to a row of slices of the call's own. -/
theorem wpList_pushV {w : World} {ops : Array Oper} {rest : List Oper} {o : Oper} {a : Act} {Q : Exit → Act → World → Prop} (hgd : o.guard = none) (s x : Operand)
    (ho : o.op = .call { callee := .builtin .append, args := #[s, x], argTypes := #[46, 46] })
    (base : Nat) (v : Value) (n : Nat) (xs : List Value) (p : Value) (hs : a.eval s = v) (hx : a.eval x = .slice (some ⟨w.heap.size, 0, none⟩) 1 1)
    (hown : w.ownsRow base 23 1 v n xs) (hp : p.oneCell' = true) (hn : n ≤ 1000000) (hbase : base ≤ w.heap.size)
    (h : ∀ v' w', Hid (w'.ownsRow base 23 1 v' (n + 1) (xs ++ [p])) → Hid (∀ B W, Below B W w → B ≤ base → Below B W w') → Hid (∀ k, k < w.heap.size → v.ownBlock ≠ some k → w'.heap[k]? = w.heap[k]?) → wpList Try.prog ops Q rest (a.put o.dst v') w') :
    wpList Try.prog ops Q (o :: rest) a (w.alloc (.cells #[p] 23)) := by
  obtain ⟨i0, hi, hz0, hz1, hz2⟩ := info_parts' Try.infoStrs
  refine wpList_append_own _ hgd s x 46 ho base 23 i0 _ 1 24 Try.underlying46 hi hz0 hz1 hz2 rfl (by decide) v n _ hs (hown.alloc _) _ 1 1 [p] hx rfl (news_at w [p] 23) (by intro u hu; rw [List.mem_singleton] at hu; rw [hu]; exact hp) (by unfold maxLen; omega) (by omega) (by simp; omega) ?_
  intro v' w' h1 h2 _
  have hlow := own_low hown
  refine h v' w' (Lib.hid h1) (Lib.hid fun B W hb hB => ?_) (Lib.hid fun k hk hne => ?_)
  · exact (hb.alloc (Nat.le_trans hB hbase) _).grown h2 (by simp; omega) (fun k e => Nat.le_trans hB (hlow k e).1)
  · rw [h2.block k (by simp; omega) (fun e => hne e.symm)]
    exact heap_alloc_old w _ hk
theorem own_types {w : World} {b1 b2 : Nat} {e1 e2 : TypeId} {s1 s2 n1 n2 : Nat} {v1 v2 : Value} {x1 x2 : List Value} (h1 : w.ownsRow b1 e1 s1 v1 n1 x1) (h2 : w.ownsRow b2 e2 s2 v2 n2 x2) (hne : e1 ≠ e2) : ∀ k, v1.ownBlock = some k → v2.ownBlock ≠ some k := by
  intro k hk hk2
  rcases h1.2 with ⟨rfl, _⟩ | ⟨g, cap, cur, rfl, _, hg, _⟩
  · cases hk
  · rcases h2.2 with ⟨rfl, _⟩ | ⟨g', cap', cur', rfl, _, hg', _⟩
    · cases hk2
    · simp only [Value.ownBlock, Option.some.injEq] at hk hk2
      subst hk
      subst hk2
      rw [hg] at hg'
      cases hg'
      exact hne rfl
theorem own_one {w : World} {base : Nat} {e : TypeId} {s n : Nat} {v : Value} {xs : List Value} (h : w.ownsRow base e s v n xs) : v.oneCell' = true := by
  obtain ⟨A, cap, rfl, _⟩ := own_form h
  rfl
/-- The first error of some texts. -/
def errP : Fs → Nat
  | [] => 0
  | t :: l => if (parseL t).2 = 0 then errP l else (parseL t).2
theorem errP_step {ts : Fs} {k : Nat} {t : Bs} (hf : ts[k]? = some t) : errP (ts.drop k) = if (parseL t).2 = 0 then errP (ts.drop (k + 1)) else (parseL t).2 := by
  obtain ⟨hk, rfl⟩ := List.getElem?_eq_some_iff.1 hf
  rw [List.drop_eq_getElem_cons hk, errP]
/-- A row of slices that reads as the features of some texts. -/
def Sets (w : World) (base : Nat) (sv : Value) (vs : List Value) (ts : Fs) : Prop :=
  w.ownsRow base 23 1 sv ts.length vs ∧ vs.length = ts.length ∧ ∀ (i : Nat) (v : Value) (t : Bs), vs[i]? = some v → ts[i]? = some t → w.ownsRow base 9 1 v (parseL t).1.length (strs (parseL t).1)
theorem Sets.after {w w' : World} {base : Nat} {sv : Value} {vs : List Value} {ts : Fs} (h : Sets w base sv vs ts) (hb : Below w.heap.size w w') : Sets w' base sv vs ts :=
  ⟨own_after h.1 hb, h.2.1, fun i v t hv ht => own_after (h.2.2 i v t hv ht) hb⟩
theorem Sets.push {w w' : World} {base : Nat} {sv sv' : Value} {vs : List Value} {ts : Fs} {v : Value} {t : Bs} (h : Sets w base sv vs ts) (hv : w.ownsRow base 9 1 v (parseL t).1.length (strs (parseL t).1))
    (h1 : w'.ownsRow base 23 1 sv' (ts.length + 1) (vs ++ [v])) (hk : ∀ k, k < w.heap.size → sv.ownBlock ≠ some k → w'.heap[k]? = w.heap[k]?) : Sets w' base sv' (vs ++ [v]) (ts ++ [t]) := by
  have keep : ∀ (u : Value) (t' : Bs), w.ownsRow base 9 1 u (parseL t').1.length (strs (parseL t').1) → w'.ownsRow base 9 1 u (parseL t').1.length (strs (parseL t').1) := fun u t' hu =>
    own_below hu fun k hku => hk k (own_low hu k hku).2 (own_types hu h.1 (by decide) k hku)
  refine ⟨by rw [List.length_append, List.length_singleton]; exact h1, by rw [List.length_append, List.length_append, h.2.1]; rfl, fun i u t' hu ht => ?_⟩
  by_cases hi : i < vs.length
  · rw [List.getElem?_append_left hi] at hu
    rw [List.getElem?_append_left (by rw [← h.2.1]; exact hi)] at ht
    exact keep u t' (h.2.2 i u t' hu ht)
  · rw [List.getElem?_append_right (by omega)] at hu
    rw [List.getElem?_append_right (by rw [← h.2.1]; omega), ← h.2.1] at ht
    obtain ⟨j, hj⟩ : ∃ j, i - vs.length = j := ⟨_, rfl⟩
    rw [hj] at hu ht
    cases j with
    | zero => simp at hu ht; rw [← hu, ← ht]; exact keep v t hv
    | succ j => simp at hu
/-- What read answers. -/
def ReadV (w : World) (ts : Fs) (e : Ending) (w' : World) : Prop :=
  (∃ sv, e = .returned (.tuple #[sv, .int .i64 (errP ts : Nat)]) ∧ (errP ts = 0 → ∃ vs, Sets w' w.heap.size sv vs ts)) ∧ Below w.heap.size w w'
/-- Between two rounds of read. -/
def ReadI (w : World) (ts : Fs) (n : Nat) (sv iv : Value) (wr : World) : Prop :=
  ∃ (k : Nat) (vs : List Value), k ≤ n ∧ iv = .int .i64 k ∧ Sets wr w.heap.size sv vs (ts.take k) ∧ errP ts = errP (ts.drop k) ∧ Below w.heap.size w wr

set_option maxRecDepth 100000 in
set_option maxHeartbeats 2000000 in
theorem read_any {w : World} {v : Value} {ts : Fs} (hv : RS w v ts) (hl : ts.length ≤ 1000) (hs : ∀ f ∈ ts, f.length ≤ maxLen) :
    Calls Try.prog 35 #[v] w (ReadV w ts) := by
  obtain ⟨A, cap, rfl, hc, -⟩ := hv.form
  obtain ⟨n, hn⟩ : ∃ n, ts.length = n := ⟨_, rfl⟩
  have HV := Lib.hid (fun W (h : Below w.heap.size w W) => hv.below h)
  have HSZ := Lib.hid hs
  rw [hn] at hc hl ⊢
  have HN := Lib.hid hn
  have HST : Hid (ReadI w ts n (.slice none 0 0) (.int .i64 0) w) := Lib.hid ⟨0, [], Nat.zero_le _, rfl, ⟨World.ownsRow_nil _ _ _ _, rfl, fun i v t h _ => by simp at h⟩, rfl, Below.refl _ _⟩
  clear hn hs hv
  go_enter Try.func35, Try.ntmps35
  go_wp2_with fail
  go_loopw [4, 11] (fun sv iv wr => ReadI w ts n sv iv wr) (fun _ i _ => n - (Go.RowKit.intOf i).toNat)
  case atStart => exact HST.out
  case round =>
    obtain ⟨k, vs, hk, rfl, hsets, he, hb⟩ := hrel
    by_cases hlt : k < n
    · obtain ⟨f, hf⟩ : ∃ f, ts[k]? = some f := ⟨_, List.getElem?_eq_getElem (by rw [HN.out]; omega)⟩
      obtain ⟨A', cap', he', -, hr⟩ := (HV.out wr hb).form
      cases he'
      obtain ⟨bk, off, rfl, -, hj⟩ := hr (by rw [HN.out]; omega)
      have c0 := hj k f hf
      have hfs := HSZ.out f (List.mem_of_getElem? hf)
      rw [errP_step hf] at he
      obtain ⟨F, hF⟩ : ∃ s : ByteArray, (⟨f.toArray⟩ : ByteArray) = s := ⟨_, rfl⟩
      have hFl : F.data.toList = f := by rw [← hF]
      rw [hF] at c0
      have hpa := fun W => parse_any F (by rw [Lib.size_eq, hFl]; exact hfs) W
      rw [hFl] at hpa
      have htk : ts.take (k + 1) = ts.take k ++ [f] := by rw [List.take_add_one, hf]; rfl
      have HTK := Lib.hid htk
      have htl : (ts.take k).length = k := by rw [List.length_take, HN.out]; omega
      have HTL := Lib.hid htl
      obtain ⟨q, hq⟩ : ∃ q, (parseL f).2 = q := ⟨_, rfl⟩
      rw [hq] at he
      have HP := Lib.hid hpa
      have HB := Lib.hid hb
      have HQ := Lib.hid hq
      have HS := Lib.hid hsets
      clear hpa hb hF hFl hj hr hf hfs hq hsets htk htl
      by_cases h0 : q = 0
      · subst h0
        rw [if_pos rfl] at he
        have HE := Lib.hid he
        clear he
        go_wp2_with fail
        refine (HP.out _).mono ?_
        rintro e w2 ⟨⟨pv, rfl, hown⟩, hb2⟩
        rw [HQ.out]
        have HO := Lib.hid (ownsRow_base hown HB.out.size)
        have HB2 := Lib.hid hb2
        have HS2 := Lib.hid (HS.out.after hb2)
        have hone := own_one hown
        have HONE := Lib.hid hone
        obtain ⟨pA, pc, rfl, hpc⟩ := own_form hown
        clear hb2 hown hone
        go_wp2_with (at_builtin; refine wpList_pushV rfl (.tmp 23) (.tmp 25) rfl w.heap.size _ k vs _ rfl rfl (by have := HS2.out.1; rw [HTL.out] at this; exact this) HONE.out (by omega) (Nat.le_trans HB.out.size HB2.out.size) ?_)
        intro v' w3 h1 h2 h3
        have HS3 := Lib.hid (HS2.out.push HO.out (by rw [HTL.out]; exact h1.out) h3.out)
        have HB3 := Lib.hid (h2.out w.heap.size w (HB.out.trans (HB2.out.mono HB.out.size)) (Nat.le_refl _))
        clear h1 h2 h3
        go_wp2_with fail
        exact ⟨⟨k + 1, _, by omega, by go_num, by rw [HTK.out]; exact HS3.out, HE.out, HB3.out⟩, by simp only [Go.RowKit.intOf]; omega⟩
      · rw [if_neg h0] at he
        have HE := Lib.hid he
        have h0i : ¬ ((q : Int) = 0) := by omega
        have H0 := Lib.hid h0
        clear he h0
        go_wp2_with fail
        refine (HP.out _).mono ?_
        rintro e w2 ⟨⟨pv, rfl, hown⟩, hb2⟩
        rw [HQ.out]
        have HB2 := Lib.hid hb2
        clear hb2 hown
        go_wp2_with fail
        go_ret2
        exact ⟨⟨_, by rw [HE.out]; rfl, fun h => absurd (HE.out.symm.trans h) H0.out⟩, HB.out.trans (HB2.out.mono HB.out.size)⟩
    · obtain rfl : k = n := by omega
      have hT : ts.take k = ts := List.take_of_length_le (by rw [HN.out]; exact Nat.le_refl _)
      have h0 : errP ts = 0 := by
        rw [he, List.drop_eq_nil_of_le (by rw [HN.out]; exact Nat.le_refl _)]
        rfl
      rw [hT] at hsets
      have HS := Lib.hid hsets
      have H0 := Lib.hid h0
      have HB := Lib.hid hb
      clear hsets hb he h0 hT
      go_wp2_with fail
      go_ret2
      exact ⟨⟨_, by rw [H0.out]; rfl, fun _ => ⟨_, HS.out⟩⟩, HB.out⟩
end Go.Proofs.Ythagjdhfngdigaa
