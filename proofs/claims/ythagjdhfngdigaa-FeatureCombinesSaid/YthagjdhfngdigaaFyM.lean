/-
  WALKS over the reference of feature: insert.
-/
import Derived.Test.YthagjdhfngdigaaFxM
import Derived.BigRegion
namespace Go.Proofs.Ythagjdhfngdigaa
open Go.RowKit Go.Shelf Go.Lib

theorem cntF_step {f : Bs} {l : Fs} {k : Nat} {g : Bs} (hg : l[k]? = some g) (h : cntF f l = k + cntF f (l.drop k)) :
    (decide (g < f) = true → cntF f l = (k + 1) + cntF f (l.drop (k + 1))) ∧ (decide (g < f) = false → cntF f l = k) := by
  obtain ⟨hk, rfl⟩ := List.getElem?_eq_some_iff.1 hg
  rw [List.drop_eq_getElem_cons hk, cntF_cons] at h
  refine ⟨fun hd => ?_, fun hd => ?_⟩
  · rw [if_pos (of_decide_eq_true hd)] at h
    omega
  · rw [if_neg (of_decide_eq_false hd)] at h
    omega
theorem sliceS_to (A : Option Addr) (n cap k : Nat) (hk : k ≤ n) (hn : n ≤ cap) (w : World) : (Instr.slice 23 (.slice A n cap) none (some (.int .i64 (k : Int))) none).run Try.prog w = .ok (.slice A k cap) w := by
  rw [run_slice_h w 23 _ _ _ (by kernel_rfl) .i64 k (by omega) (by omega)]
  have hz1 : (sizeOf (Try.prog.elem 23)).run Try.prog w = .ok 1 w := by kernel_rfl
  rw [hz1]
  cases A with
  | none => simp [Result.andThen, sliced]
  | some ad =>
    have h0 : ad.add 0 = ad := by simp [Addr.add]
    simp [Result.andThen, sliced, h0]
theorem rs_to {w : World} {A : Option Addr} {n cap k : Nat} {l : Fs} (h : RS w (.slice A n cap) l) (hk : k ≤ n) : SeesC w w.heap.size (.slice A k cap) (strs (l.take k)) := by
  obtain ⟨A', cap', he, hc, hr⟩ := h.form
  cases he
  have hl : (l.take k).length = k := by rw [List.length_take]; omega
  by_cases h0 : k = 0
  · subst h0
    rcases h with ⟨h1, h2⟩ | ⟨ad, cap', h2, hc', _, _⟩
    · simp only [Value.slice.injEq] at h2
      obtain ⟨rfl, -, rfl⟩ := h2
      exact .inl ⟨rfl, rfl⟩
    · simp only [Value.slice.injEq] at h2
      obtain ⟨rfl, -, rfl⟩ := h2
      refine .inr ⟨ad, cap, rfl, Nat.zero_le _, fun h => absurd h (by simp [strs]), fun j u hu => by simp [strs] at hu⟩
  · obtain ⟨b, off, rfl, hb, hj⟩ := hr (by omega)
    refine .inr ⟨_, cap, by rw [strs_len, hl], by rw [strs_len, hl]; omega, fun _ => hb, fun j u hu => ?_⟩
    obtain ⟨f, hf, rfl⟩ := strs_back hu
    have hjk : j < k := by have := (List.getElem?_eq_some_iff.1 hf).1; omega
    rw [List.getElem?_take, if_pos hjk] at hf
    rw [add_plain]
    exact hj j f hf
theorem rs_from {w : World} {A : Option Addr} {n cap k : Nat} {l : Fs} (h : RS w (.slice A n cap) l) (hk : k ≤ n) : SeesC w w.heap.size (sliced A k n cap 1) (strs (l.drop k)) := by
  obtain ⟨A', cap', he, hc, hr⟩ := h.form
  cases he
  have hl : (l.drop k).length = l.length - k := by rw [List.length_drop]
  unfold sliced
  by_cases h0 : k = l.length
  · subst h0
    have hd : l.drop l.length = [] := List.drop_eq_nil_of_le (Nat.le_refl _)
    rw [hd, Nat.sub_self]
    rcases h with ⟨h1, h2⟩ | ⟨ad, cap', h2, hc', _, _⟩
    · simp only [Value.slice.injEq] at h2
      obtain ⟨rfl, h3, rfl⟩ := h2
      refine .inl ⟨rfl, ?_⟩
      rw [h3]
      rfl
    · simp only [Value.slice.injEq] at h2
      obtain ⟨rfl, -, rfl⟩ := h2
      refine .inr ⟨if cap = l.length then ad else ad.add (l.length * 1), cap - l.length, ?_, Nat.zero_le _, fun h => absurd h (by simp [strs]), fun j u hu => by simp [strs] at hu⟩
      split <;> rfl
  · obtain ⟨b, off, rfl, hb, hj⟩ := hr (by omega)
    rw [if_neg (by omega)]
    refine .inr ⟨⟨b, off + k, none⟩, cap - k, ?_, by rw [strs_len, hl]; omega, fun _ => hb, fun j u hu => ?_⟩
    · rw [strs_len, hl, Option.map_some, add_plain, Nat.mul_one]
    · obtain ⟨f, hf, rfl⟩ := strs_back hu
      rw [List.getElem?_drop] at hf
      rw [add_plain, Nat.add_assoc]
      exact hj _ f hf
theorem sees_new (w : World) (p : ByteArray) : SeesC (w.alloc (.cells #[.string p] 9)) (w.alloc (.cells #[.string p] 9)).heap.size (.slice (some ⟨w.heap.size, 0, none⟩) 1 1) [.string p] := by
  refine .inr ⟨_, 1, rfl, Nat.le_refl _, fun _ => by simp, fun j u hu => ?_⟩
  exact news_at w [.string p] 9 j u hu
theorem insert_end {w : World} {base m k : Nat} {v : Value} {f : ByteArray} {l : Fs} (h : insS f.data.toList l = l.take k ++ f.data.toList :: l.drop k) (ho : w.ownsRow base 9 1 v m ([] ++ strs (l.take k) ++ [.string f] ++ strs (l.drop k))) : RS w v (insS f.data.toList l) := by
  have h1 := (seesC_own ho).1
  unfold RS
  have e : strs (insS f.data.toList l) = [] ++ strs (l.take k) ++ [.string f] ++ strs (l.drop k) := by
    rw [h, strs_app, strs_cons, Lib.mk_data, List.nil_append, List.append_assoc]
    rfl
  rw [e]
  exact h1

set_option maxRecDepth 100000 in
set_option maxHeartbeats 4000000 in
theorem refInsert_any {w : World} {v : Value} {l : Fs} (hv : RS w v l) (hl : l.length ≤ 1000) (f : ByteArray) :
    Calls Try.prog 33 #[v, .string f] w fun e w' => (∃ v', e = .returned v' ∧ RS w' v' (insS f.data.toList l)) ∧ Below w.heap.size w w' := by
  obtain ⟨A, cap, rfl, hc, -⟩ := hv.form
  obtain ⟨n, hn⟩ : ∃ n, l.length = n := ⟨_, rfl⟩
  have HV := Lib.hid (fun W (h : Below w.heap.size w W) => hv.below h)
  rw [hn] at hc hl HV ⊢
  have HN := Lib.hid hn
  clear hn hv
  go_enter Try.func33, Try.ntmps33
  go_wp2_with fail
  go_loopw [5] (fun i wr => ∃ k : Nat, k ≤ n ∧ i = .int .i64 k ∧ cntF f.data.toList l = k + cntF f.data.toList (l.drop k) ∧ Below w.heap.size w wr) (fun i _ => n - (Go.RowKit.intOf i).toNat)
  case atStart => exact ⟨0, Nat.zero_le _, rfl, by simp, Below.refl _ _⟩
  case round =>
    obtain ⟨k, hk, rfl, hcnt, hb⟩ := hrel
    have HB := Lib.hid hb
    by_cases hlt : k < n
    · obtain ⟨g, hg⟩ : ∃ g, l[k]? = some g := ⟨_, List.getElem?_eq_getElem (by rw [HN.out]; exact hlt)⟩
      obtain ⟨A', cap', he', -, hr⟩ := (HV.out wr hb).form
      rw [HN.out] at he' hr
      cases he'
      obtain ⟨bk, off, rfl, -, hj⟩ := hr (by omega)
      have c0 := hj k g hg
      obtain ⟨G, hG⟩ : ∃ s : ByteArray, (⟨g.toArray⟩ : ByteArray) = s := ⟨_, rfl⟩
      have ht : Op.bytesLess G.toList f.toList = decide (g < f.data.toList) := by rw [← hG, Lib.toList_data, Lib.toList_data, less_lt]
      have he : (G.toList == f.toList) = decide (g = f.data.toList) := by
        rw [← hG, Lib.toList_data, Lib.toList_data, Bool.eq_iff_iff]
        simp
      rw [hG] at c0
      obtain ⟨hyes, hno⟩ := cntF_step hg hcnt
      obtain ⟨t, htt⟩ : ∃ t, decide (g < f.data.toList) = t := ⟨_, rfl⟩
      rw [htt] at ht hyes hno
      have HG := Lib.hid hg
      cases t with
      | true =>
        have HY := Lib.hid (hyes rfl)
        clear hyes hno htt hG hj hr hg hcnt hb he
        go_wp2_with fail
        exact ⟨⟨k + 1, by omega, by go_num, HY.out, HB.out⟩, by simp only [Go.RowKit.intOf]; omega⟩
      | false =>
        have HY := Lib.hid (hno rfl)
        clear hyes hno htt hG hj hr hg hcnt hb
        by_cases hgf : g = f.data.toList
        · rw [decide_eq_true hgf] at he
          have HIS : Hid (insS f.data.toList l = l) := Lib.hid (by rw [insS_at, HY.out, HG.out, if_pos (by rw [hgf])])
          clear hgf
          go_wp2_with fail
          go_ret
          exact ⟨⟨_, rfl, by rw [HIS.out]; exact HV.out _ HB.out⟩, HB.out⟩
        · rw [decide_eq_false hgf] at he
          have HIS : Hid (insS f.data.toList l = l.take k ++ f.data.toList :: l.drop k) := Lib.hid (by rw [insS_at, HY.out, HG.out, if_neg (fun h => hgf (Option.some.inj h))])
          clear hgf
          obtain ⟨i0, hi, hz0, hz1, hz2⟩ := info_parts' Try.infoStr
          have hs1 := sliceS_to (some ⟨bk, off, none⟩) n cap k hk hc
          have hs2 := sliceS_from (some ⟨bk, off, none⟩) n cap k hk
          obtain ⟨vd, hvd⟩ : ∃ vd, sliced (some ⟨bk, off, none⟩) k n cap 1 = vd := ⟨_, rfl⟩
          rw [hvd] at hs2
          have HT := Lib.hid (fun W (h : Below wr.heap.size wr W) => (rs_to (HV.out wr HB.out) hk).below h)
          have HD := Lib.hid (fun W (h : Below wr.heap.size wr W) => (rs_from (HV.out wr HB.out) hk).below h)
          rw [hvd] at HD
          have htl : (strs (l.take k)).length = k := by rw [strs_len, List.length_take, HN.out]; omega
          have hdl : (strs (l.drop k)).length = n - k := by rw [strs_len, List.length_drop, HN.out]
          have HTL := Lib.hid htl
          have HDL := Lib.hid hdl
          clear htl hdl hvd
          go_wp2_with fail
          refine wp_region_any (by kernel_rfl) ?_
          change wpAny _ _ _ _ _ _ _ (World.drew _)
          refine wpAny_take (i := 0) (oi := ?oi1) (v := ?v1) ?hi1 (by kernel_rfl) (by kernel_rfl) (by kernel_rfl) ?hq1 ?hy1 ?hr1
          case hi1 => (simp only [List.getElem?_toArray, List.getElem?_cons_zero]; rfl)
          case hq1 => exact fun _ _ _ h => h
          case hy1 => exact Or.inl ⟨by rfl, by intro w; (first | (go_simp; done) | (go_simp; with_reducible rfl))⟩
          try simp only [Act.put, List.setIfInBounds_toArray, List.set_cons_zero, List.set_cons_succ]
          refine wpAny_take (i := 1) (oi := ?oi2) (v := ?v2) ?hi2 (by kernel_rfl) (by kernel_rfl) (by kernel_rfl) ?hq2 ?hy2 ?hr2
          case hi2 => (simp only [List.getElem?_toArray, List.getElem?_cons_succ, List.getElem?_cons_zero]; rfl)
          case hq2 => exact fun _ _ _ h => h
          case hy2 => exact Or.inl ⟨by rfl, by intro w; (first | (go_simp; done) | (go_simp; with_reducible rfl))⟩
          try simp only [Act.put, List.setIfInBounds_toArray, List.set_cons_zero, List.set_cons_succ]
          refine wpAny_take (i := 2) (oi := ?oi3) (v := ?v3) ?hi3 (by kernel_rfl) (by kernel_rfl) (by kernel_rfl) ?hq3 ?hy3 ?hr3
          case hi3 => (simp only [List.getElem?_toArray, List.getElem?_cons_succ, List.getElem?_cons_zero]; rfl)
          case hq3 => exact fun _ _ _ h => h
          case hy3 => exact Or.inl ⟨by rfl, by intro w; (first | (go_simp; done) | (go_simp; with_reducible rfl))⟩
          try simp only [Act.put, List.setIfInBounds_toArray, List.set_cons_zero, List.set_cons_succ]
          refine wpAny_take (i := 4) (oi := ?oi4) (v := ?v4) ?hi4 (by kernel_rfl) (by kernel_rfl) (by kernel_rfl) ?hq4 ?hy4 ?hr4
          case hi4 => (simp only [List.getElem?_toArray, List.getElem?_cons_succ, List.getElem?_cons_zero]; rfl)
          case hq4 => exact fun _ _ _ h => h
          case hy4 => exact Or.inl ⟨by rfl, by intro w; (first | (go_simp; done) | (go_simp; with_reducible rfl))⟩
          try simp only [Act.put, List.setIfInBounds_toArray, List.set_cons_zero, List.set_cons_succ]
          refine wpAny_take (i := 7) (oi := ?oi5) (v := ?v5) ?hi5 (by kernel_rfl) (by kernel_rfl) (by kernel_rfl) ?hq5 ?hy5 ?hr5
          case hi5 => (simp only [List.getElem?_toArray, List.getElem?_cons_succ, List.getElem?_cons_zero]; rfl)
          case hq5 => exact fun _ _ _ h => h
          case hy5 => exact Or.inl ⟨by rfl, by intro w; (first | (go_simp; done) | (go_simp; with_reducible rfl))⟩
          try simp only [Act.put, List.setIfInBounds_toArray, List.set_cons_zero, List.set_cons_succ]
          refine wpAny_take (i := 8) (oi := ?oi6) (v := ?v6) ?hi6 (by kernel_rfl) (by kernel_rfl) (by kernel_rfl) ?hq6 ?hy6 ?hr6
          case hi6 => (simp only [List.getElem?_toArray, List.getElem?_cons_succ, List.getElem?_cons_zero]; rfl)
          case hq6 => exact fun _ _ _ h => h
          case hy6 => exact Or.inl ⟨by rfl, by intro w; (first | (go_simp; done) | (go_simp; with_reducible rfl))⟩
          try simp only [Act.put, List.setIfInBounds_toArray, List.set_cons_zero, List.set_cons_succ]
          refine wpAny_take (i := 9) (oi := ?oi7) (v := ?v7) ?hi7 (by kernel_rfl) (by kernel_rfl) (by kernel_rfl) ?hq7 ?hy7 ?hr7
          case hi7 => (simp only [List.getElem?_toArray, List.getElem?_cons_succ, List.getElem?_cons_zero]; rfl)
          case hq7 => exact fun _ _ _ h => h
          case hy7 => exact Or.inl ⟨by rfl, by intro w; (first | (go_simp; done) | (go_simp; with_reducible rfl))⟩
          try simp only [Act.put, List.setIfInBounds_toArray, List.set_cons_zero, List.set_cons_succ]
          refine wpAny_ready (rs := [3, 5]) (by kernel_rfl) (by simp) ?_
          refine AllReady.cons (o := ?oo8) ?hi8 (fun K hK => ?hs8) ?hm8
          case hi8 => (simp only [List.getElem?_toArray, List.getElem?_cons_succ, List.getElem?_cons_zero]; rfl)
          · refine step_append_any rfl (.const (.slice none 0 0)) (.tmp 35) 23 rfl wr.heap.size 9 i0 _ 16 Try.underlying23 hi hz0 hz1 hz2 rfl _ 0 [] rfl (World.ownsRow_nil _ _ _ _) _ wr.heap.size (strs (l.take k)) rfl (by first | exact HT.out _ (Below.refl _ _).drew | exact HT.out _ ((Below.refl _ _).drew.alloc (Nat.le_refl _) _)) (strs_one _) (by rw [HTL.out]; unfold maxLen; omega) (by rw [HTL.out]; omega) (by first | exact Nat.le_refl _ | simp) ?_
            intro v1 w1 hown1 hg1 _
            rw [HTL.out] at hown1
            have HO1 := Lib.hid hown1
            have HG1 := Lib.hid hg1
            have HZ1 : Hid (Below wr.heap.size wr w1) := Lib.hid (by first | exact (Below.refl _ _).drew.grown hg1 (Nat.le_refl _) (fun k e => nomatch (show (none : Option Nat) = some k from e)) | exact ((Below.refl _ _).drew.alloc (Nat.le_refl _) _).grown hg1 (by simp) (fun k e => nomatch (show (none : Option Nat) = some k from e)))
            clear hown1 hg1
            refine hK _ _ ?_; clear hK K
            try simp only [Act.put, List.setIfInBounds_toArray, List.set_cons_zero, List.set_cons_succ]
            refine wpAny_ready (rs := [5]) (by kernel_rfl) (by simp) ?_
            refine AllReady.cons (o := ?oo9) ?hi9 (fun K hK => ?hs9) ?hm9
            case hi9 => (simp only [List.getElem?_toArray, List.getElem?_cons_succ, List.getElem?_cons_zero]; rfl)
            · go_simp
              refine hK _ _ ?_; clear hK K
              try simp only [Act.put, List.setIfInBounds_toArray, List.set_cons_zero, List.set_cons_succ]
              refine wpAny_ready (rs := [6]) (by kernel_rfl) (by simp) ?_
              refine AllReady.cons (o := ?oo10) ?hi10 (fun K hK => ?hs10) ?hm10
              case hi10 => (simp only [List.getElem?_toArray, List.getElem?_cons_succ, List.getElem?_cons_zero]; rfl)
              · refine step_append_any rfl (.tmp 36) (.tmp 38) 23 rfl wr.heap.size 9 i0 _ 16 Try.underlying23 hi hz0 hz1 hz2 rfl _ (0 + k) _ rfl (by first | exact HO1.out | exact HO1.out.alloc _) _ _ [.string f] rfl (by first | exact sees_new _ _ | exact (sees_new wr f).below ((Below.refl _ _).drew.grown HG1.out (Nat.le_refl _) (fun k e => nomatch (show (none : Option Nat) = some k from e)))) (by simp [Value.oneCell']) (by show 0 + k + 1 ≤ _; unfold maxLen; omega) (by show (0 + k + 1) * 16 ≤ _; omega) (by have := HZ1.out.size; first | exact this | (simp; omega)) ?_
                intro v2 w2 hown2 hg2 _
                have HO2 := Lib.hid hown2
                have HZ2 : Hid (Below wr.heap.size wr w2) := Lib.hid (by first | exact HZ1.out.grown hg2 HZ1.out.size (fun k e => (own_low HO1.out k e).1) | exact (HZ1.out.alloc HZ1.out.size _).grown hg2 (by have := HZ1.out.size; simp; omega) (fun k e => (own_low HO1.out k e).1))
                clear hown2 hg2
                refine hK _ _ ?_; clear hK K
                try simp only [Act.put, List.setIfInBounds_toArray, List.set_cons_zero, List.set_cons_succ]
                refine wpAny_ready (rs := [10]) (by kernel_rfl) (by simp) ?_
                refine AllReady.cons (o := ?oo11) ?hi11 (fun K hK => ?hs11) ?hm11
                case hi11 => (simp only [List.getElem?_toArray, List.getElem?_cons_succ, List.getElem?_cons_zero]; rfl)
                · refine step_append_any rfl (.tmp 39) (.tmp 42) 23 rfl wr.heap.size 9 i0 _ 16 Try.underlying23 hi hz0 hz1 hz2 rfl _ (0 + k + 1) _ rfl HO2.out _ wr.heap.size (strs (l.drop k)) rfl (HD.out _ HZ2.out) (strs_one _) (by rw [HDL.out]; unfold maxLen; omega) (by rw [HDL.out]; omega) HZ2.out.size ?_
                  intro v3 w3 hown3 hg3 _
                  have HO3 := Lib.hid hown3
                  have HZ3 : Hid (Below wr.heap.size wr w3) := Lib.hid (HZ2.out.grown hg3 HZ2.out.size (fun k e => (own_low HO2.out k e).1))
                  clear hown3 hg3
                  refine hK _ _ ?_; clear hK K
                  try simp only [Act.put, List.setIfInBounds_toArray, List.set_cons_zero, List.set_cons_succ]
                  refine wpAny_take (i := 11) (oi := ?oi12) (v := ?v12) ?hi12 (by kernel_rfl) (by kernel_rfl) (by kernel_rfl) ?hq12 ?hy12 ?hr12
                  case hi12 => (simp only [List.getElem?_toArray, List.getElem?_cons_succ, List.getElem?_cons_zero]; rfl)
                  case hq12 => exact fun _ _ _ h => h
                  case hy12 => exact Or.inl ⟨by rfl, by intro w; (first | (go_simp; done) | (go_simp; with_reducible rfl))⟩
                  try simp only [Act.put, List.setIfInBounds_toArray, List.set_cons_zero, List.set_cons_succ]
                  refine wpAny_done (by kernel_rfl) ?_ _
                  go_wp2_with fail
                  go_ret
                  exact ⟨⟨_, rfl, insert_end HIS.out HO3.out⟩, HB.out.trans (HZ3.out.mono HB.out.size)⟩
                exact AllReady.nil
              exact AllReady.nil
            exact AllReady.nil
          refine AllReady.cons (o := ?oo13) ?hi13 (fun K hK => ?hs13) ?hm13
          case hi13 => (simp only [List.getElem?_toArray, List.getElem?_cons_succ, List.getElem?_cons_zero]; rfl)
          · go_simp
            refine hK _ _ ?_; clear hK K
            try simp only [Act.put, List.setIfInBounds_toArray, List.set_cons_zero, List.set_cons_succ]
            refine wpAny_ready (rs := [3]) (by kernel_rfl) (by simp) ?_
            refine AllReady.cons (o := ?oo14) ?hi14 (fun K hK => ?hs14) ?hm14
            case hi14 => (simp only [List.getElem?_toArray, List.getElem?_cons_succ, List.getElem?_cons_zero]; rfl)
            · refine step_append_any rfl (.const (.slice none 0 0)) (.tmp 35) 23 rfl wr.heap.size 9 i0 _ 16 Try.underlying23 hi hz0 hz1 hz2 rfl _ 0 [] rfl (World.ownsRow_nil _ _ _ _) _ wr.heap.size (strs (l.take k)) rfl (by first | exact HT.out _ (Below.refl _ _).drew | exact HT.out _ ((Below.refl _ _).drew.alloc (Nat.le_refl _) _)) (strs_one _) (by rw [HTL.out]; unfold maxLen; omega) (by rw [HTL.out]; omega) (by first | exact Nat.le_refl _ | simp) ?_
              intro v1 w1 hown1 hg1 _
              rw [HTL.out] at hown1
              have HO1 := Lib.hid hown1
              have HG1 := Lib.hid hg1
              have HZ1 : Hid (Below wr.heap.size wr w1) := Lib.hid (by first | exact (Below.refl _ _).drew.grown hg1 (Nat.le_refl _) (fun k e => nomatch (show (none : Option Nat) = some k from e)) | exact ((Below.refl _ _).drew.alloc (Nat.le_refl _) _).grown hg1 (by simp) (fun k e => nomatch (show (none : Option Nat) = some k from e)))
              clear hown1 hg1
              refine hK _ _ ?_; clear hK K
              try simp only [Act.put, List.setIfInBounds_toArray, List.set_cons_zero, List.set_cons_succ]
              refine wpAny_ready (rs := [6]) (by kernel_rfl) (by simp) ?_
              refine AllReady.cons (o := ?oo15) ?hi15 (fun K hK => ?hs15) ?hm15
              case hi15 => (simp only [List.getElem?_toArray, List.getElem?_cons_succ, List.getElem?_cons_zero]; rfl)
              · refine step_append_any rfl (.tmp 36) (.tmp 38) 23 rfl wr.heap.size 9 i0 _ 16 Try.underlying23 hi hz0 hz1 hz2 rfl _ (0 + k) _ rfl (by first | exact HO1.out | exact HO1.out.alloc _) _ _ [.string f] rfl (by first | exact sees_new _ _ | exact (sees_new wr f).below ((Below.refl _ _).drew.grown HG1.out (Nat.le_refl _) (fun k e => nomatch (show (none : Option Nat) = some k from e)))) (by simp [Value.oneCell']) (by show 0 + k + 1 ≤ _; unfold maxLen; omega) (by show (0 + k + 1) * 16 ≤ _; omega) (by have := HZ1.out.size; first | exact this | (simp; omega)) ?_
                intro v2 w2 hown2 hg2 _
                have HO2 := Lib.hid hown2
                have HZ2 : Hid (Below wr.heap.size wr w2) := Lib.hid (by first | exact HZ1.out.grown hg2 HZ1.out.size (fun k e => (own_low HO1.out k e).1) | exact (HZ1.out.alloc HZ1.out.size _).grown hg2 (by have := HZ1.out.size; simp; omega) (fun k e => (own_low HO1.out k e).1))
                clear hown2 hg2
                refine hK _ _ ?_; clear hK K
                try simp only [Act.put, List.setIfInBounds_toArray, List.set_cons_zero, List.set_cons_succ]
                refine wpAny_ready (rs := [10]) (by kernel_rfl) (by simp) ?_
                refine AllReady.cons (o := ?oo16) ?hi16 (fun K hK => ?hs16) ?hm16
                case hi16 => (simp only [List.getElem?_toArray, List.getElem?_cons_succ, List.getElem?_cons_zero]; rfl)
                · refine step_append_any rfl (.tmp 39) (.tmp 42) 23 rfl wr.heap.size 9 i0 _ 16 Try.underlying23 hi hz0 hz1 hz2 rfl _ (0 + k + 1) _ rfl HO2.out _ wr.heap.size (strs (l.drop k)) rfl (HD.out _ HZ2.out) (strs_one _) (by rw [HDL.out]; unfold maxLen; omega) (by rw [HDL.out]; omega) HZ2.out.size ?_
                  intro v3 w3 hown3 hg3 _
                  have HO3 := Lib.hid hown3
                  have HZ3 : Hid (Below wr.heap.size wr w3) := Lib.hid (HZ2.out.grown hg3 HZ2.out.size (fun k e => (own_low HO2.out k e).1))
                  clear hown3 hg3
                  refine hK _ _ ?_; clear hK K
                  try simp only [Act.put, List.setIfInBounds_toArray, List.set_cons_zero, List.set_cons_succ]
                  refine wpAny_take (i := 11) (oi := ?oi17) (v := ?v17) ?hi17 (by kernel_rfl) (by kernel_rfl) (by kernel_rfl) ?hq17 ?hy17 ?hr17
                  case hi17 => (simp only [List.getElem?_toArray, List.getElem?_cons_succ, List.getElem?_cons_zero]; rfl)
                  case hq17 => exact fun _ _ _ h => h
                  case hy17 => exact Or.inl ⟨by rfl, by intro w; (first | (go_simp; done) | (go_simp; with_reducible rfl))⟩
                  try simp only [Act.put, List.setIfInBounds_toArray, List.set_cons_zero, List.set_cons_succ]
                  refine wpAny_done (by kernel_rfl) ?_ _
                  go_wp2_with fail
                  go_ret
                  exact ⟨⟨_, rfl, insert_end HIS.out HO3.out⟩, HB.out.trans (HZ3.out.mono HB.out.size)⟩
                exact AllReady.nil
              exact AllReady.nil
            exact AllReady.nil
          exact AllReady.nil
    · have hd : l.drop k = [] := List.drop_eq_nil_of_le (by rw [HN.out]; omega)
      have HIS : Hid (insS f.data.toList l = l.take k ++ f.data.toList :: l.drop k) := Lib.hid (by
        rw [hd] at hcnt
        have hc0 : cntF f.data.toList l = k := hcnt
        rw [insS_at, hc0, if_neg (by rw [List.getElem?_eq_none (by rw [HN.out]; omega)]; simp)])
      clear hcnt hb hd
      obtain ⟨i0, hi, hz0, hz1, hz2⟩ := info_parts' Try.infoStr
      have hs1 := sliceS_to A n cap k hk hc
      have hs2 := sliceS_from A n cap k hk
      obtain ⟨vd, hvd⟩ : ∃ vd, sliced A k n cap 1 = vd := ⟨_, rfl⟩
      rw [hvd] at hs2
      have HT := Lib.hid (fun W (h : Below wr.heap.size wr W) => (rs_to (HV.out wr HB.out) hk).below h)
      have HD := Lib.hid (fun W (h : Below wr.heap.size wr W) => (rs_from (HV.out wr HB.out) hk).below h)
      rw [hvd] at HD
      have htl : (strs (l.take k)).length = k := by rw [strs_len, List.length_take, HN.out]; omega
      have hdl : (strs (l.drop k)).length = n - k := by rw [strs_len, List.length_drop, HN.out]
      have HTL := Lib.hid htl
      have HDL := Lib.hid hdl
      clear htl hdl hvd
      go_wp2_with fail
      refine wp_region_any (by kernel_rfl) ?_
      change wpAny _ _ _ _ _ _ _ (World.drew _)
      refine wpAny_take (i := 0) (oi := ?oi1001) (v := ?v1001) ?hi1001 (by kernel_rfl) (by kernel_rfl) (by kernel_rfl) ?hq1001 ?hy1001 ?hr1001
      case hi1001 => (simp only [List.getElem?_toArray, List.getElem?_cons_zero]; rfl)
      case hq1001 => exact fun _ _ _ h => h
      case hy1001 => exact Or.inl ⟨by rfl, by intro w; (first | (go_simp; done) | (go_simp; with_reducible rfl))⟩
      try simp only [Act.put, List.setIfInBounds_toArray, List.set_cons_zero, List.set_cons_succ]
      refine wpAny_take (i := 1) (oi := ?oi1002) (v := ?v1002) ?hi1002 (by kernel_rfl) (by kernel_rfl) (by kernel_rfl) ?hq1002 ?hy1002 ?hr1002
      case hi1002 => (simp only [List.getElem?_toArray, List.getElem?_cons_succ, List.getElem?_cons_zero]; rfl)
      case hq1002 => exact fun _ _ _ h => h
      case hy1002 => exact Or.inl ⟨by rfl, by intro w; (first | (go_simp; done) | (go_simp; with_reducible rfl))⟩
      try simp only [Act.put, List.setIfInBounds_toArray, List.set_cons_zero, List.set_cons_succ]
      refine wpAny_take (i := 2) (oi := ?oi1003) (v := ?v1003) ?hi1003 (by kernel_rfl) (by kernel_rfl) (by kernel_rfl) ?hq1003 ?hy1003 ?hr1003
      case hi1003 => (simp only [List.getElem?_toArray, List.getElem?_cons_succ, List.getElem?_cons_zero]; rfl)
      case hq1003 => exact fun _ _ _ h => h
      case hy1003 => exact Or.inl ⟨by rfl, by intro w; (first | (go_simp; done) | (go_simp; with_reducible rfl))⟩
      try simp only [Act.put, List.setIfInBounds_toArray, List.set_cons_zero, List.set_cons_succ]
      refine wpAny_take (i := 4) (oi := ?oi1004) (v := ?v1004) ?hi1004 (by kernel_rfl) (by kernel_rfl) (by kernel_rfl) ?hq1004 ?hy1004 ?hr1004
      case hi1004 => (simp only [List.getElem?_toArray, List.getElem?_cons_succ, List.getElem?_cons_zero]; rfl)
      case hq1004 => exact fun _ _ _ h => h
      case hy1004 => exact Or.inl ⟨by rfl, by intro w; (first | (go_simp; done) | (go_simp; with_reducible rfl))⟩
      try simp only [Act.put, List.setIfInBounds_toArray, List.set_cons_zero, List.set_cons_succ]
      refine wpAny_take (i := 7) (oi := ?oi1005) (v := ?v1005) ?hi1005 (by kernel_rfl) (by kernel_rfl) (by kernel_rfl) ?hq1005 ?hy1005 ?hr1005
      case hi1005 => (simp only [List.getElem?_toArray, List.getElem?_cons_succ, List.getElem?_cons_zero]; rfl)
      case hq1005 => exact fun _ _ _ h => h
      case hy1005 => exact Or.inl ⟨by rfl, by intro w; (first | (go_simp; done) | (go_simp; with_reducible rfl))⟩
      try simp only [Act.put, List.setIfInBounds_toArray, List.set_cons_zero, List.set_cons_succ]
      refine wpAny_take (i := 8) (oi := ?oi1006) (v := ?v1006) ?hi1006 (by kernel_rfl) (by kernel_rfl) (by kernel_rfl) ?hq1006 ?hy1006 ?hr1006
      case hi1006 => (simp only [List.getElem?_toArray, List.getElem?_cons_succ, List.getElem?_cons_zero]; rfl)
      case hq1006 => exact fun _ _ _ h => h
      case hy1006 => exact Or.inl ⟨by rfl, by intro w; (first | (go_simp; done) | (go_simp; with_reducible rfl))⟩
      try simp only [Act.put, List.setIfInBounds_toArray, List.set_cons_zero, List.set_cons_succ]
      refine wpAny_take (i := 9) (oi := ?oi1007) (v := ?v1007) ?hi1007 (by kernel_rfl) (by kernel_rfl) (by kernel_rfl) ?hq1007 ?hy1007 ?hr1007
      case hi1007 => (simp only [List.getElem?_toArray, List.getElem?_cons_succ, List.getElem?_cons_zero]; rfl)
      case hq1007 => exact fun _ _ _ h => h
      case hy1007 => exact Or.inl ⟨by rfl, by intro w; (first | (go_simp; done) | (go_simp; with_reducible rfl))⟩
      try simp only [Act.put, List.setIfInBounds_toArray, List.set_cons_zero, List.set_cons_succ]
      refine wpAny_ready (rs := [3, 5]) (by kernel_rfl) (by simp) ?_
      refine AllReady.cons (o := ?oo1008) ?hi1008 (fun K hK => ?hs1008) ?hm1008
      case hi1008 => (simp only [List.getElem?_toArray, List.getElem?_cons_succ, List.getElem?_cons_zero]; rfl)
      · refine step_append_any rfl (.const (.slice none 0 0)) (.tmp 35) 23 rfl wr.heap.size 9 i0 _ 16 Try.underlying23 hi hz0 hz1 hz2 rfl _ 0 [] rfl (World.ownsRow_nil _ _ _ _) _ wr.heap.size (strs (l.take k)) rfl (by first | exact HT.out _ (Below.refl _ _).drew | exact HT.out _ ((Below.refl _ _).drew.alloc (Nat.le_refl _) _)) (strs_one _) (by rw [HTL.out]; unfold maxLen; omega) (by rw [HTL.out]; omega) (by first | exact Nat.le_refl _ | simp) ?_
        intro v1 w1 hown1 hg1 _
        rw [HTL.out] at hown1
        have HO1 := Lib.hid hown1
        have HG1 := Lib.hid hg1
        have HZ1 : Hid (Below wr.heap.size wr w1) := Lib.hid (by first | exact (Below.refl _ _).drew.grown hg1 (Nat.le_refl _) (fun k e => nomatch (show (none : Option Nat) = some k from e)) | exact ((Below.refl _ _).drew.alloc (Nat.le_refl _) _).grown hg1 (by simp) (fun k e => nomatch (show (none : Option Nat) = some k from e)))
        clear hown1 hg1
        refine hK _ _ ?_; clear hK K
        try simp only [Act.put, List.setIfInBounds_toArray, List.set_cons_zero, List.set_cons_succ]
        refine wpAny_ready (rs := [5]) (by kernel_rfl) (by simp) ?_
        refine AllReady.cons (o := ?oo1009) ?hi1009 (fun K hK => ?hs1009) ?hm1009
        case hi1009 => (simp only [List.getElem?_toArray, List.getElem?_cons_succ, List.getElem?_cons_zero]; rfl)
        · go_simp
          refine hK _ _ ?_; clear hK K
          try simp only [Act.put, List.setIfInBounds_toArray, List.set_cons_zero, List.set_cons_succ]
          refine wpAny_ready (rs := [6]) (by kernel_rfl) (by simp) ?_
          refine AllReady.cons (o := ?oo1010) ?hi1010 (fun K hK => ?hs1010) ?hm1010
          case hi1010 => (simp only [List.getElem?_toArray, List.getElem?_cons_succ, List.getElem?_cons_zero]; rfl)
          · refine step_append_any rfl (.tmp 36) (.tmp 38) 23 rfl wr.heap.size 9 i0 _ 16 Try.underlying23 hi hz0 hz1 hz2 rfl _ (0 + k) _ rfl (by first | exact HO1.out | exact HO1.out.alloc _) _ _ [.string f] rfl (by first | exact sees_new _ _ | exact (sees_new wr f).below ((Below.refl _ _).drew.grown HG1.out (Nat.le_refl _) (fun k e => nomatch (show (none : Option Nat) = some k from e)))) (by simp [Value.oneCell']) (by show 0 + k + 1 ≤ _; unfold maxLen; omega) (by show (0 + k + 1) * 16 ≤ _; omega) (by have := HZ1.out.size; first | exact this | (simp; omega)) ?_
            intro v2 w2 hown2 hg2 _
            have HO2 := Lib.hid hown2
            have HZ2 : Hid (Below wr.heap.size wr w2) := Lib.hid (by first | exact HZ1.out.grown hg2 HZ1.out.size (fun k e => (own_low HO1.out k e).1) | exact (HZ1.out.alloc HZ1.out.size _).grown hg2 (by have := HZ1.out.size; simp; omega) (fun k e => (own_low HO1.out k e).1))
            clear hown2 hg2
            refine hK _ _ ?_; clear hK K
            try simp only [Act.put, List.setIfInBounds_toArray, List.set_cons_zero, List.set_cons_succ]
            refine wpAny_ready (rs := [10]) (by kernel_rfl) (by simp) ?_
            refine AllReady.cons (o := ?oo1011) ?hi1011 (fun K hK => ?hs1011) ?hm1011
            case hi1011 => (simp only [List.getElem?_toArray, List.getElem?_cons_succ, List.getElem?_cons_zero]; rfl)
            · refine step_append_any rfl (.tmp 39) (.tmp 42) 23 rfl wr.heap.size 9 i0 _ 16 Try.underlying23 hi hz0 hz1 hz2 rfl _ (0 + k + 1) _ rfl HO2.out _ wr.heap.size (strs (l.drop k)) rfl (HD.out _ HZ2.out) (strs_one _) (by rw [HDL.out]; unfold maxLen; omega) (by rw [HDL.out]; omega) HZ2.out.size ?_
              intro v3 w3 hown3 hg3 _
              have HO3 := Lib.hid hown3
              have HZ3 : Hid (Below wr.heap.size wr w3) := Lib.hid (HZ2.out.grown hg3 HZ2.out.size (fun k e => (own_low HO2.out k e).1))
              clear hown3 hg3
              refine hK _ _ ?_; clear hK K
              try simp only [Act.put, List.setIfInBounds_toArray, List.set_cons_zero, List.set_cons_succ]
              refine wpAny_take (i := 11) (oi := ?oi1012) (v := ?v1012) ?hi1012 (by kernel_rfl) (by kernel_rfl) (by kernel_rfl) ?hq1012 ?hy1012 ?hr1012
              case hi1012 => (simp only [List.getElem?_toArray, List.getElem?_cons_succ, List.getElem?_cons_zero]; rfl)
              case hq1012 => exact fun _ _ _ h => h
              case hy1012 => exact Or.inl ⟨by rfl, by intro w; (first | (go_simp; done) | (go_simp; with_reducible rfl))⟩
              try simp only [Act.put, List.setIfInBounds_toArray, List.set_cons_zero, List.set_cons_succ]
              refine wpAny_done (by kernel_rfl) ?_ _
              go_wp2_with fail
              go_ret
              exact ⟨⟨_, rfl, insert_end HIS.out HO3.out⟩, HB.out.trans (HZ3.out.mono HB.out.size)⟩
            exact AllReady.nil
          exact AllReady.nil
        exact AllReady.nil
      refine AllReady.cons (o := ?oo1013) ?hi1013 (fun K hK => ?hs1013) ?hm1013
      case hi1013 => (simp only [List.getElem?_toArray, List.getElem?_cons_succ, List.getElem?_cons_zero]; rfl)
      · go_simp
        refine hK _ _ ?_; clear hK K
        try simp only [Act.put, List.setIfInBounds_toArray, List.set_cons_zero, List.set_cons_succ]
        refine wpAny_ready (rs := [3]) (by kernel_rfl) (by simp) ?_
        refine AllReady.cons (o := ?oo1014) ?hi1014 (fun K hK => ?hs1014) ?hm1014
        case hi1014 => (simp only [List.getElem?_toArray, List.getElem?_cons_succ, List.getElem?_cons_zero]; rfl)
        · refine step_append_any rfl (.const (.slice none 0 0)) (.tmp 35) 23 rfl wr.heap.size 9 i0 _ 16 Try.underlying23 hi hz0 hz1 hz2 rfl _ 0 [] rfl (World.ownsRow_nil _ _ _ _) _ wr.heap.size (strs (l.take k)) rfl (by first | exact HT.out _ (Below.refl _ _).drew | exact HT.out _ ((Below.refl _ _).drew.alloc (Nat.le_refl _) _)) (strs_one _) (by rw [HTL.out]; unfold maxLen; omega) (by rw [HTL.out]; omega) (by first | exact Nat.le_refl _ | simp) ?_
          intro v1 w1 hown1 hg1 _
          rw [HTL.out] at hown1
          have HO1 := Lib.hid hown1
          have HG1 := Lib.hid hg1
          have HZ1 : Hid (Below wr.heap.size wr w1) := Lib.hid (by first | exact (Below.refl _ _).drew.grown hg1 (Nat.le_refl _) (fun k e => nomatch (show (none : Option Nat) = some k from e)) | exact ((Below.refl _ _).drew.alloc (Nat.le_refl _) _).grown hg1 (by simp) (fun k e => nomatch (show (none : Option Nat) = some k from e)))
          clear hown1 hg1
          refine hK _ _ ?_; clear hK K
          try simp only [Act.put, List.setIfInBounds_toArray, List.set_cons_zero, List.set_cons_succ]
          refine wpAny_ready (rs := [6]) (by kernel_rfl) (by simp) ?_
          refine AllReady.cons (o := ?oo1015) ?hi1015 (fun K hK => ?hs1015) ?hm1015
          case hi1015 => (simp only [List.getElem?_toArray, List.getElem?_cons_succ, List.getElem?_cons_zero]; rfl)
          · refine step_append_any rfl (.tmp 36) (.tmp 38) 23 rfl wr.heap.size 9 i0 _ 16 Try.underlying23 hi hz0 hz1 hz2 rfl _ (0 + k) _ rfl (by first | exact HO1.out | exact HO1.out.alloc _) _ _ [.string f] rfl (by first | exact sees_new _ _ | exact (sees_new wr f).below ((Below.refl _ _).drew.grown HG1.out (Nat.le_refl _) (fun k e => nomatch (show (none : Option Nat) = some k from e)))) (by simp [Value.oneCell']) (by show 0 + k + 1 ≤ _; unfold maxLen; omega) (by show (0 + k + 1) * 16 ≤ _; omega) (by have := HZ1.out.size; first | exact this | (simp; omega)) ?_
            intro v2 w2 hown2 hg2 _
            have HO2 := Lib.hid hown2
            have HZ2 : Hid (Below wr.heap.size wr w2) := Lib.hid (by first | exact HZ1.out.grown hg2 HZ1.out.size (fun k e => (own_low HO1.out k e).1) | exact (HZ1.out.alloc HZ1.out.size _).grown hg2 (by have := HZ1.out.size; simp; omega) (fun k e => (own_low HO1.out k e).1))
            clear hown2 hg2
            refine hK _ _ ?_; clear hK K
            try simp only [Act.put, List.setIfInBounds_toArray, List.set_cons_zero, List.set_cons_succ]
            refine wpAny_ready (rs := [10]) (by kernel_rfl) (by simp) ?_
            refine AllReady.cons (o := ?oo1016) ?hi1016 (fun K hK => ?hs1016) ?hm1016
            case hi1016 => (simp only [List.getElem?_toArray, List.getElem?_cons_succ, List.getElem?_cons_zero]; rfl)
            · refine step_append_any rfl (.tmp 39) (.tmp 42) 23 rfl wr.heap.size 9 i0 _ 16 Try.underlying23 hi hz0 hz1 hz2 rfl _ (0 + k + 1) _ rfl HO2.out _ wr.heap.size (strs (l.drop k)) rfl (HD.out _ HZ2.out) (strs_one _) (by rw [HDL.out]; unfold maxLen; omega) (by rw [HDL.out]; omega) HZ2.out.size ?_
              intro v3 w3 hown3 hg3 _
              have HO3 := Lib.hid hown3
              have HZ3 : Hid (Below wr.heap.size wr w3) := Lib.hid (HZ2.out.grown hg3 HZ2.out.size (fun k e => (own_low HO2.out k e).1))
              clear hown3 hg3
              refine hK _ _ ?_; clear hK K
              try simp only [Act.put, List.setIfInBounds_toArray, List.set_cons_zero, List.set_cons_succ]
              refine wpAny_take (i := 11) (oi := ?oi1017) (v := ?v1017) ?hi1017 (by kernel_rfl) (by kernel_rfl) (by kernel_rfl) ?hq1017 ?hy1017 ?hr1017
              case hi1017 => (simp only [List.getElem?_toArray, List.getElem?_cons_succ, List.getElem?_cons_zero]; rfl)
              case hq1017 => exact fun _ _ _ h => h
              case hy1017 => exact Or.inl ⟨by rfl, by intro w; (first | (go_simp; done) | (go_simp; with_reducible rfl))⟩
              try simp only [Act.put, List.setIfInBounds_toArray, List.set_cons_zero, List.set_cons_succ]
              refine wpAny_done (by kernel_rfl) ?_ _
              go_wp2_with fail
              go_ret
              exact ⟨⟨_, rfl, insert_end HIS.out HO3.out⟩, HB.out.trans (HZ3.out.mono HB.out.size)⟩
            exact AllReady.nil
          exact AllReady.nil
        exact AllReady.nil
      exact AllReady.nil
end Go.Proofs.Ythagjdhfngdigaa
