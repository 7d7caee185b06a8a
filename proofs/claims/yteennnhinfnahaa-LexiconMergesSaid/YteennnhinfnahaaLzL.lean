/-
  WALKS over package lexicon: ByReverse, ByCount, Suffix, Prefix.
-/
import Derived.Test.YteennnhinfnahaaLzK
import Derived.Test.YteennnhinfnahaaLxP
namespace Go.Proofs.Yteennnhinfnahaa
open Go.RowKit Go.Shelf Go.Lib Go.Sort Go.Maps
set_option linter.unusedVariables false
set_option linter.unusedSimpArgs false

set_option maxRecDepth 100000 in
set_option maxHeartbeats 1000000 in
theorem cloneI_any {w : World} {v : Value} {ks : List Int} (hk : Rows 1 EInt w v ks) (hl : ks.length ≤ 1000000) :
    Calls Try.prog 53 #[v] w fun e w' => ∃ v', e = .returned v' ∧ Rows 1 EInt w' v' ks ∧ Below w.heap.size w w' := by
  obtain ⟨A, cap, rfl, hc, hr⟩ := hk
  cases A with
  | none =>
    have h0 : ks = [] := by
      by_cases h : 0 < ks.length
      · obtain ⟨b, off, hA, _⟩ := hr h
        cases hA
      · exact List.length_eq_zero_iff.1 (by omega)
    subst h0
    refine (AnyE.slices_Clone_nil Try.laysCloneI 0 cap w).mono ?_
    rintro e w' ⟨rfl, rfl⟩
    exact ⟨_, rfl, Rows.nil _, Below.refl _ _⟩
  | some ad =>
    obtain ⟨i0, hi, hz0, hz1, hz2⟩ := info_parts' Try.infoInt2
    have hnews : ∀ (j : Nat) (u : Value), (ks.map fun x => Value.int .i64 x)[j]? = some u → (w.alloc (.cells #[] 3)).cell? (ad.add j) = some u := by
      intro j u hu
      have hjl := (List.getElem?_eq_some_iff.1 hu).1
      rw [List.length_map] at hjl
      obtain ⟨b, off, hA, hb, hj⟩ := hr (by omega)
      cases hA
      rw [add_plain]
      refine (((Below.refl w.heap.size w).alloc (Nat.le_refl _) (.cells #[] 3)).cell (p := ⟨b, off + j, none⟩) hb).trans ?_
      obtain ⟨cs, _, rfl, h3⟩ := hj j _ (List.getElem?_eq_getElem hjl)
      have := h3 0 _ rfl
      rw [Nat.mul_one, Nat.add_zero] at this
      rw [List.getElem?_map, List.getElem?_eq_getElem hjl] at hu
      cases hu
      exact this
    have hlen : (ks.map fun x => Value.int .i64 x).length = ks.length := by simp
    have h1 : ∀ u ∈ (ks.map fun x => Value.int .i64 x), u.oneCell' = true := by
      intro u hu
      obtain ⟨p, _, rfl⟩ := List.mem_map.1 hu
      rfl
    obtain ⟨n, hn⟩ : ∃ n, ks.length = n := ⟨_, rfl⟩
    rw [hn] at hlen hl hc ⊢
    obtain ⟨F, hF⟩ : ∃ F, (ks.map fun x => Value.int .i64 x) = F := ⟨_, rfl⟩
    have HF := Lib.hid hF
    have HNN := Lib.hid hn
    rw [hF] at hlen hnews h1
    have HN := Lib.hid (And.intro hnews (And.intro h1 hlen))
    clear hr hn hF hnews h1 hlen hc
    have hnn : (binOp BinOp.eql 22 (Value.slice (some ad) n cap) (Value.slice none 0 0)).run Try.prog w = .ok (.bool false) w := by kernel_rfl
    go_enter Try.func53, Try.ntmps53
    go_wp2_with (at_builtin; (refine wpList_append_own _ rfl (.tmp 5) (.tmp 6) 22 rfl w.heap.size 3 i0 _ 1 8 Try.underlying22 hi hz0 hz1 hz2 rfl (by decide) _ 0 _ rfl (own_empty w 3) ad n cap _ rfl (by rw [HN.out.2.2, Nat.mul_one]) HN.out.1 HN.out.2.1 (by unfold maxLen; omega) (by omega) (by simp) ?_))
    intro v' w' hown hg _
    have HO := Lib.hid (And.intro hown hg)
    clear hown hg
    go_wp2_with fail
    go_ret
    refine ⟨_, rfl, ?_, ((Below.refl _ w).alloc (Nat.le_refl _) _).grown HO.out.2 (by simp) (fun k e => by simp [Value.ownBlock] at e; omega)⟩
    have := HO.out.1
    rw [← HF.out, ← HNN.out] at this
    exact own_rows this

theorem LexAt.orders {w : World} {p : Nat} {ws : List Wd} {cs : List Nat} (h : LexAt w p ws cs) : ∃ v3 v4 : Value, w.cell? ⟨p, 2, none⟩ = some v3 ∧ w.cell? ⟨p, 3, none⟩ = some v4 ∧ Rows 1 EInt w v3 (intsN (ordK (kyL ws) ws.length)) ∧ Rows 1 EInt w v4 (intsN (ordC (fun i => cs.getD i 0) cs.length)) := by
  obtain ⟨v1, v2, v3, v4, h0, _, _, h3, h4⟩ := h.mem
  exact ⟨v3, v4, cell_of h0 rfl, cell_of h0 rfl, h3, h4⟩

set_option maxRecDepth 100000 in
set_option maxHeartbeats 1000000 in
theorem byReverse_any {w : World} {p : Nat} {ws : List Wd} {cs : List Nat} (h : LexAt w p ws cs) : Calls Try.prog 25 #[.pointer (some ⟨p, 0, none⟩)] w (NumV w (ordK (kyL ws) ws.length)) := by
  obtain ⟨v3, v4, c3, _, h3, _⟩ := h.orders
  have hfew := h.ok.few
  have HC := Lib.hid (cloneI_any h3 (by rw [List.length_map, ordK_len]; omega))
  obtain ⟨A, cap, rfl, -⟩ := h3.form
  obtain ⟨n, hn⟩ : ∃ n, (intsN (ordK (kyL ws) ws.length)).length = n := ⟨_, rfl⟩
  rw [hn] at c3 HC
  clear h3 h hn
  go_enter Try.func25, Try.ntmps25
  go_wp2_with (go_at_call 53; refine HC.out.mono ?_; rintro e w2 ⟨v', rfl, hr, hb⟩)
  have HE := Lib.hid (show NumV w (ordK (kyL ws) ws.length) (.returned v') w2 from ⟨v', rfl, hr, hb⟩)
  clear hr hb
  go_ret
  exact HE.out
/-- append of one number to a row of the call's own. -/
theorem wpList_pushI {w : World} {ops : Array Oper} {rest : List Oper} {o : Oper} {a : Act} {Q : Exit → Act → World → Prop} (hgd : o.guard = none) (s x : Operand)
    (ho : o.op = .call { callee := .builtin .append, args := #[s, x], argTypes := #[22, 22] })
    (base : Nat) (v : Value) (n : Nat) (l : List Value) (p : Int) (hs : a.eval s = v) (hx : a.eval x = .slice (some ⟨w.heap.size, 0, none⟩) 1 1)
    (hown : w.ownsRow base 3 1 v n l) (hn : n ≤ 1000000) (hbase : base ≤ w.heap.size)
    (h : ∀ v' w', Hid (w'.ownsRow base 3 1 v' (n + 1) (l ++ [.int .i64 p])) → Hid (∀ B W, Below B W w → B ≤ base → Below B W w') → wpList Try.prog ops Q rest (a.put o.dst v') w') :
    wpList Try.prog ops Q (o :: rest) a (w.alloc (.cells #[.int .i64 p] 3)) := by
  obtain ⟨i0, hi, hz0, hz1, hz2⟩ := info_parts' Try.infoInt2
  refine wpList_append_own _ hgd s x 22 ho base 3 i0 _ 1 8 Try.underlying22 hi hz0 hz1 hz2 rfl (by decide) v n _ hs (hown.alloc _) _ 1 1 [.int .i64 p] hx rfl (news_at w [.int .i64 p] 3) (by simp [Value.oneCell']) (by unfold maxLen; omega) (by omega) (by simp; omega) ?_
  intro v' w' h1 h2 _
  have hlow := own_low hown
  refine h v' w' (Lib.hid h1) (Lib.hid fun B W hb hB => ?_)
  exact (hb.alloc (Nat.le_trans hB hbase) _).grown h2 (by simp; omega) (fun k e => Nat.le_trans hB (hlow k e).1)

def hasS (s w : Wd) : Bool := s.isSuffixOf w
/-- The numbers of the words with a suffix, out of an order. -/
def sufL (ws : List Wd) (s : Wd) (l : List Nat) : List Nat := l.filter fun i => hasS s (ws.getD i [])
theorem sufL_step {ws : List Wd} {s : Wd} {l : List Nat} {k i : Nat} {x : Wd} (hk : l[k]? = some i) (hx : ws[i]? = some x) : sufL ws s (l.take (k + 1)) = sufL ws s (l.take k) ++ if hasS s x then [i] else [] := by
  unfold sufL
  rw [List.take_add_one, hk, List.filter_append]
  congr 1
  simp only [Option.toList_some, List.filter_cons, List.filter_nil]
  rw [List.getD_eq_getElem?_getD, hx]
  rfl
theorem sufL_len (ws : List Wd) (s : Wd) (l : List Nat) : (sufL ws s l).length ≤ l.length := List.length_filter_le _ _
/-- A row of numbers of the call's own, under way. -/
structure OwnN (w wr : World) (N : Nat) (v : Value) (l : List Nat) : Prop where
  own : wr.ownsRow N 3 1 v l.length ((intsN l).map fun x => Value.int .i64 x)
  below : Below w.heap.size w wr
theorem OwnN.rows {w wr : World} {N : Nat} {v : Value} {l : List Nat} (h : OwnN w wr N v l) : Rows 1 EInt wr v (intsN l) := by
  have := h.own
  rw [show l.length = (intsN l).length by simp] at this
  exact own_rows this

set_option maxRecDepth 100000 in
set_option maxHeartbeats 4000000 in
theorem suffix_any {w : World} {p : Nat} {ws : List Wd} {cs : List Nat} (h : LexAt w p ws cs) (s : Wd) : Calls Try.prog 26 #[.pointer (some ⟨p, 0, none⟩), .string ⟨s.toArray⟩] w (NumV w (sufL ws s (ordK (kyL ws) ws.length))) := by
  have hfew := h.ok.few
  have HSZ := Lib.hid (fun x hx => (h.ok.val x hx).1)
  have HL := Lib.hid (fun W (hb : Below w.heap.size w W) => h.below hb)
  obtain ⟨v3, v4, c3, _, h3, _⟩ := h.orders
  obtain ⟨A1, cap1, c1, h1⟩ := h.words
  have hpl := h.lt
  obtain ⟨O, hO⟩ : ∃ O, ordK (kyL ws) ws.length = O := ⟨_, rfl⟩
  have hOl : O.length = ws.length := by rw [← hO, ordK_len]
  have hOm : ∀ x ∈ O, x < ws.length := fun x hx => by rw [← hO] at hx; exact (ordK_mem _ _ _).1 hx
  rw [hO] at h3 ⊢
  obtain ⟨n, hcn⟩ : ∃ n, ws.length = n := ⟨_, rfl⟩
  rw [hcn] at hfew c1 h1 hOl hOm
  obtain ⟨A, cap, rfl, -⟩ := h3.form
  have hil : (intsN O).length = n := by rw [List.length_map, hOl]
  rw [hil] at c3 h3
  have HB3 := Lib.hid (fun W (hb : Below w.heap.size w W) => And.intro ((hb.cell (p := ⟨p, 0, none⟩) hpl).trans c1) (And.intro (h3.below stays_int hb) (h1.below stays_str hb)))
  have HOL := Lib.hid hOl
  have HOM := Lib.hid hOm
  have HCN := Lib.hid hcn
  obtain ⟨N, hN⟩ : ∃ N, w.heap.size = N := ⟨_, rfl⟩
  have HN := Lib.hid hN
  obtain ⟨S, hS⟩ : ∃ S : ByteArray, (⟨s.toArray⟩ : ByteArray) = S := ⟨_, rfl⟩
  have HS := Lib.hid (show S.data.toList = s by rw [← hS])
  have HST0 := Lib.hid (show OwnN w w N (.slice none 0 0) (sufL ws s (O.take 0)) from ⟨World.ownsRow_nil _ _ _ _, Below.refl _ _⟩)
  rw [hS]
  clear h h3 h1 c1 hOl hOm hcn hN hS hO hil hpl
  go_enter Try.func26, Try.ntmps26
  go_wp2_with fail
  go_loopw [5, 13] (fun av sv wr => ∃ (k : Nat) (v : Value), k ≤ n ∧ v = av ∧ sv = .int .i64 k ∧ Hid (OwnN w wr N v (sufL ws s (O.take k)))) (fun _ sv _ => n - (Go.RowKit.intOf sv).toNat)
  case atStart => exact ⟨0, _, Nat.zero_le _, rfl, rfl, HST0⟩
  case round =>
    clear HST0 c3
    obtain ⟨k, v, hkn, rfl, rfl, HR⟩ := hrel
    by_cases hlt : k < n
    · have hlti : (k : Int) < (n : Int) := by omega
      obtain ⟨i, hi⟩ : ∃ i, O[k]? = some i := ⟨_, List.getElem?_eq_getElem (by rw [HOL.out]; exact hlt)⟩
      have hin : i < n := HOM.out i (List.mem_of_getElem? hi)
      obtain ⟨x, hx⟩ : ∃ x, ws[i]? = some x := ⟨_, List.getElem?_eq_getElem (by rw [HCN.out]; exact hin)⟩
      obtain ⟨cc, hro, hrw⟩ := HB3.out wr HR.out.below
      obtain ⟨b1, o1, rfl, -, hj1⟩ := at_int hro (by rw [List.length_map, HOL.out]; omega)
      obtain ⟨b2, o2, rfl, -, hj2⟩ := at_str hrw (by rw [HCN.out]; omega)
      have u0 := hj1 k (i : Int) (by rw [List.getElem?_map, hi]; rfl)
      have u1 := hj2 i x hx
      have hii : (i : Int) < (n : Int) := by omega
      have hstep := sufL_step (s := s) hi hx
      obtain ⟨T, hT⟩ : ∃ T : ByteArray, (⟨x.toArray⟩ : ByteArray) = T := ⟨_, rfl⟩
      have hTs : T.size ≤ 9223372036854775807 := by
        have := HSZ.out x (List.mem_of_getElem? hx)
        rw [← hT]
        show x.toArray.size ≤ _
        simp only [List.size_toArray]
        omega
      have hcon := Try.strings_HasSuffix T S wr hTs
      have e1 : Lib.hasSuffix T.data.toList S.data.toList = hasS s x := by rw [HS.out, ← hT]; rfl
      rw [e1] at hcon
      rw [hT] at u1
      obtain ⟨q, hq⟩ : ∃ q, hasS s x = q := ⟨_, rfl⟩
      rw [hq] at hcon hstep
      have HCON := Lib.hid hcon
      have HST := Lib.hid hstep
      have hal : (sufL ws s (O.take k)).length ≤ 1000000 := Nat.le_trans (sufL_len _ _ _) (by simp; omega)
      obtain ⟨acc, hacc⟩ : ∃ acc, sufL ws s (O.take k) = acc := ⟨_, rfl⟩
      rw [hacc] at HR HST hal
      have HNB := Lib.hid (show N ≤ wr.heap.size by rw [← HN.out]; exact HR.out.below.size)
      obtain ⟨ln, hln⟩ : ∃ ln, acc.length = ln := ⟨_, rfl⟩
      have hown := HR.out.own
      rw [hln] at hown hal
      have HOWN := Lib.hid hown
      have HLN := Lib.hid hln
      have HBB := Lib.hid HR.out.below
      clear hcon hstep hj1 hj2 hro hrw hi hx hT e1 hq hTs hacc HR hown hln
      cases q with
      | true =>
        go_wp2_with (first
          | (go_at_call 54; refine HCON.out.mono ?_; rintro e w3 ⟨rfl, rfl⟩)
          | (at_builtin; refine wpList_pushI rfl (.tmp 26) (.tmp 28) rfl N v ln _ (i : Int) rfl rfl HOWN.out hal HNB.out ?_; intro v' w4 ho hg))
        have HNX := Lib.hid (show OwnN w w4 N v' (sufL ws s (O.take (k + 1))) from ⟨by
          have := ho.out
          rw [HST.out]
          simpa [HLN.out] using this, hg.out _ _ HBB.out (by rw [HN.out]; exact Nat.le_refl _)⟩)
        clear ho hg
        go_wp2_with fail
        exact ⟨⟨k + 1, v', by omega, rfl, by go_num, HNX⟩, by simp only [Go.RowKit.intOf]; omega⟩
      | false =>
        have HNX := Lib.hid (show OwnN w wr N v (sufL ws s (O.take (k + 1))) from ⟨by
          have := HOWN.out
          rw [HST.out]
          simpa [HLN.out] using this, HBB.out⟩)
        go_wp2_with (first
          | (go_at_call 54; refine HCON.out.mono ?_; rintro e w3 ⟨rfl, rfl⟩))
        exact ⟨⟨k + 1, v, by omega, rfl, by go_num, HNX⟩, by simp only [Go.RowKit.intOf]; omega⟩
    · obtain rfl : k = n := by omega
      have hlti : ¬ (k : Int) < (k : Int) := by omega
      have hfull : O.take k = O := List.take_of_length_le (by rw [HOL.out]; exact Nat.le_refl _)
      rw [hfull] at HR
      have HE := Lib.hid (show NumV w (sufL ws s O) (.returned v) wr from ⟨v, rfl, HR.out.rows, HR.out.below⟩)
      clear HR hfull
      go_wp2_with fail
      go_ret
      exact HE.out
end Go.Proofs.Yteennnhinfnahaa
