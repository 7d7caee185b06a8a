/-
  WALK over the laws' helper own of treelabel: labels copied to a row of the call's own.
-/
import Derived.Test.YtjialelklnjcfaaEdC
namespace Go.Proofs.Ytjialelklnjcfaa
open Go Go.RowKit Go.Shelf Go.Lib
set_option linter.unusedVariables false
set_option linter.unusedSimpArgs false

/-- append of one label to a row of the call's own. -/
theorem wpList_pushL {w : World} {ops : Array Oper} {rest : List Oper} {o : Oper} {a : Act} {Q : Exit → Act → World → Prop} (hgd : o.guard = none) (s x : Operand)
    (ho : o.op = .call { callee := .builtin .append, args := #[s, x], argTypes := #[27, 27] })
    (base : Nat) (v : Value) (n : Nat) (l : List Value) (p1 p2 p3 : Int) (hs : a.eval s = v) (hx : a.eval x = .slice (some ⟨w.heap.size, 0, none⟩) 1 1)
    (hown : w.ownsRow base 43 3 v n l) (hn : n ≤ 1000000) (hbase : base ≤ w.heap.size)
    (h : ∀ v' w', Hid (w'.ownsRow base 43 3 v' (n + 1) (l ++ [.int .i64 p1, .int .i64 p2, .int .i64 p3])) → Hid (∀ B W, Below B W w → B ≤ base → Below B W w') → Hid (∀ k, k < w.heap.size → v.ownBlock ≠ some k → w'.heap[k]? = w.heap[k]?) → wpList Try.prog ops Q rest (a.put o.dst v') w') :
    wpList Try.prog ops Q (o :: rest) a (w.alloc (.cells #[.int .i64 p1, .int .i64 p2, .int .i64 p3] 43)) := by
  obtain ⟨i0, hi, hz0, hz1, hz2⟩ := info_parts' Try.infoLabel10
  refine wpList_append_own _ hgd s x 27 ho base 43 i0 _ 3 24 Try.underlying27 hi hz0 hz1 hz2 rfl (by decide) v n _ hs (hown.alloc _) _ 1 1 [.int .i64 p1, .int .i64 p2, .int .i64 p3] hx rfl (news_at w [.int .i64 p1, .int .i64 p2, .int .i64 p3] 43) (by simp [Value.oneCell']) (by unfold maxLen; omega) (by omega) (by simp; omega) ?_
  intro v' w' h1 h2 _
  have hlow := own_low hown
  refine h v' w' (Lib.hid h1) (Lib.hid fun B W hb hB => ?_) (Lib.hid fun k hk hne => ?_)
  · exact (hb.alloc (Nat.le_trans hB hbase) _).grown h2 (by simp; omega) (fun k e => Nat.le_trans hB (hlow k e).1)
  · rw [h2.block k (by simp; omega) (fun e => hne e.symm)]
    exact heap_alloc_old w _ hk
theorem own_lab {w : World} {base : Nat} {v : Value} {L : List Lb} (h : w.ownsRow base 43 3 v L.length (L.flatMap lbV)) : Rows 3 ELb w v L := rows_of_own (enc := lbV) lbV_len h
set_option maxRecDepth 100000 in
set_option maxHeartbeats 8000000 in
theorem own_any {w : World} {v : Value} {L : List Lb} (hv : Rows 3 ELb w v L) (hl : L.length ≤ 4096) :
    Calls Try.prog 17 #[v] w fun e w' => (∃ vr, e = .returned vr ∧ Rows 3 ELb w' vr L) ∧ Below w.heap.size w w' := by
  have HV := Lib.hid (fun W (hb : Below w.heap.size w W) => hv.below stays_lb hb)
  obtain ⟨A, cap, rfl, hc⟩ := hv.form
  obtain ⟨n, hn⟩ : ∃ n, L.length = n := ⟨_, rfl⟩
  rw [hn] at hc HV hl ⊢
  have HN := Lib.hid hn
  obtain ⟨N0, hN0⟩ : ∃ N, w.heap.size = N := ⟨_, rfl⟩
  rw [hN0] at HV ⊢
  have HN0 := Lib.hid hN0
  clear hv hn hN0
  go_enter Try.func17, Try.ntmps17
  go_wp2_with fail
  go_loopw [3, 8] (fun lv kv wr => ∃ i : Nat, i ≤ n ∧ kv = .int .i64 i ∧ Hid (wr.ownsRow N0 43 3 lv i ((L.take i).flatMap lbV)) ∧ Hid (Below N0 w wr)) (fun _ kv _ => n - (Go.RowKit.intOf kv).toNat)
  case atStart => exact ⟨0, Nat.zero_le _, rfl, Lib.hid (World.ownsRow_nil _ _ _ 3), Lib.hid (Below.refl _ _)⟩
  case round =>
    obtain ⟨i, hi, rfl, HO, HB⟩ := hrel
    by_cases hlt : i < n
    · have hii : (i : Int) < (n : Int) := by omega
      obtain ⟨a, ha⟩ : ∃ a, L[i]? = some a := ⟨_, List.getElem?_eq_getElem (by rw [HN.out]; exact hlt)⟩
      obtain ⟨x1, x2, x3⟩ := a
      obtain ⟨bl, ol, rfl, hbl, hcel⟩ := at_lb (HV.out wr HB.out) (by rw [HN.out]; omega)
      obtain ⟨c1, c2, c3⟩ := hcel i _ ha
      simp only at c1 c2 c3
      obtain ⟨WB, hWB⟩ : ∃ X, wr.alloc (.cells #[.int .i64 x1, .int .i64 x2, .int .i64 x3] 41) = X := ⟨_, rfl⟩
      obtain ⟨Nx, hNx⟩ : ∃ N, wr.heap.size = N := ⟨_, rfl⟩
      have hbx : WB.heap[Nx]? = some (.cells #[.int .i64 x1, .int .i64 x2, .int .i64 x3] 41 (0, 0)) := by rw [← hWB, ← hNx]; exact block_new _ _
      have hN0x : N0 ≤ Nx := by rw [← hNx, ← HN0.out]; exact HB.out.size
      have hsz : WB.heap.size = Nx + 1 := by rw [← hWB, alloc_sz, hNx]
      have hbW : Below Nx wr WB := by rw [← hWB, ← hNx]; exact below_box _ _
      have c4 := cell_of (i := 0) hbx rfl
      have c5 := cell_of (i := 1) hbx rfl
      have c6 := cell_of (i := 2) hbx rfl
      have hst : (L.take (i + 1)).flatMap lbV = (L.take i).flatMap lbV ++ [.int .i64 x1, .int .i64 x2, .int .i64 x3] := by
        rw [List.take_add_one, ha, Option.toList_some, List.flatMap_append]
        rfl
      have HST := Lib.hid hst
      have HBEL := Lib.hid (HB.out.trans (hbW.mono hN0x))
      have HOWN := Lib.hid (show WB.ownsRow N0 43 3 _ i ((L.take i).flatMap lbV) by rw [← hWB]; exact HO.out.alloc _)
      have hsz0 : N0 ≤ WB.heap.size := by omega
      have hi6 : i ≤ 1000000 := by omega
      have HWB := Lib.hid hWB
      have HNx := Lib.hid hNx
      clear hWB hNx hbx hN0x hsz hbW hst hcel ha HO HB
      go_upto_region 5 with fail
      rw [HWB.out, HNx.out]
      clear c1 c2 c3
      go_wp2_with (at_builtin; refine wpList_pushL rfl (.tmp 12) (.tmp 14) rfl N0 _ _ _ x1 x2 x3 rfl rfl HOWN.out hi6 hsz0 ?_; intro v' w' HO2 HB2 HK2)
      rw [← HST.out] at HO2
      have HB3 := Lib.hid (HB2.out _ _ HBEL.out (Nat.le_refl _))
      clear c4 c5 c6
      go_wp2_with fail
      exact ⟨⟨i + 1, by omega, by go_num, HO2, HB3⟩, by simp only [Go.RowKit.intOf]; omega⟩
    · obtain rfl : i = n := by omega
      have hown := HO.out
      rw [List.take_of_length_le (by rw [HN.out]; exact Nat.le_refl _)] at hown
      have hrow : Rows 3 ELb wr _ L := own_lab (base := N0) (by rw [HN.out]; exact hown)
      have HROW := Lib.hid hrow
      clear hown hrow HO
      go_wp2_with fail
      go_ret
      exact ⟨⟨_, rfl, HROW.out⟩, HB.out⟩
end Go.Proofs.Ytjialelklnjcfaa
