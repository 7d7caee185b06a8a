/-
  WALKS over package corpus: SortRegions.
-/
import Derived.Test.YtfcnihmfmbmmjaaGreatQxB
namespace Go.Proofs.YtfcnihmfmbmmjaaGreat
open Go.RowKit Go.Shelf Go.Lib
set_option linter.unusedVariables false
attribute [local go_sem ↓] Go.wp_at_zero Go.wp_at_succ

/-- A list of regions in new memory. -/
def SrtV (w : World) (ys : List Ex) (e : Ending) (w' : World) : Prop := ∃ (A : Option Addr) (c : Nat), e = .returned (.slice A ys.length c) ∧ Rows 4 EEx w' (.slice A ys.length c) ys ∧ Below w.heap.size w w'

set_option maxRecDepth 400000 in
set_option maxHeartbeats 4000000 in
theorem clone_pairB {w : World} {v : Value} {xs : List (Bs × Bs)} (hv : Rows 2 EPair w v xs) (hl : xs.length ≤ 400000) :
    Calls Tryz.prog 36 #[v] w (ClV 77 2 EPair w xs) := by
  obtain ⟨A, cap, rfl, hc⟩ := hv.form
  have he : ∀ x : Bs × Bs, (encQ x).length = 2 := fun _ => rfl
  have hE : ∀ (w : World) (x : Bs × Bs), EPair w (encQ x) x := fun _ _ => rfl
  unfold ClV
  cases A with
  | none =>
    have h0 : xs = [] := by
      by_cases h : 0 < xs.length
      · obtain ⟨b, off, hA, _⟩ := hv.at' h
        cases hA
      · exact List.length_eq_zero_iff.1 (by omega)
    subst h0
    refine (AnyE.slices_Clone_nil Tryz.laysClone 0 cap w).mono ?_
    rintro e w' ⟨rfl, rfl⟩
    exact ⟨none, 0, rfl, own_enc he hE (World.ownsRow_nil _ _ _ _), Below.refl _ _⟩
  | some ad =>
    obtain ⟨i0, hi, hz0, hz1, hz2⟩ := info_parts' Tryz.infoC_pair
    have hnews : ∀ (j : Nat) (u : Value), (xs.flatMap encQ)[j]? = some u → (w.alloc (.cells #[] 77)).cell? (ad.add j) = some u := by
      intro j u hu
      have h0 : 0 < xs.length := by
        have := (List.getElem?_eq_some_iff.1 hu).1
        rw [flatM_len he] at this
        omega
      obtain ⟨b, off, hA, hb, hj⟩ := hv.at' h0
      cases hA
      rw [add_plain]
      have := flatE_get he (by decide) hj j u hu
      exact (((Below.refl w.heap.size w).alloc (Nat.le_refl _) (.cells #[] 77)).cell (p := ⟨b, off + j, none⟩) hb).trans this
    have hlen := flatM_len he xs
    have h1 : ∀ u ∈ xs.flatMap encQ, u.oneCell' = true := by
      intro u hu
      obtain ⟨p, _, hp⟩ := List.mem_flatMap.1 hu
      simp [encQ] at hp
      first | (subst hp; rfl) | (rcases hp with rfl | rfl <;> rfl)
    have hback := fun (w' : World) (v' : Value) (h : w'.ownsRow w.heap.size 77 2 v' xs.length (xs.flatMap encQ)) => own_enc (E := EPair) he hE h
    have HBK := Lib.hid hback
    obtain ⟨n, hn⟩ : ∃ n, xs.length = n := ⟨_, rfl⟩
    rw [hn] at hlen hl hc HBK ⊢
    obtain ⟨F, hF⟩ : ∃ F, xs.flatMap encQ = F := ⟨_, rfl⟩
    rw [hF] at hlen hnews h1 HBK
    have HN := Lib.hid (And.intro hnews (And.intro h1 hlen))
    clear hn hF hnews h1 hlen hc hv hback he hE
    have hnn : (binOp BinOp.eql 63 (Value.slice (some ad) n cap) (Value.slice none 0 0)).run Tryz.prog w = .ok (.bool false) w := by kernel_rfl
    go_enter Tryz.func36, Tryz.ntmps36
    go_wp2_with (at_builtin; (refine wpList_append_own _ rfl (.tmp 5) (.tmp 6) 63 rfl w.heap.size 77 i0 _ 2 32 Tryz.underlying63 hi hz0 hz1 hz2 rfl (by decide) _ 0 _ rfl (own_emptyS w 77 2) ad n cap _ rfl HN.out.2.2 HN.out.1 HN.out.2.1 (by unfold maxLen; omega) (by omega) (by simp) ?_))
    intro v' w' hown hg _
    try simp only [Nat.zero_add, List.nil_append] at hown
    obtain ⟨A', c', rfl, -⟩ := own_form hown
    have HO := Lib.hid (And.intro hown hg)
    clear hown hg
    go_wp2_with fail
    go_ret
    exact ⟨_, _, rfl, HBK.out _ _ HO.out.1, ((Below.refl _ w).alloc (Nat.le_refl _) _).grown HO.out.2 (by simp) (fun k e => by simp [Value.ownBlock] at e; omega)⟩


set_option maxRecDepth 100000 in
set_option maxHeartbeats 8000000 in
theorem sortRegions_any {w : World} {v : Value} {l : List Ex} (hv : Rows 4 EEx w v l) (hl : l.length ≤ 10000) (hk : ∀ x ∈ l, x.ps.length ≤ 400000) :
    Calls Tryz.prog 16 #[v] w (SrtV w (sortR l)) := by
  obtain ⟨A, cap, rfl, hc⟩ := hv.form
  obtain ⟨n, hn⟩ : ∃ n, l.length = n := ⟨_, rfl⟩
  have HV := Lib.hid (fun W (h : Below w.heap.size w W) => hv.below stays_ex h)
  obtain ⟨i0, hi, hz0, hz1, hz2⟩ := info_parts' Tryz.infoE_reg
  rw [hn] at hc hl HV ⊢
  obtain ⟨cur0, hcur⟩ : ∃ cur0 : Array Value, madeCells (Value.cells ((.agg #[.string ⟨#[]⟩, .int .i64 0, .int .i64 0, .slice none 0 0]))) (n * 4) = cur0 := ⟨_, rfl⟩
  have hcs : cur0.size = n * 4 := by rw [← hcur, size_madeCells]
  have hmk : ∀ W : World, (Instr.makeSlice 25 (.int .i64 0) (.int .i64 n)).run Tryz.prog W = .ok (.slice (some ⟨W.heap.size, 0, none⟩) 0 n) (W.alloc (.cells cur0 67)) := fun W => by
    have h := run_make (P := Tryz.prog) W 25 67 i0 _ Tryz.underlying25 hi hz0 .i64 .i64 0 (n : Int) (Int.le_refl _) (by omega) (by rw [hz2]; omega) (by omega)
    simp only [Int.toNat_zero, Int.toNat_natCast, hz1] at h
    rw [hcur] at h
    exact h
  obtain ⟨M, hM⟩ : ∃ M, w.heap.size = M := ⟨_, rfl⟩
  have hch : ∀ W : World, W.heap.size = M → ChgAt M 67 4 n EEx (W.alloc (.cells cur0 67)) ([] : List Ex) := fun W h => by rw [← h]; exact chg_new W cur0 hcs
  have HN := Lib.hid hn
  have HM := Lib.hid hM
  have HCH := Lib.hid hch
  have HKK := Lib.hid hk
  clear hn hv hi hz0 hz1 hz2 hcur hcs hM hch hk
  go_enter Tryz.func16, Tryz.ntmps16
  go_wp2_with fail
  rw [HM.out]
  go_loopw [3, 13] (fun v3 i wr => ∃ k : Nat, k ≤ n ∧ i = .int .i64 k ∧ v3 = .slice (some ⟨M, 0, none⟩) k n ∧ Hid (ChgAt M 67 4 n EEx wr (sortR (l.take k))) ∧ Hid (Below M w wr)) (fun _ i _ => n - (Go.RowKit.intOf i).toNat)
  case atStart => exact ⟨0, Nat.zero_le _, rfl, rfl, Lib.hid (HCH.out _ HM.out), Lib.hid (by rw [← HM.out]; exact below_box w _)⟩
  case round =>
    clear HCH hmk
    obtain ⟨k, hk, rfl, rfl, hs, hb⟩ := hrel
    by_cases hlt : k < n
    · have hb0 := hb.out
      rw [← HM.out] at hb0
      obtain ⟨x, hx⟩ : ∃ x, l[k]? = some x := ⟨_, List.getElem?_eq_getElem (by rw [HN.out]; omega)⟩
      obtain ⟨bk, off, rfl, hbl, hj⟩ := at_ex (HV.out wr hb0) (by rw [HN.out]; omega)
      obtain ⟨u, ru, u0, u1, u2, u3⟩ := hj k x hx
      have hMs : M < wr.heap.size := by
        obtain ⟨_, _, _, hg, _⟩ := hs.out
        exact (Array.getElem?_eq_some_iff.1 hg).1
      have hlen : (sortR (l.take k)).length = k := sortR_len l k (by rw [HN.out]; exact hk)
      obtain ⟨Au, pu, rfl, -⟩ := ru.form
      obtain ⟨N1, hN1⟩ : ∃ N, wr.heap.size = N := ⟨_, rfl⟩
      obtain ⟨P, hP⟩ : ∃ s : ByteArray, (⟨x.name.toArray⟩ : ByteArray) = s := ⟨_, rfl⟩
      obtain ⟨nu, hnu⟩ : ∃ n, x.ps.length = n := ⟨_, rfl⟩
      obtain ⟨xb, hxb⟩ : ∃ z, x.b = z := ⟨_, rfl⟩
      obtain ⟨xe, hxe⟩ : ∃ z, x.e = z := ⟨_, rfl⟩
      rw [hP] at u0
      rw [hxb] at u1
      rw [hxe] at u2
      rw [hnu] at u3
      obtain ⟨X1, hX1⟩ : ∃ X1, wr.alloc (.cells #[.string P, .int .i64 xb, .int .i64 xe, .slice Au nu pu] 67) = X1 := ⟨_, rfl⟩
      have hbX1 : Below wr.heap.size wr X1 := by rw [← hX1]; exact below_box wr _
      have hX1s : X1.heap.size = N1 + 1 := by rw [← hX1, alloc_sz, hN1]
      have q1 : X1.heap[N1]? = some (.cells #[.string P, .int .i64 xb, .int .i64 xe, .slice Au nu pu] 67 (0, 0)) := by rw [← hX1, ← hN1]; exact block_new wr _
      have hchX := hs.out.kept ((kept_below M hbX1))
      have hown := hchX.own (by rw [hlen]; exact hk) (by unfold maxLen; omega)
      have hbs := bsearch_same (x := x) hown.rows (by rw [hlen]; omega) (ru.below stays_pair hbX1) (by have := HKK.out x (List.mem_of_getElem? hx); unfold maxLen; omega) (fun y hy => by have := HKK.out y (sortR_mem k hy); unfold maxLen; omega) (sorted_low (sortR_sorted l k) x)
      obtain ⟨at0, hat⟩ : ∃ z, cntL (fun y => decide (cmpR y x < 0)) (sortR (l.take k)) = z := ⟨_, rfl⟩
      have hatle : at0 ≤ (sortR (l.take k)).length := by rw [← hat]; unfold cntL; exact (List.takeWhile_sublist _).length_le
      have hins := cntL_low (x := x) (sortR_sorted l k)
      rw [hat, ← sortR_take hx] at hins
      rw [hat, hlen, hP, hxb, hxe, hnu] at hbs
      have d0 := cell_of (i := 0) (block_new wr (.cells #[.string P, .int .i64 xb, .int .i64 xe, .slice Au nu pu] 67)) rfl
      have d1 := cell_of (i := 1) (block_new wr (.cells #[.string P, .int .i64 xb, .int .i64 xe, .slice Au nu pu] 67)) rfl
      have d2 := cell_of (i := 2) (block_new wr (.cells #[.string P, .int .i64 xb, .int .i64 xe, .slice Au nu pu] 67)) rfl
      have d3 := cell_of (i := 3) (block_new wr (.cells #[.string P, .int .i64 xb, .int .i64 xe, .slice Au nu pu] 67)) rfl
      have HBS := Lib.hid hbs
      have HX1 := Lib.hid hX1
      have HN1 := Lib.hid hN1
      have HQ1 := Lib.hid q1
      have HBX1 := Lib.hid hbX1
      have HX1S := Lib.hid hX1s
      have HINS := Lib.hid hins
      have HLEN := Lib.hid hlen
      have HMS := Lib.hid hMs
      have HRU := Lib.hid (fun W (h : Below wr.heap.size wr W) => ru.below stays_pair h)
      have HPS := Lib.hid (HKK.out x (List.mem_of_getElem? hx))
      have HPX := Lib.hid (And.intro hP (And.intro hxb (And.intro hxe hnu)))
      have HB0 := Lib.hid hb0
      clear hb0 hx hbl hj hMs hlen hN1 hX1 hbX1 hX1s q1 hchX hown hbs hat hins ru hP hxb hxe hnu
      go_wp2_with fail
      rw [HX1.out, HN1.out]
      refine HBS.out.mono ?_
      rintro e w2 ⟨hh, hb2⟩
      obtain ⟨bb, rfl⟩ := hh.out
      have hbw2 : Below wr.heap.size wr w2 := HBX1.out.trans (hb2.mono HBX1.out.size)
      have q2 := block_below HQ1.out hb2 (Array.getElem?_eq_some_iff.1 HQ1.out).1
      have e3 : w2.cell? ⟨N1, 3, none⟩ = some (.slice Au nu pu) := cell_of q2 rfl
      have hcl := clone_pairB (HRU.out w2 hbw2) HPS.out
      rw [HPX.out.2.2.2] at hcl
      have HCL := Lib.hid hcl
      have HB2 := Lib.hid hbw2
      have HQ2 := Lib.hid q2
      have HS2 := Lib.hid (show N1 < w2.heap.size from (Array.getElem?_eq_some_iff.1 q2).1)
      clear hb2 hbw2 q2 hcl u0 u1 u2 u3 d0 d1 d2 d3
      go_wp2_with fail
      refine HCL.out.mono ?_
      rintro e w3 ⟨A2, c2, he, hown3, hb3⟩
      rw [HPX.out.2.2.2] at he hown3
      subst he
      have q3 := block_below HQ2.out hb3 (Array.getElem?_eq_some_iff.1 HQ2.out).1
      have f3 : w3.cell? ⟨N1, 3, none⟩ = some (.slice Au nu pu) := cell_of q3 rfl
      have fz : w3.frozen? ⟨N1, 3, none⟩ = false := frozen_of q3
      obtain ⟨W3, hW3⟩ : ∃ W, w3.setCell ⟨N1, 3, none⟩ (.slice A2 nu c2) = W := ⟨_, rfl⟩
      have q4 := set_of (i := 3) q3 (.slice A2 nu c2)
      have g0 : (w3.setCell ⟨N1, 3, none⟩ (.slice A2 nu c2)).cell? ⟨N1, 0, none⟩ = some (.string P) := cell_of q4 rfl
      have g1 : (w3.setCell ⟨N1, 3, none⟩ (.slice A2 nu c2)).cell? ⟨N1, 1, none⟩ = some (.int .i64 xb) := cell_of q4 rfl
      have g2 : (w3.setCell ⟨N1, 3, none⟩ (.slice A2 nu c2)).cell? ⟨N1, 2, none⟩ = some (.int .i64 xe) := cell_of q4 rfl
      have g3 : (w3.setCell ⟨N1, 3, none⟩ (.slice A2 nu c2)).cell? ⟨N1, 3, none⟩ = some (.slice A2 nu c2) := cell_of q4 rfl
      have hbw3 : Below wr.heap.size wr w3 := HB2.out.trans (hb3.mono HB2.out.size)
      have hbW3 : Below wr.heap.size wr W3 := hW3 ▸ hbw3.setCell (by rw [HN1.out]; exact Nat.le_refl _) _
      have hWs : W3.heap.size = w3.heap.size := by rw [← hW3]; simp [World.setCell]
      obtain ⟨V, hVV⟩ : ∃ V, W3.alloc (.cells #[.string P, .int .i64 xb, .int .i64 xe, .slice A2 nu c2] 67) = V := ⟨_, rfl⟩
      have hbV : Below wr.heap.size wr V := hVV ▸ hbW3.trans ((below_box W3 _).mono hbW3.size)
      have hvb : V.heap[W3.heap.size]? = some (.cells #[.string P, .int .i64 xb, .int .i64 xe, .slice A2 nu c2] 67 (0, 0)) := hVV ▸ block_new W3 _
      have hchV := hs.out.kept (kept_below M hbV)
      have hkV : Kept w2.heap.size w3 V := by
        rw [← hVV, ← hW3]
        refine ⟨by rw [alloc_sz]; simp [World.setCell], fun j h1 h2 => ?_⟩
        have hj : j ≠ N1 := by have := HS2.out; omega
        exact (heap_alloc_old _ _ (by simp [World.setCell]; exact h2)).trans (Below.heap_setCell w3 ⟨N1, 3, none⟩ _ j hj)
      have hfr : Fresh (M + 1) EEx V [.string P, .int .i64 xb, .int .i64 xe, .slice A2 nu c2] x := fun W' kW => by
        refine ⟨.slice A2 nu c2, by rw [HPX.out.1, HPX.out.2.1, HPX.out.2.2.1], ?_⟩
        exact ((hown3.kept hkV).kept (kW.mono (by have := HMS.out; have := HS2.out; have := HN1.out; omega))).rows
      have hone : ∀ u ∈ [.string P, .int .i64 xb, .int .i64 xe, .slice A2 nu c2], Value.oneCell' u = true := by
        intro u hu
        simp only [List.mem_cons, List.not_mem_nil, or_false] at hu
        rcases hu with rfl | rfl | rfl | rfl <;> rfl
      have hin := insert_reg (w := V) M n at0 (sortR (l.take k)) x ⟨[.string P, .int .i64 xb, .int .i64 xe, .slice A2 nu c2], rfl⟩ hone W3.heap.size hvb (by have := HMS.out; have := hbW3.size; omega) hatle (by rw [HLEN.out]; exact hlt) (by omega) hchV hfr
      rw [HINS.out, HLEN.out] at hin
      have HIN := Lib.hid hin
      have HVV := Lib.hid hVV
      have HW3 := Lib.hid hW3
      have HWS := Lib.hid hWs
      have HBV : Hid (Below M w V) := Lib.hid (hb.out.trans (hbV.mono (by have := HMS.out; omega)))
      clear hin hVV hW3 hWs hbV hvb hchV hkV hfr hone hown3 hb3 q3 q4 hbw3 hbW3 e3
      go_wp2_with fail
      rw [HW3.out, HVV.out, ← HWS.out]
      refine HIN.out.mono ?_
      rintro e w5 ⟨he, hch5, hbl5⟩
      rw [sortR_len l (k + 1) (by rw [HN.out]; exact hlt)] at he
      subst he
      have HCH5 := Lib.hid hch5
      have HB5 := Lib.hid (hbl5 M w HBV.out (Nat.le_refl _))
      clear hch5 hbl5 f3 fz g0 g1 g2 g3
      go_wp2_with fail
      exact ⟨⟨k + 1, by omega, by go_num, rfl, HCH5, HB5⟩, by simp only [Go.RowKit.intOf]; omega⟩
    · obtain rfl : k = n := by omega
      have htk : l.take k = l := List.take_of_length_le (by rw [HN.out]; exact Nat.le_refl _)
      have hch := hs.out
      rw [htk] at hch
      have hlen : (sortR l).length = k := by have := sortR_len l k (by rw [HN.out]; exact Nat.le_refl _); rw [htk] at this; exact this
      have hrow := (hch.own (by rw [hlen]; exact Nat.le_refl _) (by unfold maxLen; omega)).rows
      have hfin : SrtV w (sortR l) (.returned (.slice (some ⟨M, 0, none⟩) k k)) wr := by
        rw [hlen] at hrow
        exact ⟨some ⟨M, 0, none⟩, k, by rw [hlen], by rw [hlen]; exact hrow, by rw [HM.out]; exact hb.out⟩
      have HF := Lib.hid hfin
      clear hfin hrow hlen hch htk hs hb
      go_wp2_with fail
      go_ret
      exact HF.out
end Go.Proofs.YtfcnihmfmbmmjaaGreat
