/-
  WALKS over package huffman: codes, Codes.
-/
import Derived.Test.YtbfnkmibbieijaaHuK
import Derived.Test.YtbfnkmibbieijaaHuE
import Derived.Laws.MakeOwn
namespace Go.Proofs.Ytbfnkmibbieijaa
open Go.RowKit Go.Shelf Go.Lib Go.Deep
set_option linter.unusedVariables false
set_option linter.unusedSimpArgs false

/-- The codes that are stored before symbol i of length n. -/
def cdL (L : List Nat) (n i : Nat) : List Nat := (List.range L.length).map fun s => if 1 ≤ L.getD s 0 ∧ (L.getD s 0 < n ∨ (L.getD s 0 = n ∧ (L.take s).count n < i)) then codeN L s else 0
/-- The codes of lengths. -/
def cdF (L : List Nat) : List Nat := (List.range L.length).map (codeN L)
theorem cdL_len (L : List Nat) (n i : Nat) : (cdL L n i).length = L.length := by simp [cdL]
theorem cdF_len (L : List Nat) : (cdF L).length = L.length := by simp [cdF]
theorem cdL_start (L : List Nat) : cdL L 1 0 = List.replicate L.length 0 := by
  apply List.ext_getElem?
  intro s
  unfold cdL
  rw [List.getElem?_map]
  by_cases h : s < L.length
  · rw [List.getElem?_range h, List.getElem?_replicate, if_pos h, Option.map_some, if_neg (by omega)]
  · rw [List.getElem?_eq_none (by simpa using h), List.getElem?_eq_none (by simpa using h)]; rfl
theorem cdL_set {L : List Nat} {n i s : Nat} (hn : 1 ≤ n) (h : (symsOf L n)[i]? = some s) : (cdL L n i).set s (firstN L n + i) = cdL L n (i + 1) := by
  obtain ⟨h1, h2⟩ := symsOf_back h
  have hs := (List.getElem?_eq_some_iff.1 h1).1
  have hg : L.getD s 0 = n := by rw [List.getD_eq_getElem?_getD, h1]; rfl
  apply List.ext_getElem?
  intro u
  rw [List.getElem?_set, cdL_len]
  unfold cdL
  rw [List.getElem?_map, List.getElem?_map]
  by_cases e : s = u
  · subst e
    rw [if_pos rfl, if_pos hs, List.getElem?_range hs, Option.map_some, if_pos ⟨by omega, .inr ⟨hg, by omega⟩⟩, codeN_at h1 hn, h2]
  · rw [if_neg e]
    by_cases hu : u < L.length
    · rw [List.getElem?_range hu, Option.map_some, Option.map_some]
      congr 1
      have hiff : (1 ≤ L.getD u 0 ∧ (L.getD u 0 < n ∨ (L.getD u 0 = n ∧ (L.take u).count n < i))) ↔ (1 ≤ L.getD u 0 ∧ (L.getD u 0 < n ∨ (L.getD u 0 = n ∧ (L.take u).count n < i + 1))) := by
        constructor
        · rintro ⟨a, b | ⟨b, c⟩⟩
          · exact ⟨a, .inl b⟩
          · exact ⟨a, .inr ⟨b, by omega⟩⟩
        · rintro ⟨a, b | ⟨b, c⟩⟩
          · exact ⟨a, .inl b⟩
          · refine ⟨a, .inr ⟨b, ?_⟩⟩
            rcases Nat.lt_or_ge ((L.take u).count n) i with q | q
            · exact q
            · exfalso
              have hun : L[u]? = some n := by rw [List.getElem?_eq_getElem hu]; congr 1; rw [← b, List.getD_eq_getElem?_getD, List.getElem?_eq_getElem hu]; rfl
              have := symsOf_get hun
              rw [show (L.take u).count n = i by omega, h] at this
              exact e (Option.some.inj this)
      by_cases c : 1 ≤ L.getD u 0 ∧ (L.getD u 0 < n ∨ (L.getD u 0 = n ∧ (L.take u).count n < i))
      · rw [if_pos c, if_pos (hiff.1 c)]
      · rw [if_neg c, if_neg (fun h => c (hiff.2 h))]
    · rw [List.getElem?_eq_none (by simpa using hu)]; rfl
theorem cdL_next (L : List Nat) (n : Nat) : cdL L n (symsOf L n).length = cdL L (n + 1) 0 := by
  unfold cdL
  apply List.map_congr_left
  intro s hs
  have hs' := List.mem_range.1 hs
  have hiff : (1 ≤ L.getD s 0 ∧ (L.getD s 0 < n ∨ (L.getD s 0 = n ∧ (L.take s).count n < (symsOf L n).length))) ↔ (1 ≤ L.getD s 0 ∧ (L.getD s 0 < n + 1 ∨ (L.getD s 0 = n + 1 ∧ (L.take s).count (n + 1) < 0))) := by
    constructor
    · rintro ⟨a, b | ⟨b, c⟩⟩
      · exact ⟨a, .inl (by omega)⟩
      · exact ⟨a, .inl (by omega)⟩
    · rintro ⟨a, b | ⟨b, c⟩⟩
      · refine ⟨a, ?_⟩
        rcases Nat.lt_or_ge (L.getD s 0) n with q | q
        · exact .inl q
        · have e : L.getD s 0 = n := by omega
          refine .inr ⟨e, ?_⟩
          rw [symsOf_len]
          refine count_lt ?_
          rw [List.getElem?_eq_getElem hs']; congr 1; rw [← e, List.getD_eq_getElem?_getD, List.getElem?_eq_getElem hs']; rfl
      · omega
  by_cases c : 1 ≤ L.getD s 0 ∧ (L.getD s 0 < n ∨ (L.getD s 0 = n ∧ (L.take s).count n < (symsOf L n).length))
  · rw [if_pos c, if_pos (hiff.1 c)]
  · rw [if_neg c, if_neg (fun h => c (hiff.2 h))]
theorem cdL_end {L : List Nat} (h : ∀ n ∈ L, n ≤ 15) : cdL L 16 0 = cdF L := by
  unfold cdL cdF
  apply List.map_congr_left
  intro s hs
  have hs' := List.mem_range.1 hs
  have h1 : L.getD s 0 ≤ 15 := h _ (by rw [List.getD_eq_getElem?_getD, List.getElem?_eq_getElem hs']; exact List.getElem_mem _)
  by_cases c : 1 ≤ L.getD s 0
  · rw [if_pos ⟨c, .inl (by omega)⟩]
  · rw [if_neg (fun h => c h.1)]
    unfold codeN
    rw [if_pos (by omega)]
theorem cdF_at {L : List Nat} {s n : Nat} (h : L[s]? = some n) : (cdF L)[s]? = some (codeN L s) := by
  unfold cdF
  rw [List.getElem?_map, List.getElem?_range (List.getElem?_eq_some_iff.1 h).1]; rfl
theorem codeN_le {L : List Nat} (hL : okLens L) (s : Nat) : codeN L s ≤ 32768 := by
  unfold codeN
  split
  · omega
  · rename_i h0
    by_cases hs : s < L.length
    · have e : L[s]? = some (L.getD s 0) := by rw [List.getD_eq_getElem?_getD, List.getElem?_eq_getElem hs]; rfl
      have h1 := hL.2.1 _ (List.mem_of_getElem? e)
      have h2 := codeN_lt e (by omega)
      rw [codeN_at e (by omega)] at h2
      have h3 := endN_le15 L h1
      have := hL.2.2
      omega
    · rw [List.getD_eq_getElem?_getD, List.getElem?_eq_none (by omega)] at h0
      exact absurd rfl h0
def EU (_ : World) (cs : List Value) (x : Nat) : Prop := cs = [.int .u64 (x : Int)]
theorem stays_u : Stays EU := fun _ _ _ _ _ h => h
theorem at_u {w : World} {A : Option Addr} {n cap : Nat} {xs : List Nat} (h : Rows 1 EU w (.slice A n cap) xs) (h0 : 0 < xs.length) :
    ∃ b off, A = some ⟨b, off, none⟩ ∧ b < w.heap.size ∧ ∀ (j : Nat) (x : Nat), xs[j]? = some x → w.cell? ⟨b, off + j, none⟩ = some (.int .u64 (x : Int)) := by
  obtain ⟨b, off, hA, hb, hj⟩ := h.at' h0
  refine ⟨b, off, hA, hb, fun j x hx => ?_⟩
  obtain ⟨cs, _, rfl, h3⟩ := hj j x hx
  have := h3 0 _ rfl
  rw [Nat.mul_one, Nat.add_zero] at this
  exact this
def rowU (l : List Nat) : Array Value := (u64V l).toArray
theorem rowU_get {l : List Nat} {i x : Nat} (h : l[i]? = some x) : (rowU l)[i]? = some (.int .u64 (x : Int)) := by
  unfold rowU u64V
  rw [List.getElem?_toArray, List.getElem?_map, h]; rfl
theorem rowU_set (l : List Nat) (i x : Nat) : (rowU l).setIfInBounds i (.int .u64 (x : Int)) = rowU (l.set i x) := by
  unfold rowU u64V
  rw [List.setIfInBounds_toArray, List.map_set]
theorem made_u (n : Nat) : madeCells #[.int .u64 0] n = rowU (List.replicate n 0) := by
  apply Array.toList_inj.1
  rw [toList_madeCells_one]
  simp [rowU, u64V]
theorem rows_u {W : World} {b n cap : Nat} {l : List Nat} {t : TypeId} {f : Nat × Nat} (hn : l.length = n) (hc : n ≤ cap) (h : W.heap[b]? = some (.cells (rowU l) t f)) : Rows 1 EU W (.slice (some ⟨b, 0, none⟩) n cap) l := by
  subst hn
  refine ⟨_, cap, rfl, hc, fun _ => ⟨b, 0, rfl, heap_lt h, fun j x hx => ⟨[.int .u64 (x : Int)], rfl, rfl, fun i u hu => ?_⟩⟩⟩
  match i, hu with
  | 0, hu =>
    cases hu
    have := cell_of (i := j) h (rowU_get hx)
    simpa using this
theorem Try.infoU64 : (Try.prog.info? 73).map (fun i => (i.zero, i.size, i.bytes)) = some (some (.int .u64 0), 1, 8) := by kernel_rfl
/-- Between two stores of codes. -/
def CdAt (w : World) (D : Nat) (L : List Nat) (n i : Nat) (wr : World) : Prop := Below w.heap.size w wr ∧ wr.heap[D]? = some (.cells (rowU (cdL L n i)) 73 (0, 0))
def CdV (w : World) (L : List Nat) (e : Ending) (w' : World) : Prop := ∃ v, e = .returned v ∧ Rows 1 EU w' v (cdF L) ∧ Below w.heap.size w w'

set_option maxRecDepth 100000 in
set_option maxHeartbeats 4000000 in
theorem codes_any {w : World} {N en : Nat} {vs : List Value} {L : List Nat} (h : BkAt w N (fsN L 15) vs en L) (hL : okLens L) :
    Calls Try.prog 112 #[.pointer (some ⟨N, 0, none⟩), .int .i64 (L.length : Nat)] w (CdV w L) := by
  obtain ⟨n, hn⟩ : ∃ n, L.length = n := ⟨_, rfl⟩
  obtain ⟨D, hD⟩ : ∃ D, w.heap.size = D := ⟨_, rfl⟩
  have hn1 : n ≤ 1024 := by rw [← hn]; exact hL.1
  obtain ⟨i1, hi1, hy0, hy1, hy2⟩ := info_parts' Try.infoU64
  have hmk : ∀ W : World, (Instr.makeSlice 108 (.int .i64 n) (.int .i64 n)).run Try.prog W = .ok (.slice (some ⟨W.heap.size, 0, none⟩) n n) (W.alloc (.cells (rowU (List.replicate n 0)) 73)) := fun W => by
    have := run_make (P := Try.prog) W 108 73 i1 _ Try.underlying108 hi1 hy0 .i64 .i64 n n (by omega) (by omega) (by rw [hy2]; omega) (by omega)
    rw [Int.toNat_natCast, hy1, Nat.mul_one] at this
    rw [← made_u]
    exact this
  obtain ⟨X, hX⟩ : ∃ X, w.alloc (.cells (rowU (List.replicate n 0)) 73) = X := ⟨_, rfl⟩
  have HST0 : Hid (CdAt w D L 1 0 X) := Lib.hid ⟨by rw [← hX]; exact below_box _ _, by rw [cdL_start, hn, ← hX, ← hD]; exact block_new _ _⟩
  have HX := Lib.hid hX
  have HD := Lib.hid hD
  have HCN := Lib.hid hn
  have HL := Lib.hid hL
  have HBK := Lib.hid (fun W (hb : Below w.heap.size w W) => h.below hb)
  rw [hn]
  clear h hL hn hD hX
  go_enter Try.func112, Try.ntmps112
  go_wp2_with fail
  rw [HX.out, HD.out]
  go_loopw [6] (fun sv wr => ∃ q : Nat, 1 ≤ q ∧ q ≤ 16 ∧ sv = .int .i64 q ∧ Hid (CdAt w D L q 0 wr)) (fun sv _ => 17 - (Go.RowKit.intOf sv).toNat)
  case atStart => exact ⟨1, Nat.le_refl _, by omega, rfl, HST0⟩
  case round =>
    clear HST0 HX hmk
    obtain ⟨q, hq1, hq16, rfl, HS⟩ := hrel
    by_cases hlt : q ≤ 15
    · have hli : (q : Int) ≤ 15 := by omega
      have hli2 : (q : Int) < 16 := by omega
      have hbk := HBK.out wr HS.out.1
      obtain ⟨vx, hvx⟩ : ∃ v, vs[q]? = some v := ⟨_, List.getElem?_eq_getElem (by rw [hbk.vl]; omega)⟩
      have hox := hbk.rows q vx hvx
      obtain ⟨Ax, capx, rfl, -⟩ := own_formI hox
      obtain ⟨m, hm⟩ : ∃ m, (symsOf L q).length = m := ⟨_, rfl⟩
      have c0 := cell_of hbk.box (book_v hbk.fl hvx)
      have HRW := Lib.hid (fun W (hb : Below w.heap.size w W) => own_int ((HBK.out W hb).rows q _ hvx))
      have HFQ := Lib.hid (fun W (hb : Below w.heap.size w W) => (show W.cell? ⟨N, q, none⟩ = some (.int .u64 ((firstN L q : Nat) : Int)) from cell_of (HBK.out W hb).box (book_f (fsN_at L hq1 hlt (Nat.le_refl _)))))
      rw [hm] at c0 HRW
      have HM := Lib.hid hm
      have hm1 : m ≤ 1024 := by rw [← hm]; have := cnt_le L q; rw [HCN.out] at this; omega
      obtain ⟨f, hf⟩ : ∃ f, firstN L q = f := ⟨_, rfl⟩
      have hfb : f ≤ 32768 := by
        rw [← hf]
        have h1 := endN_eq L hq1
        have h2 := endN_le15 L hlt
        have h3 := HL.out.2.2
        omega
      rw [hf] at HFQ
      have HF := Lib.hid hf
      have HQ1 := Lib.hid hq1
      obtain ⟨wo, rfl⟩ : ∃ wo, wo = wr := ⟨_, rfl⟩
      clear hbk hvx hox hm hf hlt hq1
      go_wp2_with fail
      clear c0
      go_loopw [22] (fun sv wr => ∃ i : Nat, i ≤ m ∧ sv = .int .i64 i ∧ Hid (CdAt w D L q i wr)) (fun sv _ => m - (Go.RowKit.intOf sv).toNat)
      case atStart => exact ⟨0, Nat.zero_le _, rfl, HS⟩
      case round =>
        clear HS
        obtain ⟨i, him, rfl, HT⟩ := hrel
        by_cases hlt2 : i < m
        · have hlti : (i : Int) < (m : Int) := by omega
          obtain ⟨s, hs⟩ : ∃ s, (symsOf L q)[i]? = some s := ⟨_, List.getElem?_eq_getElem (by rw [HM.out]; exact hlt2)⟩
          obtain ⟨b, o, rfl, -, hj⟩ := at_int (HRW.out wr HT.out.1) (by rw [List.length_map, HM.out]; omega)
          have u0 := hj i (s : Int) (by rw [List.getElem?_map, hs]; rfl)
          have k0 := HFQ.out wr HT.out.1
          have hsl : s < n := by rw [← HCN.out]; exact (List.getElem?_eq_some_iff.1 (symsOf_back hs).1).1
          have hsi : (s : Int) < (n : Int) := by omega
          obtain ⟨z, hz⟩ : ∃ z, (cdL L q i)[s]? = some z := ⟨_, List.getElem?_eq_getElem (by rw [cdL_len, HCN.out]; exact hsl)⟩
          have d0 := cell_of HT.out.2 (rowU_get hz)
          have f0 : wr.frozen? ⟨D, s, none⟩ = false := frozen_of HT.out.2
          obtain ⟨r, hr⟩ : ∃ r, f + i = r := ⟨_, rfl⟩
          have HNX : Hid (CdAt w D L q (i + 1) (wr.setCell ⟨D, s, none⟩ (.int .u64 (r : Int)))) := Lib.hid ⟨HT.out.1.setCell (p := ⟨D, s, none⟩) (by rw [HD.out]; exact Nat.le_refl _) _, by
            have h1 := cdL_set HQ1.out hs
            rw [HF.out, hr] at h1
            rw [← h1, ← rowU_set]; exact set_of HT.out.2 _⟩
          have hw2 : IntKind.u64.wrap (i : Int) = (i : Int) := by rw [show IntKind.u64.wrap (i : Int) = (i : Int) % 18446744073709551616 from rfl]; omega
          have hw3 : IntKind.u64.wrap ((f : Int) + (i : Int)) = (r : Int) := by rw [show IntKind.u64.wrap ((f : Int) + (i : Int)) = ((f : Int) + (i : Int)) % 18446744073709551616 from rfl]; omega
          clear hs hj hsl hz hr HT
          go_wp2_with fail
          exact ⟨⟨i + 1, by omega, by go_num, HNX⟩, by simp only [Go.RowKit.intOf]; omega⟩
        · obtain rfl : i = m := by omega
          have hlti : ¬ (i : Int) < (i : Int) := by omega
          have HNX : Hid (CdAt w D L (q + 1) 0 wr) := Lib.hid (by rw [CdAt, ← cdL_next, HM.out]; exact HT.out)
          clear HT
          go_wp2_with fail
          exact ⟨⟨q + 1, by omega, by omega, by go_num, HNX⟩, by simp only [Go.RowKit.intOf]; omega⟩
    · obtain rfl : q = 16 := by omega
      have HE : Hid (CdV w L (.returned (.slice (some ⟨D, 0, none⟩) n n)) wr) := Lib.hid ⟨_, rfl, by
        have h1 := HS.out.2
        rw [cdL_end HL.out.2.1] at h1
        exact rows_u (by rw [cdF_len, HCN.out]) (Nat.le_refl _) h1, HS.out.1⟩
      clear HS
      go_wp2_with fail
      go_ret
      exact HE.out

/-- What Codes answers. -/
def CodesV (w : World) (cs : List Int) (e : Ending) (w' : World) : Prop :=
  Below w.heap.size w w' ∧ ((¬ okLH cs ∧ e = .returned (.tuple #[.slice none 0 0, .int .i64 1])) ∨ (okLH cs ∧ ∃ v, e = .returned (.tuple #[v, .int .i64 0]) ∧ Rows 1 EU w' v (cdF (natLs cs))))
theorem okLH.lens {cs : List Int} (h : okLH cs) : okLens (natLs cs) := ⟨by unfold natLs; rw [List.length_map]; exact h.1, fun n hn => by
  unfold natLs at hn
  obtain ⟨c, hc, rfl⟩ := List.mem_map.1 hn
  have := h.2.1 c hc
  omega, h.2.2⟩
set_option maxRecDepth 100000 in
set_option maxHeartbeats 4000000 in
theorem codesF_any {w : World} {v : Value} {cs : List Int} (hv : Rows 1 EInt w v cs) (hlen : cs.length ≤ maxLen) :
    Calls Try.prog 87 #[v] w (CodesV w cs) := by
  have HO := Lib.hid (open_any hv hlen)
  have hnl : (natLs cs).length = cs.length := by unfold natLs; rw [List.length_map]
  obtain ⟨A, cap, rfl, hc⟩ := hv.form
  obtain ⟨n, hn⟩ : ∃ n, cs.length = n := ⟨_, rfl⟩
  rw [hn] at HO hnl ⊢
  have HNL := Lib.hid hnl
  clear hv hlen hc hn hnl
  go_enter Try.func87, Try.ntmps87
  go_wp2_with fail
  refine HO.out.mono ?_
  rintro e w2 ⟨hb, h | h⟩
  · obtain ⟨hno, rfl⟩ := h
    have HE : Hid (CodesV w cs (.returned (.tuple #[.slice none 0 0, .int .i64 1])) w2) := Lib.hid ⟨hb, .inl ⟨hno, rfl⟩⟩
    clear hb hno HO
    go_wp2_with fail
    go_ret2
    exact HE.out
  · obtain ⟨hok, vs, rfl, hbk⟩ := h
    have hcd := codes_any hbk hok.lens
    rw [HNL.out] at hcd
    have HCD := Lib.hid hcd
    have HB := Lib.hid hb
    have HOK := Lib.hid hok
    clear hb hok hbk hcd HO
    go_wp2_with fail
    refine HCD.out.mono ?_
    rintro e w3 ⟨v3, rfl, hr3, hb3⟩
    have HE : Hid (CodesV w cs (.returned (.tuple #[v3, .int .i64 0])) w3) := Lib.hid ⟨HB.out.trans (hb3.mono HB.out.size), .inr ⟨HOK.out, v3, rfl, hr3⟩⟩
    clear hr3 hb3 HCD
    go_wp2_with fail
    go_ret2
    exact HE.out
end Go.Proofs.Ytbfnkmibbieijaa
