/-
 WALKS over the reference of corpus: pairs, Value, Attributes, within, tokens.
-/
import Derived.Test.YtebmfkkkhmjkoaaGreatQcZ
import Derived.Test.YtebmfkkkhmjkoaaGreatQrA
import Derived.Test.YtebmfkkkhmjkoaaGreatQqM
namespace Go.Proofs.YtebmfkkkhmjkoaaGreat
open Go.RowKit Go.Shelf Go.Lib
set_option linter.unusedVariables false

/-- What a part's check answers: the index of the first faulty element, and the error. -/
def two (p : Nat × Nat) : Value := .tuple #[.int .i64 (p.1 : Nat), .int .i64 (p.2 : Nat)]
theorem part_whole {w : Nat} {f : Nat → Nat} {n : Nat} (h : w ≠ 0) : partE w f n = (0, w) := by unfold partE; rw [if_neg h]
theorem part_scan {f : Nat → Nat} {n : Nat} : partE 0 f n = scanE f n 0 := by unfold partE; rw [if_pos rfl]
theorem mem_take_of {α : Type} {l : List α} {k m : Nat} {y : α} (h : l[m]? = some y) (hm : m < k) : y ∈ l.take k := by
 refine List.mem_of_getElem? (i := m) ?_
 rw [List.getElem?_take, if_pos hm, h]
theorem mem_take_ex {α : Type} {l : List α} {k : Nat} {y : α} (h : y ∈ l.take k) : ∃ j, j < k ∧ l[j]? = some y := by
 obtain ⟨j, hj⟩ := List.getElem?_of_mem h
 rw [List.getElem?_take] at hj
 by_cases e : j < k
 · rw [if_pos e] at hj
   exact ⟨j, e, hj⟩
 rw [if_neg e] at hj
 cases hj
theorem toL (P : ByteArray) : P.toList = P.data.toList := by
 obtain ⟨⟨l⟩⟩ := P
 rw [Lib.toList_data]
theorem valsE_end {al : List (Bs × Bool)} {vs : Fs} {k : Nat} (h : al.length ≤ k) : valsE (al.drop k) (vs.drop k) = 0 := by
 rw [List.drop_eq_nil_of_le h]
 rfl
set_option maxRecDepth 100000 in
set_option maxHeartbeats 4000000 in
theorem refPairs_any {w : World} {v : Value} {ps : List (Bs × Bs)} (hv : Rows 2 EPair w v ps) (hl : ps.length ≤ maxLen) (hs : ∀ p ∈ ps, p.1.length ≤ maxLen ∧ p.2.length ≤ maxLen) :
 Calls Tryz.prog 122 #[v] w fun e w' => e = .returned (.int .i64 (pairsE ps : Nat)) ∧ Below w.heap.size w w' := by
 obtain ⟨A, cap, rfl, hc⟩ := hv.form
 obtain ⟨n, hn⟩ : ∃ n, ps.length = n := ⟨_, rfl⟩
 have hpe : pairsE ps = if 8 < n then 2 else pairsGo none ps := by unfold pairsE; rw [hn]
 have HV := Lib.hid (fun W (h : Below w.heap.size w W) => hv.below stays_pair h)
 rw [hn] at hc hl HV ⊢
 have HN := Lib.hid hn
 have HSZ := Lib.hid hs
 obtain ⟨r, hr⟩ : ∃ r, pairsE ps = r := ⟨_, rfl⟩
 rw [hr] at hpe ⊢
 unfold maxLen at hl
 clear hn hv hs hr
 by_cases h8 : 8 < n
 ·
  rw [if_pos h8] at hpe
  subst hpe
  go_enter Tryz.func122, Tryz.ntmps122
  go_wp2_with fail
  go_ret
  exact ⟨rfl, Below.refl _ _⟩
 rw [if_neg h8] at hpe
 have HPE : Hid (r = pairsGo (prevN ps 0) (ps.drop 0)) := Lib.hid hpe
 clear hpe
 go_enter Tryz.func122, Tryz.ntmps122
 go_wp2_with fail
 go_loopw [11] (fun i wr => ∃ k : Nat, k ≤ n ∧ i = .int .i64 k ∧ Hid (r = pairsGo (prevN ps k) (ps.drop k)) ∧ Below w.heap.size w wr) (fun i _ => n - (Go.RowKit.intOf i).toNat)
 case atStart => exact ⟨0, Nat.zero_le _, rfl, HPE, Below.refl _ _⟩
 clear HPE
 obtain ⟨k, hk, rfl, hp, hb⟩ := hrel
 by_cases hlt : k < n
 ·
  obtain ⟨x, hx⟩ : ∃ x, ps[k]? = some x := ⟨_, List.getElem?_eq_getElem (by rw [HN.out]; omega)⟩
  obtain ⟨bk, off, rfl, hbl, hj⟩ := at_pair (HV.out wr hb) (by rw [HN.out]; omega)
  obtain ⟨c0, c1⟩ := hj k x hx
  have hstep := hp.out
  rw [pairsGo_step hx] at hstep
  obtain ⟨hz1, hz2⟩ := HSZ.out x (List.mem_of_getElem? hx)
  obtain ⟨P, hP⟩ : ∃ s : ByteArray, (⟨x.1.toArray⟩ : ByteArray) = s := ⟨_, rfl⟩
  obtain ⟨Q, hQ⟩ : ∃ s : ByteArray, (⟨x.2.toArray⟩ : ByteArray) = s := ⟨_, rfl⟩
  have hPl : P.data.toList = x.1 := by rw [← hP]
  have hQl : Q.data.toList = x.2 := by rw [← hQ]
  rw [hP] at c0
  rw [hQ] at c1
  have hvn := fun W => refName_any P (by rw [Lib.size_eq, hPl]; exact hz1) W
  have hvv := fun W => refValue_max Q (by rw [Lib.size_eq, hQl]; exact hz2) W
  rw [hPl] at hvn
  rw [hQl] at hvv
  obtain ⟨a, ha⟩ : ∃ a, nameB x.1 = a := ⟨_, rfl⟩
  obtain ⟨z, hz⟩ : ∃ z, valE x.2 = z := ⟨_, rfl⟩
  rw [ha] at hvn hstep
  rw [hz] at hvv hstep
  have HVN := Lib.hid hvn
  have HVV := Lib.hid hvv
  have HB := Lib.hid hb
  have hsz := hb.size
  have hbA := below_box wr (.cells #[.string P, .string Q] 93)
  have HBA := Lib.hid (hb.trans (hbA.mono hsz))
  have hgt : (k : Int) < (n : Int) := by omega
  obtain ⟨X, hX⟩ : ∃ X, wr.alloc (.cells #[.string P, .string Q] 93) = X := ⟨_, rfl⟩
  have e0 : X.cell? ⟨wr.heap.size, 0, none⟩ = some (.string P) := by rw [← hX]; exact cell_of (block_new wr _) rfl
  have e1 : X.cell? ⟨wr.heap.size, 1, none⟩ = some (.string Q) := by rw [← hX]; exact cell_of (block_new wr _) rfl
  have hf0 : X.frozen? ⟨wr.heap.size, 0, none⟩ = false := by rw [← hX]; exact frozen_of (block_new wr _)
  rw [hX] at HBA
  have HXX := Lib.hid hX
  have HE1 := Lib.hid e1
  have HSX := Lib.hid (show wr.heap.size < X.heap.size by rw [← hX, alloc_sz]; omega)
  obtain ⟨N0, hN0⟩ : ∃ N0, wr.heap.size = N0 := ⟨_, rfl⟩
  rw [hN0] at e0 HE1 HSX hf0
  have HN0 := Lib.hid hN0
  cases a with
  | false =>
    rw [if_pos rfl] at hstep
    subst hstep
    clear hvn hvv hb hbA hj hx hP hQ ha hz hX e1 hPl hQl hN0 hsz hz1 hz2
    go_wp2_with fail
    rw [HXX.out, HN0.out]
    clear c0 c1
    go_wp2_with fail
    refine (HVN.out _).mono ?_
    rintro e w1 ⟨rfl, rfl⟩
    go_wp2_with fail
    go_ret
    exact ⟨rfl, HBA.out⟩
  | true =>
    rw [if_neg (by decide)] at hstep
    have hany : (prevN ps k).any (fun q => !decide (q < x.1)) = (decide (k ≠ 0) && !decide (((ps[k - 1]?).map (·.1)).getD [] < x.1)) := by
     unfold prevN
     by_cases h0 : k = 0
     · rw [if_pos h0]; simp [h0]
     rw [if_neg h0]
     have : ps[k - 1]? = some (ps[k - 1]'(by rw [HN.out]; omega)) := List.getElem?_eq_getElem _
     rw [this]
     simp [h0]
    rw [hany] at hstep
    have hgo : ∀ m : Nat, k = m + 1 → ∃ R : ByteArray, X.cell? ⟨bk, off + m * 2, none⟩ = some (.string R) ∧ Op.bytesLess R.toList P.toList = decide (((ps[k - 1]?).map (·.1)).getD [] < x.1) := by
     intro m hm
     obtain ⟨y, hy⟩ : ∃ y, ps[m]? = some y := ⟨_, List.getElem?_eq_getElem (by rw [HN.out]; omega)⟩
     refine ⟨⟨y.1.toArray⟩, ?_, ?_⟩
     · rw [← hX]
       exact Lib.cell?_alloc_some _ (hj m y hy).1
     rw [Lib.toList_data, Lib.toList_data, hPl, less_lt, hm, Nat.add_sub_cancel, hy]
     rfl
    obtain ⟨t, ht⟩ : ∃ t, decide (((ps[k - 1]?).map (·.1)).getD [] < x.1) = t := ⟨_, rfl⟩
    rw [ht] at hgo hstep
    have HST := Lib.hid hstep
    have HGO := Lib.hid hgo
    clear hvn hvv hb hbA hj hx hP hQ ha hz hX hPl hQl hN0 hsz hz1 hz2 hany hgo ht hp hstep
    have hHX : ∀ n, Hid (Below w.heap.size w (X.drewN n)) := fun n => Lib.hid (below_drewN HBA.out n)
    have HHX := Lib.hid hHX
    clear hHX
    have hze : ∀ n : Nat, ((z : Int) == 0) = decide (z = 0) := fun _ => by
     by_cases h : z = 0
     · simp [h]
     have : ¬ ((z : Int) = 0) := by omega
     simp [h]
    have HZE := Lib.hid (hze 0)
    clear hze
    cases k with
    | zero =>
      have hst := HST.out
      simp only [ne_eq, not_true_eq_false, decide_false, Bool.false_and, Bool.false_eq_true, if_false] at hst
      have HST2 := Lib.hid hst
      clear hst HST HGO
      simp only [Nat.zero_mul, Nat.add_zero] at c0 c1
      go_wp2_with fail
      rw [HXX.out, HN0.out]
      clear c0 c1
      go_wp2_with fail
      refine (HVN.out _).mono ?_
      rintro e w1 ⟨rfl, rfl⟩
      go_wp2_with fail
      go_quiet (fail)
      clear e0 e1 hf0
      have e1 : (w1.drewN nq).cell? ⟨N0, 1, none⟩ = some (.string Q) := HE1.out
      by_cases h0 : z = 0
      ·
       subst h0
       have hst := HST2.out
       rw [if_pos rfl] at hst
       have HST3 := Lib.hid hst
       clear hst HST2
       go_wp2_with fail
       refine (HVV.out _).mono ?_
       rintro e w1 ⟨rfl, hb1⟩
       have HB1 := Lib.hid ((HHX.out _).out.trans (hb1.mono (HHX.out _).out.size))
       clear hb1
       go_wp2_with fail
       exact ⟨⟨0 + 1, by omega, by go_num, HST3, HB1.out⟩, by simp only [Go.RowKit.intOf]; omega⟩
      have hst := HST2.out
      rw [if_neg h0] at hst
      have h0i : ¬ ((z : Int) = 0) := by omega
      have HST3 := Lib.hid hst
      clear hst HST2 h0
      go_wp2_with fail
      refine (HVV.out _).mono ?_
      rintro e w1 ⟨rfl, hb1⟩
      have HB1 := Lib.hid ((HHX.out _).out.trans (hb1.mono (HHX.out _).out.size))
      clear hb1
      go_wp2_with fail
      go_ret
      exact ⟨by rw [HST3.out]; rfl, HB1.out⟩
    | succ m =>
      obtain ⟨R, d0, hless⟩ := HGO.out m rfl
      have hst := HST.out
      have hne : decide (m + 1 ≠ 0) = true := by simp
      rw [hne, Bool.true_and] at hst
      have HST2 := Lib.hid hst
      clear hst HST HGO hne
      rw [show ((m + 1 : Nat) : Int) = (m : Int) + 1 by omega] at hgt ⊢
      have hpos : (0 : Int) < (m : Int) + 1 := by omega
      go_wp2_with fail
      rw [HXX.out, HN0.out]
      clear c0 c1
      go_wp2_with fail
      refine (HVN.out _).mono ?_
      rintro e w1 ⟨rfl, rfl⟩
      go_wp2_with fail
      go_quiet (fail)
      clear e0 e1 hf0 d0
      have e1 : (w1.drewN nq).cell? ⟨N0, 1, none⟩ = some (.string Q) := HE1.out
      cases t with
      | false =>
        have hst := HST2.out
        rw [if_pos (by decide)] at hst
        have HST3 := Lib.hid hst
        clear hst HST2 e1 hless
        go_wp2_with fail
        go_ret
        exact ⟨by rw [HST3.out]; rfl, (HHX.out _).out⟩
      | true =>
        have hst := HST2.out
        rw [if_neg (by decide)] at hst
        replace HST2 := Lib.hid hst
        clear hst hless
        by_cases h0 : z = 0
        ·
         subst h0
         have hst := HST2.out
         rw [if_pos rfl] at hst
         have HST3 := Lib.hid hst
         clear hst HST2
         go_wp2_with fail
         refine (HVV.out _).mono ?_
         rintro e w1 ⟨rfl, hb1⟩
         have HB1 := Lib.hid ((HHX.out _).out.trans (hb1.mono (HHX.out _).out.size))
         clear hb1
         go_wp2_with fail
         exact ⟨⟨m + 1 + 1, by omega, by go_num, HST3, HB1.out⟩, by simp only [Go.RowKit.intOf]; omega⟩
        have hst := HST2.out
        rw [if_neg h0] at hst
        have h0i : ¬ ((z : Int) = 0) := by omega
        have HST3 := Lib.hid hst
        clear hst HST2 h0
        go_wp2_with fail
        refine (HVV.out _).mono ?_
        rintro e w1 ⟨rfl, hb1⟩
        have HB1 := Lib.hid ((HHX.out _).out.trans (hb1.mono (HHX.out _).out.size))
        clear hb1
        go_wp2_with fail
        go_ret
        exact ⟨by rw [HST3.out]; rfl, HB1.out⟩
 obtain rfl : k = n := by omega
 have hr0 : r = 0 := by
  rw [hp.out, List.drop_eq_nil_of_le (by rw [HN.out]; exact Nat.le_refl _)]
  rfl
 have HB := Lib.hid hb
 subst hr0
 clear hb hp
 go_wp2_with fail
 go_ret
 exact ⟨rfl, HB.out⟩
set_option maxHeartbeats 1000000 in
theorem refVal_any (a : Bs × Bool) (F : ByteArray) (hF : F.size ≤ maxLen) (W : World) :
 Calls Tryz.prog 121 #[.agg #[.string ⟨a.1.toArray⟩, .bool a.2], .string F] W fun e w' => e = .returned (.int .i64 (valX a F.data.toList : Nat)) ∧ Below W.heap.size W w' := by
 have hp := fun W => refParse_any F hF W
 have hv := fun W => refValue_max F hF W
 have hx : valX a F.data.toList = if a.2 then (parseL F.data.toList).2 else valE F.data.toList := rfl
 rw [hx]
 obtain ⟨n, st⟩ := a
 simp only
 obtain ⟨N, hN⟩ : ∃ s : ByteArray, (⟨n.toArray⟩ : ByteArray) = s := ⟨_, rfl⟩
 rw [hN]
 obtain ⟨p, hpp⟩ : ∃ p, parseL F.data.toList = p := ⟨_, rfl⟩
 obtain ⟨z, hz⟩ : ∃ z, valE F.data.toList = z := ⟨_, rfl⟩
 rw [hpp] at hp ⊢
 rw [hz] at hv ⊢
 have HP := Lib.hid hp
 have HV := Lib.hid hv
 clear hp hv hN hpp hz hx hF
 cases st with
 | true =>
   go_enter Tryz.func121, Tryz.ntmps121
   go_wp2_with fail
   refine (HP.out _).mono ?_
   rintro e w1 ⟨⟨v, rfl, -⟩, hb⟩
   have HB := Lib.hid (below_alloc _ hb)
   clear hb
   go_wp2_with fail
   go_ret
   exact ⟨rfl, HB.out⟩
 | false =>
   go_enter Tryz.func121, Tryz.ntmps121
   go_wp2_with fail
   refine (HV.out _).mono ?_
   rintro e w1 ⟨rfl, hb⟩
   have HB := Lib.hid (below_alloc _ hb)
   clear hb
   go_wp2_with fail
   go_ret
   exact ⟨rfl, HB.out⟩

set_option maxRecDepth 100000 in
set_option maxHeartbeats 8000000 in
theorem refAttributes_any {w : World} {v : Value} (c : Cor) (hv : Rows 2 EAttr w v c.attrs) (hl : c.attrs.length ≤ maxLen) (hs : ∀ a ∈ c.attrs, a.1.length ≤ maxLen) :
 Calls Tryz.prog 84 #[v] w fun e w' => e = .returned (two (partE (attrsE c) (attrE c) c.attrs.length)) ∧ Below w.heap.size w w' := by
 have hae : attrsE c = if c.attrs.length = 0 then 15 else if 8 < c.attrs.length then 2 else 0 := rfl
 have hat := fun k a (h : c.attrs[k]? = some a) => show attrE c k = (if nameB a.1 = false then 4 else if (c.attrs.take k).any (fun y => decide (y.1 = a.1)) then 5 else 0) by unfold attrE; rw [h]
 obtain ⟨l, hlc⟩ : ∃ l, c.attrs = l := ⟨_, rfl⟩
 obtain ⟨f, hf⟩ : ∃ f, attrE c = f := ⟨_, rfl⟩
 obtain ⟨g, hg⟩ : ∃ g, attrsE c = g := ⟨_, rfl⟩
 rw [hlc] at hv hl hs hae hat ⊢
 rw [hf] at hat ⊢
 rw [hg] at hae ⊢
 clear hlc hf hg c
 obtain ⟨A, cap, rfl, hc⟩ := hv.form
 obtain ⟨n, hn⟩ : ∃ n, l.length = n := ⟨_, rfl⟩
 obtain ⟨p, hp⟩ : ∃ p, partE g f l.length = p := ⟨_, rfl⟩
 rw [hp]
 rw [hn] at hp hae hc hl ⊢
 unfold maxLen at hl
 have HV := Lib.hid (fun W (h : Below w.heap.size w W) => hv.below stays_attr h)
 have HN := Lib.hid hn
 have HS := Lib.hid hs
 have HAT := Lib.hid hat
 rw [hn] at HV
 clear hv hn hs hat
 by_cases h0 : n = 0
 ·
  rw [if_pos h0] at hae
  subst hae h0
  rw [part_whole (by decide)] at hp
  subst hp
  go_enter Tryz.func84, Tryz.ntmps84
  go_wp2_with fail
  go_ret2
  exact ⟨rfl, Below.refl _ _⟩
 rw [if_neg h0] at hae
 have h0i : ((n : Int) == 0) = false := by simp only [beq_eq_false_iff_ne, ne_eq]; omega
 by_cases h8 : 8 < n
 ·
  rw [if_pos h8] at hae
  subst hae
  rw [part_whole (by decide)] at hp
  subst hp
  clear h0
  go_enter Tryz.func84, Tryz.ntmps84
  go_wp2_with fail
  go_ret2
  exact ⟨rfl, Below.refl _ _⟩
 rw [if_neg h8] at hae
 subst hae
 rw [part_scan] at hp
 have HP0 : Hid (p = scanE f n 0) := Lib.hid hp.symm
 have h8i : ¬ (8 : Int) < (n : Int) := by omega
 clear hp h0
 go_enter Tryz.func84, Tryz.ntmps84
 go_wp2_with fail
 go_loopw [16] (fun i wr => ∃ k : Nat, k ≤ n ∧ i = .int .i64 k ∧ Hid (p = scanE f n k) ∧ Below w.heap.size w wr) (fun i _ => n - (Go.RowKit.intOf i).toNat)
 case atStart => exact ⟨0, Nat.zero_le _, rfl, HP0, Below.refl _ _⟩
 clear HP0
 obtain ⟨k, hk, rfl, hp, hb⟩ := hrel
 by_cases hlt : k < n
 ·
  obtain ⟨x, hx⟩ : ∃ x, l[k]? = some x := ⟨_, List.getElem?_eq_getElem (by rw [HN.out]; exact hlt)⟩
  obtain ⟨bk, off, rfl, hbl, hj⟩ := at_attr (HV.out wr hb) (by rw [HN.out]; omega)
  obtain ⟨c0, c1⟩ := hj k x hx
  have hfk := HAT.out k x hx
  have hsc := hp.out
  rw [scanE_step hlt] at hsc
  obtain ⟨P, hP⟩ : ∃ s : ByteArray, (⟨x.1.toArray⟩ : ByteArray) = s := ⟨_, rfl⟩
  have hPl : P.data.toList = x.1 := by rw [← hP]
  have hvn := fun W => refName_any P (by rw [Lib.size_eq, hPl]; exact HS.out x (List.mem_of_getElem? hx)) W
  rw [hPl] at hvn
  rw [hP] at c0
  obtain ⟨a, ha⟩ : ∃ a, nameB x.1 = a := ⟨_, rfl⟩
  rw [ha] at hvn hfk
  obtain ⟨st, hst⟩ : ∃ st, x.2 = st := ⟨_, rfl⟩
  rw [hst] at c1
  obtain ⟨N0, hN0⟩ : ∃ N, wr.heap.size = N := ⟨_, rfl⟩
  have e0 : (wr.alloc (.cells #[.string P, .bool st] 61)).heap[N0]? = some (.cells #[.string P, .bool st] 61 (0, 0)) := by rw [← hN0]; exact block_new wr _
  have d0 : (wr.alloc (.cells #[.string P, .bool st] 61)).cell? ⟨wr.heap.size, 0, none⟩ = some (.string P) := by rw [hN0]; exact cell_of e0 rfl
  obtain ⟨X, hX⟩ : ∃ X, wr.alloc (.cells #[.string P, .bool st] 61) = X := ⟨_, rfl⟩
  have hbX : Below w.heap.size w X := by rw [← hX]; exact hb.trans ((below_box wr _).mono hb.size)
  have hbX2 := hX ▸ below_box wr (.cells #[.string P, .bool st] 61)
  rw [hX] at e0
  have HVN := Lib.hid hvn
  have HBX := Lib.hid hbX
  have HX := Lib.hid hX
  have HN0 := Lib.hid hN0
  have HE0 := Lib.hid e0
  have HXX := Lib.hid hx
  have HPL := Lib.hid hPl
  have k0 : (0 : Int) ≤ (k : Int) := by omega
  have kn : (k : Int) < (n : Int) := by omega
  have kc : (k : Int) ≤ (cap : Int) := by omega
  have hbb := hb
  cases a with
  | false =>
    rw [if_pos rfl] at hfk
    rw [hfk, if_neg (by decide)] at hsc
    subst hsc
    clear hbb hb hj hx hP hPl hvn ha hst hN0 e0 hX hbX hbX2 hp hfk hbl
    go_wp2_with fail
    refine (HVN.out _).mono ?_
    rintro e w1 ⟨rfl, rfl⟩
    go_wp2_with fail
    go_ret2
    exact ⟨rfl, HX.out ▸ HBX.out⟩
  | true =>
    rw [if_neg (by decide)] at hfk
    have HFK := Lib.hid hfk
    have HSC := Lib.hid hsc
    obtain ⟨wo, hwo⟩ : ∃ wo, wo = wr := ⟨_, rfl⟩
    have HVB := Lib.hid (fun W (h : Below X.heap.size X W) => HV.out W (hbX.trans (h.mono hbX.size)))
    clear hbb hb hj hx hP hPl hvn ha hst hN0 e0 hX hbX hbX2 hp hfk hsc hbl
    subst hwo
    go_wp2_with fail
    refine (HVN.out _).mono ?_
    rintro e w1 ⟨rfl, rfl⟩
    rw [HX.out, HN0.out]
    go_wp2_with fail
    clear c0 c1 d0
    go_loopw [30] (fun i wi => ∃ m : Nat, m ≤ k ∧ i = .int .i64 m ∧ Hid (∀ (j : Nat) (y : Bs × Bool), j < m → l[j]? = some y → y.1 ≠ x.1) ∧ Below X.heap.size X wi) (fun i _ => k - (Go.RowKit.intOf i).toNat)
    case atStart => exact ⟨0, Nat.zero_le _, rfl, Lib.hid (fun j y h => absurd h (by omega)), Below.refl _ _⟩
    obtain ⟨m, hm, rfl, hs, hb⟩ := hrel
    by_cases hlm : m < k
    ·
     obtain ⟨y, hy⟩ : ∃ y, l[m]? = some y := ⟨_, List.getElem?_eq_getElem (by rw [HN.out]; omega)⟩
     obtain ⟨b2, off2, he2, hbl, hj⟩ := at_attr (HVB.out wr hb) (by rw [HN.out]; omega)
     cases he2
     obtain ⟨c0, c1⟩ := hj m y hy
     obtain ⟨Q, hQ⟩ : ∃ s : ByteArray, (⟨y.1.toArray⟩ : ByteArray) = s := ⟨_, rfl⟩
     have hQl : Q.data.toList = y.1 := by rw [← hQ]
     rw [hQ] at c0
     obtain ⟨sy, hsy⟩ : ∃ st, y.2 = st := ⟨_, rfl⟩
     rw [hsy] at c1
     have d0 : (wr.alloc (.cells #[.string Q, .bool sy] 61)).cell? ⟨N0, 0, none⟩ = some (.string P) := Lib.cell?_alloc_some _ (cell_of (block_below HE0.out hb (Array.getElem?_eq_some_iff.1 HE0.out).1) rfl)
     have d1 : (wr.alloc (.cells #[.string Q, .bool sy] 61)).cell? ⟨wr.heap.size, 0, none⟩ = some (.string Q) := cell_of (block_new wr _) rfl
     have m0 : (0 : Int) ≤ (m : Int) := by omega
     have mk : (m : Int) < (k : Int) := by omega
     have HB := Lib.hid (hb.trans ((below_box wr (.cells #[.string Q, .bool sy] 61)).mono hb.size))
     by_cases he : y.1 = x.1
     ·
      have z1 : (P.toList == Q.toList) = true := by
       rw [toL P, toL Q, HPL.out, hQl, he]; simp
      have hfk := HFK.out
      rw [if_pos (List.any_eq_true.2 ⟨y, mem_take_of hy hlm, by simpa using he⟩)] at hfk
      have hsc := HSC.out
      rw [hfk, if_neg (by decide)] at hsc
      subst hsc
      clear hb hj hy hQ hQl hsy hs hfk he hbl
      go_wp2_with fail
      go_ret2
      exact ⟨rfl, HBX.out.trans (HB.out.mono HBX.out.size)⟩
     have z1 : (P.toList == Q.toList) = false := by
      rw [toL P, toL Q, HPL.out, hQl]; simpa using fun h => he h.symm
     have hs' : Hid (∀ (j : Nat) (y : Bs × Bool), j < m + 1 → l[j]? = some y → y.1 ≠ x.1) := Lib.hid fun j y' hj hy' => by
      by_cases e : j = m
      ·
       subst e
       rw [hy] at hy'
       cases hy'
       exact he
      exact hs.out j y' (by omega) hy'
     clear hb hj hy hQ hQl hsy hs he hbl
     go_wp2_with fail
     exact ⟨⟨m + 1, by omega, by go_num, hs', HB.out⟩, by simp only [Go.RowKit.intOf]; omega⟩
    obtain rfl : m = k := by omega
    have hany : (l.take m).any (fun y => decide (y.1 = x.1)) = false := by
     rw [List.any_eq_false]
     intro y hy
     obtain ⟨j, hj, e⟩ := mem_take_ex hy
     simpa using hs.out j y hj e
    have hfk := HFK.out
    rw [hany, if_neg (by decide)] at hfk
    have hsc := HSC.out
    rw [hfk, if_pos rfl] at hsc
    have HSC2 := Lib.hid hsc
    have HB := Lib.hid (HBX.out.trans (hb.mono HBX.out.size))
    clear hb hs hany hfk hsc
    go_wp2_with fail
    exact ⟨⟨m + 1, by omega, by go_num, HSC2, HB.out⟩, by simp only [Go.RowKit.intOf]; omega⟩
 obtain rfl : k = n := by omega
 have hsc := hp.out
 rw [scanE_end (by omega)] at hsc
 subst hsc
 have HB := Lib.hid hb
 clear hb hp
 go_wp2_with fail
 go_ret2
 exact ⟨rfl, HB.out⟩

set_option maxRecDepth 100000 in
set_option maxHeartbeats 8000000 in
theorem refWithin_any {w : World} (s : Sv) {c : Cor} (hv : Rows 4 EEx w s.vx c.texts) (hl : c.texts.length ≤ maxLen) (b e : Int) :
 Calls Tryz.prog 123 #[.agg s.arr, .int .i64 b, .int .i64 e] w fun r w' => r = .returned (.bool (within c b e)) ∧ Below w.heap.size w w' := by
 have hwd : within c b e = c.texts.any fun t => decide (t.b ≤ b) && decide (b < e) && decide (e ≤ t.e) := rfl
 obtain ⟨l, hlc⟩ : ∃ l, c.texts = l := ⟨_, rfl⟩
 obtain ⟨bv, hbv⟩ : ∃ z, within c b e = z := ⟨_, rfl⟩
 rw [hlc] at hv hl hwd
 rw [hbv] at hwd ⊢
 clear hlc hbv c
 obtain ⟨A, cap, hvx, hc⟩ := hv.form
 obtain ⟨va, vt, vx, vr, vn, vh, vl⟩ := s
 simp only at hvx hv
 subst hvx
 simp only [Sv.arr]
 obtain ⟨n, hn⟩ : ∃ n, l.length = n := ⟨_, rfl⟩
 rw [hn] at hc hl hv ⊢
 unfold maxLen at hl
 obtain ⟨N0, hN0⟩ : ∃ N, w.heap.size = N := ⟨_, rfl⟩
 obtain ⟨X, hX⟩ : ∃ X, w.alloc (.cells #[va, vt, .slice A n cap, vr, vn, vh, vl] 30) = X := ⟨_, rfl⟩
 have hbX : Below w.heap.size w X := by rw [← hX]; exact below_box w _
 have x1 : X.heap[N0]? = some (.cells #[va, vt, .slice A n cap, vr, vn, vh, vl] 30 (0, 0)) := by rw [← hX, ← hN0]; exact block_new w _
 have c2 : (w.alloc (.cells #[va, vt, .slice A n cap, vr, vn, vh, vl] 30)).cell? ⟨w.heap.size, 2, none⟩ = some (.slice A n cap) := cell_of (block_new w _) rfl
 have HV := Lib.hid (fun W (h : Below X.heap.size X W) => hv.below stays_ex (hbX.trans (h.mono hbX.size)))
 have HN := Lib.hid hn
 have HX := Lib.hid hX
 have HN0 := Lib.hid hN0
 have HBX := Lib.hid hbX
 have HBV := Lib.hid hwd
 have HWI := Lib.hid (fun (x : Ex) (k : Nat) (h : l[k]? = some x) (h2 : (decide (x.b ≤ b) && decide (b < e) && decide (e ≤ x.e)) = true) => show bv = true by rw [hwd]; exact List.any_eq_true.2 ⟨x, List.mem_of_getElem? h, h2⟩)
 clear hv hn hX hN0 hbX hwd x1
 go_enter Tryz.func123, Tryz.ntmps123
 go_wp2_with fail
 rw [HX.out]
 clear c2
 go_loopw [12] (fun i wr => ∃ k : Nat, k ≤ n ∧ i = .int .i64 k ∧ Hid (∀ (j : Nat) (y : Ex), j < k → l[j]? = some y → (decide (y.b ≤ b) && decide (b < e) && decide (e ≤ y.e)) = false) ∧ Below X.heap.size X wr) (fun i _ => n - (Go.RowKit.intOf i).toNat)
 case atStart => exact ⟨0, Nat.zero_le _, rfl, Lib.hid (fun j y h => absurd h (by omega)), Below.refl _ _⟩
 obtain ⟨k, hk, rfl, hs, hb⟩ := hrel
 by_cases hlt : k < n
 ·
  obtain ⟨x, hx⟩ : ∃ x, l[k]? = some x := ⟨_, List.getElem?_eq_getElem (by rw [HN.out]; exact hlt)⟩
  obtain ⟨b1, o1, rfl, -, hj⟩ := at_ex (HV.out wr hb) (by rw [HN.out]; omega)
  obtain ⟨u, ru, u0, u1, u2, u3⟩ := hj k x hx
  obtain ⟨Au, pu, rfl, -⟩ := ru.form
  obtain ⟨nu, hpx⟩ : ∃ n, x.ps.length = n := ⟨_, rfl⟩
  obtain ⟨P, hP⟩ : ∃ s : ByteArray, (⟨x.name.toArray⟩ : ByteArray) = s := ⟨_, rfl⟩
  obtain ⟨xn, hnx⟩ : ∃ z, x.name = z := ⟨_, rfl⟩
  rw [hP] at u0
  rw [hpx] at u3
  have q1 := block_new wr (.cells #[.string P, .int .i64 x.b, .int .i64 x.e, .slice Au nu pu] 51)
  have r1 := cell_of (i := 1) q1 rfl
  have r2 := cell_of (i := 2) q1 rfl
  have k0 : (0 : Int) ≤ (k : Int) := by omega
  have kn : (k : Int) < (n : Int) := by omega
  have HB1 := Lib.hid (hb.trans ((below_box wr (.cells #[.string P, .int .i64 x.b, .int .i64 x.e, .slice Au nu pu] 51)).mono hb.size))
  by_cases g1 : x.b ≤ b
  ·
   by_cases g2 : b < e
   ·
    by_cases g3 : e ≤ x.e
    ·
     have HW := HWI.out x k hx (by simp; omega)
     subst HW
     clear hb hj hx hP ru hpx hnx hs q1
     go_wp2_with fail
     go_ret
     exact ⟨rfl, HBX.out.trans (HB1.out.mono HBX.out.size)⟩
    have hs' : Hid (∀ (j : Nat) (y : Ex), j < k + 1 → l[j]? = some y → (decide (y.b ≤ b) && decide (b < e) && decide (e ≤ y.e)) = false) := Lib.hid fun j y hj hy => by
     by_cases e' : j = k
     ·
      subst e'
      rw [hx] at hy
      cases hy
      simp; omega
     exact hs.out j y (by omega) hy
    clear hb hj hx hP ru hpx hnx hs q1 HWI HBV HV HN
    go_wp2_with fail
    exact ⟨⟨k + 1, by omega, by go_num, hs', HB1.out⟩, by simp only [Go.RowKit.intOf]; omega⟩
   have hs' : Hid (∀ (j : Nat) (y : Ex), j < k + 1 → l[j]? = some y → (decide (y.b ≤ b) && decide (b < e) && decide (e ≤ y.e)) = false) := Lib.hid fun j y hj hy => by
    by_cases e' : j = k
    ·
     subst e'
     rw [hx] at hy
     cases hy
     simp; omega
    exact hs.out j y (by omega) hy
   clear hb hj hx hP ru hpx hnx hs q1 HWI HBV HV HN
   go_wp2_with fail
   exact ⟨⟨k + 1, by omega, by go_num, hs', HB1.out⟩, by simp only [Go.RowKit.intOf]; omega⟩
  have hs' : Hid (∀ (j : Nat) (y : Ex), j < k + 1 → l[j]? = some y → (decide (y.b ≤ b) && decide (b < e) && decide (e ≤ y.e)) = false) := Lib.hid fun j y hj hy => by
   by_cases e' : j = k
   ·
    subst e'
    rw [hx] at hy
    cases hy
    simp; omega
   exact hs.out j y (by omega) hy
  clear hb hj hx hP ru hpx hnx hs q1 HWI HBV HV HN
  go_wp2_with fail
  exact ⟨⟨k + 1, by omega, by go_num, hs', HB1.out⟩, by simp only [Go.RowKit.intOf]; omega⟩
 obtain rfl : k = n := by omega
 have hbf : bv = false := by
  rw [HBV.out, List.any_eq_false]
  intro y hy
  obtain ⟨j, hj⟩ := List.getElem?_of_mem hy
  have := hs.out j y (by have := (List.getElem?_eq_some_iff.1 hj).1; rw [HN.out] at this; exact this) hj
  simp only [this]; decide
 subst hbf
 have HB := Lib.hid (HBX.out.trans (hb.mono HBX.out.size))
 clear hb hs
 go_wp2_with fail
 go_ret
 exact ⟨rfl, HB.out⟩

set_option maxRecDepth 100000 in
set_option maxHeartbeats 8000000 in
theorem refTokens_any {w : World} (s : Sv) (c : Cor) (ha : Rows 2 EAttr w s.va c.attrs) (ht : Rows 1 ETok w s.vt c.toks) (hla : c.attrs.length ≤ maxLen) (hlt : c.toks.length ≤ maxLen) (hs : ∀ t ∈ c.toks, t.length ≤ maxLen ∧ ∀ v ∈ t, v.length ≤ maxLen) :
 Calls Tryz.prog 85 #[.agg s.arr] w fun e w' => e = .returned (two (partE (toksE c) (tokE c) c.toks.length)) ∧ Below w.heap.size w w' := by
 have hae : toksE c = if 4096 < c.toks.length then 2 else 0 := rfl
 have hat := fun k t (h : c.toks[k]? = some t) => show tokE c k = (if t.length ≠ c.attrs.length then 15 else valsE c.attrs t) by unfold tokE; rw [h]
 obtain ⟨l, hlc⟩ : ∃ l, c.toks = l := ⟨_, rfl⟩
 obtain ⟨al, hac⟩ : ∃ l, c.attrs = l := ⟨_, rfl⟩
 obtain ⟨f, hf⟩ : ∃ f, tokE c = f := ⟨_, rfl⟩
 obtain ⟨g, hg⟩ : ∃ g, toksE c = g := ⟨_, rfl⟩
 rw [hlc] at ht hlt hs hae hat ⊢
 rw [hac] at ha hla hat
 rw [hf] at hat ⊢
 rw [hg] at hae ⊢
 clear hlc hac hf hg c
 obtain ⟨A, cap, hva, hc⟩ := ha.form
 obtain ⟨A1, cap1, hvt, hc1⟩ := ht.form
 obtain ⟨va, vt, vx, vr, vn, vh, vl⟩ := s
 simp only at hva hvt ha ht
 subst hva hvt
 simp only [Sv.arr]
 obtain ⟨n, hn⟩ : ∃ n, l.length = n := ⟨_, rfl⟩
 obtain ⟨na, hna⟩ : ∃ n, al.length = n := ⟨_, rfl⟩
 obtain ⟨p, hp⟩ : ∃ p, partE g f l.length = p := ⟨_, rfl⟩
 rw [hp]
 rw [hn] at hp hae hc1 hlt ht ⊢
 rw [hna] at hc hla ha hat ⊢
 unfold maxLen at hlt hla
 obtain ⟨N0, hN0⟩ : ∃ N, w.heap.size = N := ⟨_, rfl⟩
 obtain ⟨X, hX⟩ : ∃ X, w.alloc (.cells #[.slice A na cap, .slice A1 n cap1, vx, vr, vn, vh, vl] 30) = X := ⟨_, rfl⟩
 have hbX : Below w.heap.size w X := by rw [← hX]; exact below_box w _
 have x1 : X.heap[N0]? = some (.cells #[.slice A na cap, .slice A1 n cap1, vx, vr, vn, vh, vl] 30 (0, 0)) := by rw [← hX, ← hN0]; exact block_new w _
 have c1 : (w.alloc (.cells #[.slice A na cap, .slice A1 n cap1, vx, vr, vn, vh, vl] 30)).cell? ⟨w.heap.size, 1, none⟩ = some (.slice A1 n cap1) := cell_of (block_new w _) rfl
 have HA := Lib.hid (fun W (h : Below X.heap.size X W) => ha.below stays_attr (hbX.trans (h.mono hbX.size)))
 have HT := Lib.hid (fun W (h : Below X.heap.size X W) => ht.below stays_tok (hbX.trans (h.mono hbX.size)))
 have HK := Lib.hid (fun W (h : Below X.heap.size X W) => block_below x1 h (Array.getElem?_eq_some_iff.1 x1).1)
 have HN := Lib.hid (And.intro hn hna)
 have HS := Lib.hid hs
 have HAT := Lib.hid hat
 have HX := Lib.hid hX
 have HN0 := Lib.hid hN0
 have HBX := Lib.hid hbX
 clear ha ht hn hna hs hat hX hN0 hbX x1
 by_cases h8 : 4096 < n
 ·
  rw [if_pos h8] at hae
  subst hae
  rw [part_whole (by decide)] at hp
  subst hp
  have h8i : (4096 : Int) < (n : Int) := by omega
  go_enter Tryz.func85, Tryz.ntmps85
  go_wp2_with fail
  go_ret2
  exact ⟨rfl, HX.out ▸ HBX.out⟩
 rw [if_neg h8] at hae
 subst hae
 rw [part_scan] at hp
 have HP0 : Hid (p = scanE f n 0) := Lib.hid hp.symm
 have h8i : ¬ (4096 : Int) < (n : Int) := by omega
 clear hp
 go_enter Tryz.func85, Tryz.ntmps85
 go_wp2_with fail
 rw [HX.out, HN0.out]
 clear c1
 go_loopw [16] (fun i wr => ∃ k : Nat, k ≤ n ∧ i = .int .i64 k ∧ Hid (p = scanE f n k) ∧ Below X.heap.size X wr) (fun i _ => n - (Go.RowKit.intOf i).toNat)
 case atStart => exact ⟨0, Nat.zero_le _, rfl, HP0, Below.refl _ _⟩
 clear HP0
 obtain ⟨k, hk, rfl, hp, hb⟩ := hrel
 by_cases hlt : k < n
 ·
  obtain ⟨x, hx⟩ : ∃ x, l[k]? = some x := ⟨_, List.getElem?_eq_getElem (by rw [HN.out.1]; exact hlt)⟩
  obtain ⟨bk, off, rfl, hbl, hj⟩ := at_tok (HT.out wr hb) (by rw [HN.out.1]; omega)
  obtain ⟨u, c0, ru⟩ := hj k x hx
  obtain ⟨hx1, hx2⟩ := HS.out x (List.mem_of_getElem? hx)
  have hfk := HAT.out k x hx
  have hsc := hp.out
  rw [scanE_step hlt] at hsc
  obtain ⟨Au, pu, rfl, hpu⟩ := ru.form
  obtain ⟨nu, hnu⟩ : ∃ n, x.length = n := ⟨_, rfl⟩
  rw [hnu] at c0 ru hx1 hfk hpu
  unfold maxLen at hx1
  have hk0 := HK.out wr hb
  have d0 : wr.cell? ⟨N0, 0, none⟩ = some (.slice A na cap) := cell_of hk0 rfl
  have k0 : (0 : Int) ≤ (k : Int) := by omega
  have kn : (k : Int) < (n : Int) := by omega
  have HB := Lib.hid hb
  by_cases he : nu = na
  ·
   subst he
   rw [if_neg (by simp)] at hfk
   have HFK : Hid (f k = valsE (al.drop 0) (x.drop 0)) := Lib.hid hfk
   have HSC := Lib.hid hsc
   obtain ⟨wo, hwo⟩ : ∃ wo, wo = wr := ⟨_, rfl⟩
   subst hwo
   have HRU := Lib.hid (fun W (h : Below wo.heap.size wo W) => ru.below stays_str h)
   have HNU := Lib.hid (And.intro hnu hx2)
   clear hb hj hx hp hfk hsc hbl hk0 ru hnu hx2
   go_wp2_with fail
   clear c0 d0
   go_loopw [30] (fun i wi => ∃ m : Nat, m ≤ nu ∧ i = .int .i64 m ∧ Hid (f k = valsE (al.drop m) (x.drop m)) ∧ Below wo.heap.size wo wi) (fun i _ => nu - (Go.RowKit.intOf i).toNat)
   case atStart => exact ⟨0, Nat.zero_le _, rfl, HFK, Below.refl _ _⟩
   clear HFK
   obtain ⟨m, hm, rfl, hq, hb⟩ := hrel
   by_cases hlm : m < nu
   ·
    obtain ⟨y, hy⟩ : ∃ y, x[m]? = some y := ⟨_, List.getElem?_eq_getElem (by rw [HNU.out.1]; exact hlm)⟩
    obtain ⟨z, hz⟩ : ∃ z, al[m]? = some z := ⟨_, List.getElem?_eq_getElem (by rw [HN.out.2]; exact hlm)⟩
    have hbw := HB.out.trans (hb.mono HB.out.size)
    obtain ⟨b2, o2, rfl, -, hj2⟩ := at_str (HRU.out wr hb) (by rw [HNU.out.1]; omega)
    obtain ⟨b3, o3, rfl, -, hj3⟩ := at_attr (HA.out wr hbw) (by rw [HN.out.2]; omega)
    have d1 := hj2 m y hy
    obtain ⟨d2, d3⟩ := hj3 m z hz
    have d0 : wr.cell? ⟨N0, 0, none⟩ = some (.slice (some ⟨b3, o3, none⟩) nu cap) := cell_of (HK.out wr hbw) rfl
    have hst := hq.out
    rw [valsE_step hz hy] at hst
    obtain ⟨F, hF⟩ : ∃ s : ByteArray, (⟨y.toArray⟩ : ByteArray) = s := ⟨_, rfl⟩
    have hFl : F.data.toList = y := by rw [← hF]
    have hcv := refVal_any z F (by rw [Lib.size_eq, hFl]; exact HNU.out.2 y (List.mem_of_getElem? hy)) wr
    rw [hFl] at hcv
    rw [hF] at d1
    obtain ⟨G, hG⟩ : ∃ s : ByteArray, (⟨z.1.toArray⟩ : ByteArray) = s := ⟨_, rfl⟩
    obtain ⟨st, hst'⟩ : ∃ t, z.2 = t := ⟨_, rfl⟩
    obtain ⟨v, hv⟩ : ∃ v, valX z y = v := ⟨_, rfl⟩
    rw [hG, hst', hv] at hcv
    rw [hG] at d2
    rw [hst'] at d3
    rw [hv] at hst
    have HCV := Lib.hid hcv
    have HBI := Lib.hid hb
    have m0 : (0 : Int) ≤ (m : Int) := by omega
    have mn : (m : Int) < (nu : Int) := by omega
    clear hb hbw hj2 hj3 hy hz hF hFl hcv hG hst' hv hq
    by_cases h0 : v = 0
    ·
     subst h0
     rw [if_pos rfl] at hst
     have HST := Lib.hid hst
     clear hst
     go_wp2_with fail
     refine HCV.out.mono ?_
     rintro e w1 ⟨rfl, hb1⟩
     have HB1 := Lib.hid (HBI.out.trans (hb1.mono HBI.out.size))
     clear hb1 d0 d1 d2 d3
     go_wp2_with fail
     exact ⟨⟨m + 1, by omega, by go_num, HST, HB1.out⟩, by simp only [Go.RowKit.intOf]; omega⟩
    rw [if_neg h0] at hst
    have h0i : ¬ ((v : Int) = 0) := by omega
    have hsc := HSC.out
    rw [hst, if_neg h0] at hsc
    subst hsc
    clear hst h0
    go_wp2_with fail
    refine HCV.out.mono ?_
    rintro e w1 ⟨rfl, hb1⟩
    have HB1 := Lib.hid (HBX.out.trans ((HB.out.trans ((HBI.out.trans (hb1.mono HBI.out.size)).mono HB.out.size)).mono HBX.out.size))
    clear hb1 d0 d1 d2 d3
    go_wp2_with fail
    go_ret2
    exact ⟨rfl, HB1.out⟩
   obtain rfl : m = nu := by omega
   have hst := hq.out
   rw [valsE_end (by rw [HN.out.2]; exact Nat.le_refl _)] at hst
   have hsc := HSC.out
   rw [hst, if_pos rfl] at hsc
   have HSC2 := Lib.hid hsc
   have HB1 := Lib.hid (HB.out.trans (hb.mono HB.out.size))
   clear hb hst hsc hq
   go_wp2_with fail
   exact ⟨⟨k + 1, by omega, by go_num, HSC2, HB1.out⟩, by simp only [Go.RowKit.intOf]; omega⟩
  rw [if_pos he] at hfk
  rw [hfk, if_neg (by decide)] at hsc
  subst hsc
  have hei : ¬ ((nu : Int) = (na : Int)) := by omega
  clear hb hj hx hp hfk hbl hk0 ru hnu hx2 he
  go_wp2_with fail
  go_ret2
  exact ⟨rfl, HBX.out.trans (HB.out.mono HBX.out.size)⟩
 obtain rfl : k = n := by omega
 have hsc := hp.out
 rw [scanE_end (by omega)] at hsc
 subst hsc
 have HB := Lib.hid hb
 clear hb hp
 go_wp2_with fail
 go_ret2
 exact ⟨rfl, HBX.out.trans (HB.out.mono HBX.out.size)⟩
end Go.Proofs.YtebmfkkkhmjkoaaGreat
