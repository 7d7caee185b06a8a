/-
  WALKS over the reference of markup: ParseTag.
-/
import Derived.Test.YtjablaidbccnbaaGreatDoorRvM
import Derived.Test.YtjablaidbccnbaaGreatDoorRsM
import Derived.Test.YtjablaidbccnbaaGreatDoorMkX
import Derived.RegionTactic
import Derived.BigRegion
namespace Go.Proofs.YtjablaidbccnbaaGreatDoor
open Go.RowKit Go.Shelf Go.Lib

theorem Tryz.sizeTag5 : (Tryz.prog.info? 28).map (·.size) = some 3 := by kernel_rfl
/-- The result's cells. -/
def TQ (W : World) (q : Nat) (x y z : Value) : Prop := W.heap[q]? = some (.cells #[x, y, z] 28 (0, 0))
theorem TQ.set {W : World} {q : Nat} {x y z : Value} (h : TQ W q x y z) (a b c : Value) : TQ (((W.setCell ⟨q, 0, none⟩ a).setCell ⟨q, 1, none⟩ b).setCell ⟨q, 2, none⟩ c) q a b c := by
  unfold TQ
  rw [set_of (set_of (set_of h _) _) _]
  rfl
theorem TQ.but {W W' : World} {q b : Nat} {x y z : Value} (h : TQ W q x y z) (hq : q < b) (hb : But b W W') : TQ W' q x y z :=
  (hb.block q (Array.getElem?_eq_some_iff.1 h).1 (fun e => by have := Option.some.inj e; omega)).trans h
theorem results_ref {W : World} {n : Nat} {x y z : Value} {a e : Int} (h : TQ W n x y z) (tmps : Array Value) (h2 : tmps.getD 2 undef = .pointer (some ⟨n, 0, none⟩)) (h3 : tmps.getD 3 undef = .int .i64 a) (h4 : tmps.getD 4 undef = .int .i64 e) :
    (results Tryz.f7 tmps).run Tryz.prog W = .ok (.tuple #[.agg #[x, y, z], .int .i64 a, .int .i64 e]) W := by
  have e0 := run_loadVar_row (P := Tryz.prog) W n 28 28 #[x, y, z] (0, 0) _ h Tryz.underlying28 rfl Tryz.sizeTag5
  have h2' : tmps[2]?.getD undef = .pointer (some ⟨n, 0, none⟩) := by simpa using h2
  have h3' : tmps[3]?.getD undef = .int .i64 a := by simpa using h3
  have h4' : tmps[4]?.getD undef = .int .i64 e := by simpa using h4
  simp [results, Tryz.results7, h2', h3', h4', asAddr, e0]
theorem pWant_one (L : Bs) (i : Nat) (c : UInt8) : pWant L i [c] = if L[i]? = some c then .ok () (i + 1) else .err i 3 := rfl
/-- The rest of a tag. -/
def pRest (f : Nat) (L : Bs) (i : Nat) (n : Bs) (ks : List Pr) : PR TagL :=
  match pKeys f L i ks with
  | .err a e => .err a e
  | .ok ks k => pEnd L ⟨false, n, ks⟩ k
theorem pEnd_eq (L : Bs) (t : TagL) (i : Nat) : pEnd L t i = if L[i]? = some 62 then if i + 1 < L.length then .err (i + 1) 3 else .ok t (i + 1) else .err i 3 := by
  unfold pEnd pExpect
  by_cases h : L[i]? = some 62
  · simp only [if_pos h]
  · simp only [if_neg h]
/-- What stands at the end of a reading that failed. -/
structure Over (V wx : World) (b : Nat) (s : ByteArray) (R : PR TagL) (a e : Nat) : Prop where
  but : But b V wx
  at_ : ∃ (i : Int) (c : Bool) (n : ByteArray) (kv : Value), RB wx b s i c n kv a e true
  ans : R = .err a e
theorem over_end {w V W W' : World} {b q : Nat} {s : ByteArray} {R : PR TagL} {a e : Nat} (hV : Below w.heap.size w V) (hq0 : w.heap.size ≤ q) (hq : q < b) (hT : TQ V q (.bool false) (.string ⟨#[]⟩) (.slice none 0 0)) (h : Over V W b s R a e)
    (hW : W' = (((W.setCell ⟨q, 0, none⟩ (.bool false)).setCell ⟨q, 1, none⟩ (.string ⟨#[]⟩)).setCell ⟨q, 2, none⟩ (.slice none 0 0)).drew) :
    TQ W' q (.bool false) (.string ⟨#[]⟩) (.slice none 0 0) ∧ Below w.heap.size w W' := by
  subst hW
  refine ⟨(hT.but hq h.but).set _ _ _, ?_⟩
  exact (((((hV.trans (below_but h.but (by omega) hV.size))).setCell (by simpa using hq0) _).setCell (by simpa using hq0) _).setCell (by simpa using hq0) _).drew

theorem keyName_ok {L : Bs} {i j : Nat} {ks : List Pr} {nm : Bs} (hk : pKeyName L i ks = .ok nm j) : hasN ks nm = false ∧ ks.length ≠ 8 ∧ i < j := by
  unfold pKeyName at hk
  cases hq : pName L i with
  | err a e => rw [hq] at hk; cases hk
  | ok n2 j2 =>
    rw [hq] at hk
    simp only at hk
    split at hk
    · cases hk
    · split at hk
      · cases hk
      · rename_i h1 h2
        cases hk
        refine ⟨by simpa using h1, h2, ?_⟩
        unfold pName at hq
        split at hq
        · cases hq
        · split at hq
          · cases hq
          · cases hq
            omega
theorem want2_eq (L : Bs) (j : Nat) : pWant L j [61, 34] = if L[j]? = some 61 then if L[j + 1]? = some 34 then .ok () (j + 2) else .err (j + 1) 3 else .err j 3 := rfl
theorem want2_ok {L : Bs} {j k : Nat} {u : Unit} (h : pWant L j [61, 34] = .ok u k) : k = j + 2 := by
  rw [want2_eq] at h
  split at h
  · split at h
    · cases h; rfl
    · cases h
  · cases h
theorem pVal_ok {L : Bs} {k m : Nat} {v : Bs} (h : pVal L k = .ok v m) : k < m := by
  unfold pVal at h
  split at h
  · split at h
    · cases h
    · split at h
      · cases h
        omega
      · cases h
  · cases h
theorem pRest_stop {f : Nat} {L : Bs} {i : Nat} {n : Bs} {ks : List Pr} (h : spN L i = 0) : pRest (f + 1) L i n ks = pEnd L ⟨false, n, ks⟩ i := by
  unfold pRest pKeys
  rw [if_pos h]
theorem pRest_step {f : Nat} {L : Bs} {i : Nat} {n : Bs} {ks : List Pr} (h : spN L i ≠ 0) : pRest (f + 1) L i n ks =
    match pKeyName L (i + spN L i) ks with
    | .err a e => .err a e
    | .ok nm j => match pWant L j [61, 34] with
      | .err a e => .err a e
      | .ok _ k => match pVal L k with
        | .err a e => .err a e
        | .ok v m => pRest f L m n (ks ++ [(nm, v)]) := by
  unfold pRest
  rw [pKeys, if_neg h]
  cases pKeyName L (i + spN L i) ks with
  | err a e => rfl
  | ok nm j =>
    simp only [want2_eq]
    unfold pExpect
    by_cases h1 : L[j]? = some 61
    · simp only [if_pos h1, pValue_eq]
      by_cases h2 : L[j + 1]? = some 34
      · simp only [if_pos h2]
        cases pVal L (j + 1 + 1) <;> rfl
      · simp only [if_neg h2]
    · simp only [if_neg h1]
/-- Between two rounds over the keys. -/
def RI (q : Nat) (s SN : ByteArray) (n : Bs) (V : World) (R : PR TagL) (f : Nat) (wr : World) : Prop :=
  (∃ (i : Nat) (kv : Value) (ks : List Pr), RB wr (q + 1) s i false SN kv 0 0 false ∧ i ≤ s.size ∧ But (q + 1) V wr ∧ wr.ownsRow V.heap.size 54 2 kv ks.length (ks.flatMap encP) ∧ ks.length ≤ 8 ∧ Apart ks ∧ s.size < i + f ∧ pRest f s.data.toList i n ks = R) ∨
  ∃ a e : Nat, Over V wr (q + 1) s R a e
theorem tag_end {w V W wa wb wf : World} {q : Nat} {SN : ByteArray} {c : Bool} {n : Bs} {ks : List Pr} {v2 : Value} {R : PR TagL} {i : Nat} (hV : Below w.heap.size w V) (hq : w.heap.size = q) (hqV : q + 1 < V.heap.size) (hT : TQ V q (.bool false) (.string ⟨#[]⟩) (.slice none 0 0))
    (hW : But (q + 1) V W) (ha : But (q + 1) W wa) (hb : Below wa.heap.size wa wb) (hown : wb.ownsRow wa.heap.size 54 2 v2 (sortP ks).length ((sortP ks).flatMap encP)) (hSN : (⟨n.toArray⟩ : ByteArray) = SN) (hR : R = .ok ⟨c, n, ks⟩ i)
    (hf : wf = ((((wb.setCell ⟨q + 1, 4, none⟩ v2).setCell ⟨q, 0, none⟩ (.bool c)).setCell ⟨q, 1, none⟩ (.string SN)).setCell ⟨q, 2, none⟩ v2)) :
    TQ wf q (.bool c) (.string SN) v2 ∧ Below w.heap.size w wf ∧ ParseV R wf (.tuple #[.agg #[.bool c, .string SN, v2], .int .i64 0, .int .i64 0]) := by
  have hVa : But (q + 1) V wb := but_trans (but_trans hW ha) (but_below hb)
  have hsa : V.heap.size ≤ wa.heap.size := Nat.le_trans hW.size ha.size
  have hTb : TQ wb q (.bool false) (.string ⟨#[]⟩) (.slice none 0 0) := hT.but (Nat.lt_succ_self q) hVa
  have hTc : TQ (wb.setCell ⟨q + 1, 4, none⟩ v2) q (.bool false) (.string ⟨#[]⟩) (.slice none 0 0) := hTb.but (Nat.lt_succ_self q) (but_set _ _ _ _)
  have ho : ∀ j, v2.ownBlock = some j → wf.heap[j]? = wb.heap[j]? := by
    intro j hj
    obtain ⟨h1, h2⟩ := own_low hown j hj
    rw [hf]
    rw [Below.heap_setCell _ _ _ _ (by simp; omega), Below.heap_setCell _ _ _ _ (by simp; omega), Below.heap_setCell _ _ _ _ (by simp; omega), Below.heap_setCell _ _ _ _ (by simp; omega)]
  have hK := keys_own (own_below hown ho)
  have hB : Below w.heap.size w wf := by
    have h1 : Below w.heap.size w wb := hV.trans (below_but hVa (by omega) hV.size)
    rw [hf]
    exact (((h1.setCell (by simp; omega) _).setCell (by simp; omega) _).setCell (by simp; omega) _).setCell (by simp; omega) _
  refine ⟨?_, hB, ?_⟩
  · rw [hf]
    exact hTc.set _ _ _
  · rw [hR, ← hSN]
    exact ⟨_, rfl, hK⟩

theorem sp_zero {L : Bs} {i : Nat} (h : i < L.length) (hz : spN L i = 0) : L[i].toNat ≠ 32 := by
  intro e
  have e' : L[i] = 32 := UInt8.toNat_inj.1 e
  unfold spN at hz
  rw [List.drop_eq_getElem_cons h, e', List.takeWhile_cons] at hz
  simp at hz
theorem sp_pos {L : Bs} {i : Nat} (hz : spN L i ≠ 0) : ∃ h : i < L.length, L[i].toNat = 32 ∧ spN L i = spN L (i + 1) + 1 := by
  by_cases h : i < L.length
  · refine ⟨h, ?_⟩
    unfold spN at hz ⊢
    rw [List.drop_eq_getElem_cons h, List.takeWhile_cons] at hz ⊢
    by_cases h32 : (L[i] == 32) = true
    · rw [if_pos h32] at hz ⊢
      refine ⟨?_, by simp⟩
      have : L[i] = 32 := by simpa using h32
      rw [this]
      rfl
    · rw [if_neg h32] at hz
      simp at hz
  · unfold spN at hz
    rw [List.drop_eq_nil_of_le (by omega)] at hz
    simp at hz
theorem pair_one (x y : ByteArray) : ∀ u ∈ ([.string x, .string y] : List Value), u.oneCell' = true := by
  intro v hv
  simp only [List.mem_cons, List.not_mem_nil, or_false] at hv
  rcases hv with rfl | rfl <;> rfl

set_option maxRecDepth 100000 in
set_option maxHeartbeats 4000000 in
theorem refParse_bad (s : ByteArray) (hs : s.size ≤ 1000000) (w : World) (h0 : ¬ s.data.toList[0]? = some 60) :
    Calls Tryz.prog 7 #[.string s] w fun e w' => Below w.heap.size w w' ∧ ∃ v, e = .returned v ∧ ParseV (pTag s.data.toList) w' v := by
  obtain ⟨V, hV⟩ : ∃ V, ((w.alloc (.cells #[.bool false, .string ⟨#[]⟩, .slice none 0 0] 28)).alloc (.cells #[.string s, .int .i64 0, .bool false, .string ⟨#[]⟩, .slice none 0 0, .int .i64 0, .int .i64 0, .bool false] 49)) = V := ⟨_, rfl⟩
  have hbV : Below w.heap.size w V := by
    rw [← hV]
    exact ((Below.refl _ w).alloc (Nat.le_refl _) _).alloc (by simp) _
  have hBV : RB V (w.heap.size + 1) s ((0 : Nat) : Int) false ⟨#[]⟩ (.slice none 0 0) 0 0 false := by
    have := block_new (w.alloc (.cells #[.bool false, .string ⟨#[]⟩, .slice none 0 0] 28)) (.cells #[.string s, .int .i64 0, .bool false, .string ⟨#[]⟩, .slice none 0 0, .int .i64 0, .int .i64 0, .bool false] 49)
    rw [← hV]
    simp only [World.size_alloc] at this
    exact this
  have hTV : TQ V w.heap.size (.bool false) (.string ⟨#[]⟩) (.slice none 0 0) := by
    rw [← hV]
    exact block_alloc _ (block_new w _)
  obtain ⟨q, hq⟩ : ∃ q, w.heap.size = q := ⟨_, rfl⟩
  have hVs : q + 1 < V.heap.size := by rw [← hq]; exact hBV.lt
  have HQ := Lib.hid hq
  rw [hq] at hBV hTV
  have hwl := fun (c : UInt8) (hc : (⟨#[c]⟩ : ByteArray).size ≤ 10) => rwant_live hBV (Nat.zero_le _) hs ⟨#[c]⟩ hc
  have hw60 := hwl 60 (by decide)
  have hsz : s.data.toList.length = s.size := (Lib.size_eq s).symm
  have HBV := Lib.hid hBV
  have HTV := Lib.hid hTV
  have HbV := Lib.hid hbV
  have HV := Lib.hid hV
  have e60 : pWant s.data.toList 0 (⟨#[60]⟩ : ByteArray).data.toList = if s.data.toList[0]? = some 60 then .ok () 1 else .err 0 3 := rfl
  obtain ⟨R, hR⟩ : ∃ R, pTag s.data.toList = R := ⟨_, rfl⟩
  rw [hR]
  have HR := Lib.hid hR
  clear hR hV hbV hBV hTV hwl
  rw [e60, if_neg h0] at hw60
  have HA : Hid (R = .err 0 3) := Lib.hid (by
    rw [← HR.out]
    unfold pTag pExpect
    rw [if_neg h0])
  have HW := Lib.hid hw60
  clear hw60 e60 h0 hsz
  go_enter Tryz.func7, Tryz.ntmps7
  go_wp2_with fail
  rw [HV.out]
  clear hq
  refine HW.out.mono ?_
  rintro en w1 ⟨rfl, hb1, j1, hB1⟩
  have k7 := hB1.k7
  have HB1 := Lib.hid (And.intro hb1 hB1)
  have HN := Lib.hid (rname_over hB1 false)
  clear hb1 hB1
  go_wp2_with fail
  clear k7
  refine HN.out.mono ?_
  rintro en w2 ⟨rfl, hb2, hB2⟩
  have k3 := hB2.k3
  have f3 := hB2.fz 3
  have HO : Hid (Over V (w2.setCell ⟨q + 1, 3, none⟩ (.string ⟨#[]⟩)) (q + 1) s R 0 3) := Lib.hid ⟨but_trans HB1.out.1 (but_trans hb2 (but_set _ _ _ _)), ⟨_, _, _, _, hB2.name _⟩, HA.out⟩
  clear hb2 hB2
  go_wp2_with fail
  clear k3 f3
  generalize w2.setCell ⟨q + 1, 3, none⟩ (.string ⟨#[]⟩) = w3 at HO ⊢
  go_loopg [] 1 (fun f wr => wr = w3)
  case atStart => rfl
  case round =>
    subst hrel
    obtain ⟨ieh, ceh, neh, keh, hBh⟩ := HO.out.at_
    have k7 := hBh.k7
    clear hBh
    go_wp2_with fail
    clear k7
    obtain ⟨ie0, ce0, ne0, ke0, hBe0⟩ := HO.out.at_
    have HWO := Lib.hid (rwant_over hBe0 ⟨#[62]⟩ (by decide))
    clear hBe0
    go_wp2_with fail
    refine HWO.out.mono ?_
    rintro en wz ⟨rfl, rfl⟩
    obtain ⟨ie, ce, ne, ke, hBe⟩ := HO.out.at_
    have k5 := hBe.k5
    have k6 := hBe.k6
    have k7 := hBe.k7
    have hTe := HTV.out.but (Nat.lt_succ_self q) HO.out.but
    have t0 := cell_of (i := 0) hTe rfl
    have t1 := cell_of (i := 1) hTe rfl
    have t2 := cell_of (i := 2) hTe rfl
    have t3 := fun j => frozen_of (i := j) hTe
    clear hBe hTe
    go_wp2_with fail
    go_region
    go_wp2
    (try simp only [Exit.inBlock, Exit.then])
    obtain ⟨hTf, hbf⟩ := over_end HbV.out (Nat.le_of_eq HQ.out) (Nat.lt_succ_self q) HTV.out HO.out rfl
    refine bodyPost_ret (results_ref hTf _ rfl rfl rfl) rfl ⟨hbf, _, rfl, ?_⟩
    rw [HO.out.ans]
    rfl
set_option maxRecDepth 100000 in
set_option maxHeartbeats 4000000 in
theorem refParse_closing (s : ByteArray) (hs : s.size ≤ 1000000) (w : World) (h0 : s.data.toList[0]? = some 60) (h1 : s.data.toList[1]? = some 47) :
    Calls Tryz.prog 7 #[.string s] w fun e w' => Below w.heap.size w w' ∧ ∃ v, e = .returned v ∧ ParseV (pTag s.data.toList) w' v := by
  obtain ⟨V, hV⟩ : ∃ V, ((w.alloc (.cells #[.bool false, .string ⟨#[]⟩, .slice none 0 0] 28)).alloc (.cells #[.string s, .int .i64 0, .bool false, .string ⟨#[]⟩, .slice none 0 0, .int .i64 0, .int .i64 0, .bool false] 49)) = V := ⟨_, rfl⟩
  have hbV : Below w.heap.size w V := by
    rw [← hV]
    exact ((Below.refl _ w).alloc (Nat.le_refl _) _).alloc (by simp) _
  have hBV : RB V (w.heap.size + 1) s ((0 : Nat) : Int) false ⟨#[]⟩ (.slice none 0 0) 0 0 false := by
    have := block_new (w.alloc (.cells #[.bool false, .string ⟨#[]⟩, .slice none 0 0] 28)) (.cells #[.string s, .int .i64 0, .bool false, .string ⟨#[]⟩, .slice none 0 0, .int .i64 0, .int .i64 0, .bool false] 49)
    rw [← hV]
    simp only [World.size_alloc] at this
    exact this
  have hTV : TQ V w.heap.size (.bool false) (.string ⟨#[]⟩) (.slice none 0 0) := by
    rw [← hV]
    exact block_alloc _ (block_new w _)
  obtain ⟨q, hq⟩ : ∃ q, w.heap.size = q := ⟨_, rfl⟩
  have hVs : q + 1 < V.heap.size := by rw [← hq]; exact hBV.lt
  have HQ := Lib.hid hq
  rw [hq] at hBV hTV
  have hwl := fun (c : UInt8) (hc : (⟨#[c]⟩ : ByteArray).size ≤ 10) => rwant_live hBV (Nat.zero_le _) hs ⟨#[c]⟩ hc
  have hw60 := hwl 60 (by decide)
  have hsz : s.data.toList.length = s.size := (Lib.size_eq s).symm
  have HBV := Lib.hid hBV
  have HTV := Lib.hid hTV
  have HbV := Lib.hid hbV
  have HV := Lib.hid hV
  have e60 : pWant s.data.toList 0 (⟨#[60]⟩ : ByteArray).data.toList = if s.data.toList[0]? = some 60 then .ok () 1 else .err 0 3 := rfl
  obtain ⟨R, hR⟩ : ∃ R, pTag s.data.toList = R := ⟨_, rfl⟩
  rw [hR]
  have HR := Lib.hid hR
  clear hR hV hbV hBV hTV hwl
  rw [e60, if_pos h0] at hw60
  have hpt : R = match pName s.data.toList 2 with
      | .err a e => .err a e
      | .ok n j => pEnd s.data.toList ⟨true, n, []⟩ j := by
    rw [← HR.out]
    unfold pTag pExpect
    rw [if_pos h0]
    simp only [Nat.zero_add, h1, if_true, Nat.reduceAdd]
    cases pName s.data.toList 2 <;> rfl
  have hs1 : 1 < s.size := by rw [← hsz]; exact (List.getElem?_eq_some_iff.1 h1).1
  have hd : (s[1]'hs1).toNat = 47 := by
    have := (List.getElem?_eq_some_iff.1 h1).2
    have e : (s[1]'hs1) = s.data.toList[1] := rfl
    rw [e, this]
    rfl
  have hl1 : (1 : Int) < (s.size : Int) := by omega
  have HW := Lib.hid hw60
  have HSZ := Lib.hid hsz
  have HPT := Lib.hid hpt
  clear hw60 e60 h0 h1 hsz hpt
  go_enter Tryz.func7, Tryz.ntmps7
  go_wp2_with fail
  rw [HV.out]
  clear hq
  refine HW.out.mono ?_
  rintro en w1 ⟨rfl, hb1, hB1, _⟩
  have k7 := hB1.k7
  have k1 : w1.cell? ⟨q + 1, 1, none⟩ = some (.int .i64 1) := hB1.k1
  have k2 := hB1.k2
  have fz := fun j => hB1.fz j
  have hB2 := (hB1.move 2).close true
  have hb2 := but_trans hb1 (but_trans (but_set (q + 1) 1 w1 (.int .i64 2)) (but_set (q + 1) 2 _ (.bool true)))
  obtain ⟨w2, hw2⟩ : ∃ w2, ((w1.setCell ⟨q + 1, 1, none⟩ (.int .i64 2)).setCell ⟨q + 1, 2, none⟩ (.bool true)) = w2 := ⟨_, rfl⟩
  rw [hw2] at hB2 hb2
  have HW2 := Lib.hid hw2
  have HNM := Lib.hid (rname_live (show RB w2 (q + 1) s ((2 : Nat) : Int) true ⟨#[]⟩ (.slice none 0 0) 0 0 false from hB2) (by omega) hs false [] (fun h => by cases h))
  have HB2 := Lib.hid hb2
  clear hb1 hB1 hB2 hb2 hw2
  go_wp2_with fail
  clear k7 k1 k2 fz hd hl1
  rw [HW2.out]
  cases hp : pName s.data.toList 2 with
  | err a e =>
    have HA : Hid (R = .err a e) := Lib.hid (by rw [HPT.out, hp])
    have HNM : Hid (Calls Tryz.prog 18 #[.pointer (some ⟨q + 1, 0, none⟩), .bool false] w2 fun en w' => StandsS (q + 1) s true ⟨#[]⟩ (.slice none 0 0) (.err a e) w2 en w') := Lib.hid (by rw [← hp]; exact HNM.out)
    clear hp
    refine HNM.out.mono ?_
    rintro en w3 ⟨hb3, x, j3, rfl, hB3⟩
    have k3 := hB3.k3
    have f3 := hB3.fz 3
    have HO : Hid (Over V (w3.setCell ⟨q + 1, 3, none⟩ (.string x)) (q + 1) s R a e) := Lib.hid ⟨but_trans HB2.out (but_trans hb3 (but_set _ _ _ _)), ⟨_, _, _, _, hB3.name _⟩, HA.out⟩
    clear hb3 hB3
    go_wp2_with fail
    clear k3 f3
    generalize w3.setCell ⟨q + 1, 3, none⟩ (.string x) = w4 at HO ⊢
    go_loopg [] 1 (fun f wr => wr = w4)
    case atStart => rfl
    case round =>
      subst hrel
      obtain ⟨ieh, ceh, neh, keh, hBh⟩ := HO.out.at_
      have k7 := hBh.k7
      clear hBh
      go_wp2_with fail
      clear k7
      obtain ⟨ie0, ce0, ne0, ke0, hBe0⟩ := HO.out.at_
      have HWO := Lib.hid (rwant_over hBe0 ⟨#[62]⟩ (by decide))
      clear hBe0
      go_wp2_with fail
      refine HWO.out.mono ?_
      rintro en wz ⟨rfl, rfl⟩
      obtain ⟨ie, ce, ne, ke, hBe⟩ := HO.out.at_
      have k5 := hBe.k5
      have k6 := hBe.k6
      have k7 := hBe.k7
      have hTe := HTV.out.but (Nat.lt_succ_self q) HO.out.but
      have t0 := cell_of (i := 0) hTe rfl
      have t1 := cell_of (i := 1) hTe rfl
      have t2 := cell_of (i := 2) hTe rfl
      have t3 := fun j => frozen_of (i := j) hTe
      clear hBe hTe
      go_wp2_with fail
      go_region
      go_wp2
      (try simp only [Exit.inBlock, Exit.then])
      obtain ⟨hTf, hbf⟩ := over_end HbV.out (Nat.le_of_eq HQ.out) (Nat.lt_succ_self q) HTV.out HO.out rfl
      refine bodyPost_ret (results_ref hTf _ rfl rfl rfl) rfl ⟨hbf, _, rfl, ?_⟩
      rw [HO.out.ans]
      rfl
  | ok n i =>
    have HE : Hid (R = pEnd s.data.toList ⟨true, n, []⟩ i) := Lib.hid (by rw [HPT.out, hp])
    have HNM : Hid (Calls Tryz.prog 18 #[.pointer (some ⟨q + 1, 0, none⟩), .bool false] w2 fun en w' => StandsS (q + 1) s true ⟨#[]⟩ (.slice none 0 0) (.ok n i) w2 en w') := Lib.hid (by rw [← hp]; exact HNM.out)
    clear hp
    refine HNM.out.mono ?_
    rintro en w3 ⟨hb3, rfl, hB3, hi3⟩
    obtain ⟨SN, hSN⟩ : ∃ S : ByteArray, (⟨n.toArray⟩ : ByteArray) = S := ⟨_, rfl⟩
    rw [hSN]
    have HSN := Lib.hid hSN
    have k3 := hB3.k3
    have f3 := hB3.fz 3
    obtain ⟨w4, hw4⟩ : ∃ w4, w3.setCell ⟨q + 1, 3, none⟩ (.string SN) = w4 := ⟨_, rfl⟩
    have hB4 : RB w4 (q + 1) s (i : Int) true SN (.slice none 0 0) 0 0 false := by rw [← hw4]; exact hB3.name SN
    have hb4 : But (q + 1) V w4 := by rw [← hw4]; exact but_trans HB2.out (but_trans hb3 (but_set _ _ _ _))
    have HL := Lib.hid (And.intro hB4 (And.intro hb4 hi3))
    have HW4 := Lib.hid hw4
    clear hb3 hB3 hB4 hb4 hw4 hSN
    go_wp2_with fail
    rw [HW4.out]
    clear k3 f3
    go_loopg [] 1 (fun f wr => wr = w4)
    case atStart => rfl
    case round =>
      subst hrel
      have k7 := HL.out.1.k7
      have k2 := HL.out.1.k2
      go_wp2_with fail
      clear k7 k2
      obtain ⟨cc, hcc⟩ : ∃ c, true = c := ⟨_, rfl⟩
      obtain ⟨ks, hks⟩ : ∃ l : List Pr, [] = l := ⟨_, rfl⟩
      have HK : Hid (wr.ownsRow V.heap.size 54 2 (.slice none 0 0) ks.length (ks.flatMap encP) ∧ ks.length ≤ 8) := Lib.hid (by rw [← hks]; exact ⟨World.ownsRow_nil _ _ _ _, Nat.zero_le _⟩)
      rw [hks] at HE
      rw [hcc] at HE HL
      clear hcc hks
      have hwt := rwant_live HL.out.1 HL.out.2.2 hs ⟨#[62]⟩ (by decide)
      have e62 : pWant s.data.toList i (⟨#[62]⟩ : ByteArray).data.toList = if s.data.toList[i]? = some 62 then .ok () (i + 1) else .err i 3 := rfl
      rw [e62] at hwt
      clear e62
      by_cases h62 : s.data.toList[i]? = some 62
      · rw [if_pos h62] at hwt
        have HE2 : Hid (R = if i + 1 < s.size then .err (i + 1) 3 else .ok ⟨cc, n, ks⟩ (i + 1)) := Lib.hid (by rw [HE.out, pEnd_eq, if_pos h62, HSZ.out])
        obtain ⟨j, hj⟩ : ∃ j, i + 1 = j := ⟨_, rfl⟩
        rw [hj] at hwt HE2
        have HWT := Lib.hid hwt
        clear hwt h62 hj
        go_wp2_with fail
        refine HWT.out.mono ?_
        rintro en wa ⟨rfl, hba, hBa, hja⟩
        have k7 := hBa.k7
        have k1 := hBa.k1
        by_cases hlt : j < s.size
        · have hli : (j : Int) < (s.size : Int) := by omega
          have HA : Hid (R = .err j 3) := Lib.hid (by rw [HE2.out, if_pos hlt])
          have HF := Lib.hid (fun (x y : Int) => rfail_live hBa x y)
          have HBA := Lib.hid (but_trans HL.out.2.1 hba)
          clear hBa hba
          go_wp2_with fail
          refine (HF.out _ _).mono ?_
          rintro en wb ⟨rfl, hBb, hbb⟩
          have HO : Hid (Over V wb (q + 1) s R j 3) := Lib.hid ⟨but_trans HBA.out hbb, ⟨_, _, _, _, hBb⟩, HA.out⟩
          clear hBb hbb k7 k1 hli
          obtain ⟨ie, ce, ne, ke, hBe⟩ := HO.out.at_
          have k5 := hBe.k5
          have k6 := hBe.k6
          have k7 := hBe.k7
          have hTe := HTV.out.but (Nat.lt_succ_self q) HO.out.but
          have t0 := cell_of (i := 0) hTe rfl
          have t1 := cell_of (i := 1) hTe rfl
          have t2 := cell_of (i := 2) hTe rfl
          have t3 := fun j => frozen_of (i := j) hTe
          clear hBe hTe
          go_wp2_with fail
          go_region
          go_wp2
          (try simp only [Exit.inBlock, Exit.then])
          obtain ⟨hTf, hbf⟩ := over_end HbV.out (Nat.le_of_eq HQ.out) (Nat.lt_succ_self q) HTV.out HO.out rfl
          refine bodyPost_ret (results_ref hTf _ rfl rfl rfl) rfl ⟨hbf, _, rfl, ?_⟩
          rw [HO.out.ans]
          rfl
        · have hli : ¬ (j : Int) < (s.size : Int) := by omega
          have HA : Hid (R = .ok ⟨cc, n, ks⟩ j) := Lib.hid (by rw [HE2.out, if_neg hlt])
          have hoa := own_but HK.out.1 hVs hba
          have k4 := hBa.k4
          have HS := Lib.hid (refSort_any (keys_own hoa) (by have := HK.out.2; omega))
          have HBA := Lib.hid (And.intro hba hBa)
          clear hoa hBa hba
          go_wp2_with fail
          clear k4 k7 k1 hli
          refine HS.out.mono ?_
          rintro en wb ⟨⟨v2, rfl, hown⟩, hbb⟩
          obtain ⟨A2, cap2, hv2, _⟩ := own_form hown
          have HOW := Lib.hid hown
          obtain ⟨l2, hl2⟩ : ∃ l, (sortP ks).length = l := ⟨_, rfl⟩
          rw [hl2] at hv2
          have hBb := HBA.out.2.below hbb
          have hBc := hBb.keys v2
          have hTb : TQ (wb.setCell ⟨q + 1, 4, none⟩ v2) q (.bool false) (.string ⟨#[]⟩) (.slice none 0 0) := ((HTV.out.but (Nat.lt_succ_self q) (but_trans HL.out.2.1 HBA.out.1)).but (Nat.lt_succ_self q) (but_below hbb)).but (Nat.lt_succ_self q) (but_set _ _ _ _)
          subst hv2
          have g4 := hBb.k4
          have f4 := hBb.fz 4
          have c2 := hBc.k2
          have c3 := hBc.k3
          have c4 := hBc.k4
          have t0 := cell_of (i := 0) hTb rfl
          have t1 := cell_of (i := 1) hTb rfl
          have t2 := cell_of (i := 2) hTb rfl
          have t3 := fun j => frozen_of (i := j) hTb
          have HBB := Lib.hid hbb
          clear hown hl2 hBb hBc hTb hbb
          go_wp2_with fail
          obtain ⟨hTf, hbf, hpf⟩ := tag_end HbV.out HQ.out hVs HTV.out HL.out.2.1 HBA.out.1 HBB.out HOW.out HSN.out HA.out rfl
          (try simp only [Exit.inBlock, Exit.then])
          exact bodyPost_ret (results_ref hTf _ rfl rfl rfl) rfl ⟨hbf, _, rfl, hpf⟩
      · rw [if_neg h62] at hwt
        have HA : Hid (R = .err i 3) := Lib.hid (by rw [HE.out, pEnd_eq, if_neg h62])
        have HWT := Lib.hid hwt
        clear hwt h62
        go_wp2_with fail
        refine HWT.out.mono ?_
        rintro en wa ⟨rfl, hba, ja, hBa⟩
        have HO : Hid (Over V wa (q + 1) s R i 3) := Lib.hid ⟨but_trans HL.out.2.1 hba, ⟨_, _, _, _, hBa⟩, HA.out⟩
        clear hba hBa
        obtain ⟨ie, ce, ne, ke, hBe⟩ := HO.out.at_
        have k5 := hBe.k5
        have k6 := hBe.k6
        have k7 := hBe.k7
        have hTe := HTV.out.but (Nat.lt_succ_self q) HO.out.but
        have t0 := cell_of (i := 0) hTe rfl
        have t1 := cell_of (i := 1) hTe rfl
        have t2 := cell_of (i := 2) hTe rfl
        have t3 := fun j => frozen_of (i := j) hTe
        clear hBe hTe
        go_wp2_with fail
        go_region
        go_wp2
        (try simp only [Exit.inBlock, Exit.then])
        obtain ⟨hTf, hbf⟩ := over_end HbV.out (Nat.le_of_eq HQ.out) (Nat.lt_succ_self q) HTV.out HO.out rfl
        refine bodyPost_ret (results_ref hTf _ rfl rfl rfl) rfl ⟨hbf, _, rfl, ?_⟩
        rw [HO.out.ans]
        rfl
end Go.Proofs.YtjablaidbccnbaaGreatDoor
