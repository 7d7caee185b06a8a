/-
  WALKS over package interval: slices.IndexFunc and slices.DeleteFunc at spans.
-/
import Derived.Test.YtpkkebojiengpaaIbG
namespace Go.Proofs.Ytpkkebojiengpaa
open Go.RowKit Go.Shelf Go.Lib
set_option linter.unusedVariables false
set_option linter.unusedSimpArgs false

/-- The first place at which p holds, or -1. -/
def findZ {α : Type} (p : α → Bool) (l : List α) : Int := match l.findIdx? p with | none => -1 | some i => (i : Int)
theorem findZ_spec {α : Type} (p : α → Bool) (l : List α) : (findZ p l = -1 ∧ ∀ x ∈ l, p x = false) ∨ ∃ (i : Nat) (x : α), l[i]? = some x ∧ p x = true ∧ (∀ (j : Nat) (y : α), j < i → l[j]? = some y → p y = false) ∧ findZ p l = (i : Int) := by
  unfold findZ
  cases h : l.findIdx? p with
  | none => exact .inl ⟨rfl, fun x hx => by simpa using List.findIdx?_eq_none_iff.1 h x hx⟩
  | some i =>
    obtain ⟨hi, hp, hj⟩ := List.findIdx?_eq_some_iff_getElem.1 h
    refine .inr ⟨i, l[i], List.getElem?_eq_getElem hi, hp, fun j y hji hy => ?_, rfl⟩
    obtain ⟨hjl, rfl⟩ := List.getElem?_eq_some_iff.1 hy
    simpa using hj j hji
theorem findZ_at {α : Type} {p : α → Bool} {l : List α} {i : Nat} {x : α} (h : l[i]? = some x) (hp : p x = true) (hj : ∀ (j : Nat) (y : α), j < i → l[j]? = some y → p y = false) : findZ p l = (i : Int) := by
  rcases findZ_spec p l with ⟨_, h1⟩ | ⟨k, y, hk, hy, h2, h3⟩
  · rw [h1 x (List.mem_of_getElem? h)] at hp; cases hp
  · rcases Nat.lt_trichotomy k i with e | e | e
    · rw [hj k y e hk] at hy; cases hy
    · rw [h3, e]
    · rw [h2 i x e h] at hp; cases hp
theorem findZ_hit {α : Type} {p : α → Bool} {xs : List α} {k : Nat} {x : α} (hx : xs[k]? = some x) (hp : p x = true) (h : ∀ (j : Nat) (y : α), j < k → xs[j]? = some y → p y = false) : findZ p xs = (k : Int) := findZ_at hx hp h
theorem findZ_miss {α : Type} {p : α → Bool} {xs : List α} {k : Nat} (hk : k = xs.length) (h : ∀ (j : Nat) (y : α), j < k → xs[j]? = some y → p y = false) : findZ p xs = -1 := by
  rcases findZ_spec p xs with ⟨e, _⟩ | ⟨i, x, hi, hp, _, _⟩
  · exact e
  · have := (List.getElem?_eq_some_iff.1 hi).1
    rw [h i x (by omega) hi] at hp
    cases hp
set_option maxHeartbeats 2000000 in
theorem indexFunc_sp {α : Type} {E : World → List Value → α → Prop} (hE : Stays E) {w : World} {v : Value} {xs : List α} (hv : Rows 2 E w v xs) (hl : xs.length ≤ maxLen) (g : FuncId) (lb : Array Value)
    (eg : ∀ args w, (callFunc g args).run Try.prog w = .ok (.enter g args) w) (p : α → Bool)
    (hp : ∀ (W : World) (x : α) (u0 u1 : Value), Below w.heap.size w W → x ∈ xs → E W [u0, u1] x → Calls Try.prog g (#[.agg #[u0, u1]] ++ lb) W fun e w' => e = .returned (.bool (p x)) ∧ Below W.heap.size W w') :
    Calls Try.prog 59 #[v, .func (.func g) #[] lb] w fun e w' => e = .returned (.int .i64 (findZ p xs)) ∧ Below w.heap.size w w' := by
  obtain ⟨A, cap, rfl, hc⟩ := hv.form
  obtain ⟨n, hn⟩ : ∃ n, xs.length = n := ⟨_, rfl⟩
  have HV := Lib.hid (fun W (h : Below w.heap.size w W) => hv.below hE h)
  rw [hn] at hc hl HV ⊢
  have HN := Lib.hid hn
  have HP := Lib.hid hp
  unfold maxLen at hl
  clear hn hv hp hE
  go_enter Try.func59, Try.ntmps59
  go_wp2_with fail
  go_loopw [5, 8] (fun _ i wr => ∃ k : Nat, k ≤ n ∧ i = .int .i64 k ∧ Hid (∀ (j : Nat) (y : α), j < k → xs[j]? = some y → p y = false) ∧ Below w.heap.size w wr) (fun _ i _ => n - (Go.RowKit.intOf i).toNat)
  case atStart => exact ⟨0, Nat.zero_le _, rfl, Lib.hid (fun j y h => absurd h (by omega)), Below.refl _ _⟩
  case round =>
    obtain ⟨k, hk, rfl, hs, hb⟩ := hrel
    by_cases hlt : k < n
    · obtain ⟨x, hx⟩ : ∃ x, xs[k]? = some x := ⟨_, List.getElem?_eq_getElem (by rw [HN.out]; omega)⟩
      obtain ⟨bk, off, rfl, hbl, hj⟩ := (HV.out wr hb).at' (by rw [HN.out]; omega)
      obtain ⟨cs, hcl, hec, hcell⟩ := hj k x hx
      obtain ⟨u0, u1, rfl⟩ : ∃ u0 u1, cs = [u0, u1] := by
        match cs, hcl with
        | [u0, u1], _ => exact ⟨u0, u1, rfl⟩
      have c0 := hcell 0 _ rfl
      have c1 := hcell 1 _ rfl
      rw [Nat.add_zero] at c0
      have hcall := HP.out wr x u0 u1 hb (List.mem_of_getElem? hx) hec
      obtain ⟨q, hq⟩ : ∃ q, p x = q := ⟨_, rfl⟩
      rw [hq] at hcall
      have HC := Lib.hid hcall
      have HX := Lib.hid hx
      have HQ := Lib.hid hq
      have HB := Lib.hid hb
      clear hcall hx hq hb hj hec hcell hbl
      cases q with
      | true =>
        go_wp2_with (go_at_fn g; refine HC.out.mono ?_; rintro e w' ⟨rfl, hb'⟩)
        go_ret
        exact ⟨by rw [findZ_hit HX.out HQ.out hs.out]; rfl, HB.out.trans (hb'.mono HB.out.size)⟩
      | false =>
        go_wp2_with (go_at_fn g; refine HC.out.mono ?_; rintro e w' ⟨rfl, hb'⟩; have HB' := Lib.hid hb'; clear hb')
        refine ⟨⟨k + 1, by omega, by go_num, Lib.hid (fun j y hj hy => ?_), HB.out.trans (HB'.out.mono HB.out.size)⟩, by simp only [Go.RowKit.intOf]; omega⟩
        by_cases e : j = k
        · subst e
          rw [HX.out] at hy
          cases hy
          exact HQ.out
        · exact hs.out j y (by omega) hy
    · obtain rfl : k = n := by omega
      have HB := Lib.hid hb
      clear hb
      go_wp2_with fail
      go_ret
      exact ⟨by rw [findZ_miss HN.out.symm hs.out]; rfl, HB.out⟩

/-- What the row holds between two rounds: i elements kept out of the first j; from j on as it was. -/
def DelI (os : List Sp) (kp : Sp → Bool) (cap : Nat) (cur : Array Value) (i j : Nat) : Prop :=
  cur.size = cap * 2 ∧ i = ((os.take j).filter kp).length ∧ (∀ p, p < i * 2 → cur[p]? = (((os.take j).filter kp).flatMap spV)[p]?) ∧ ∀ p, j * 2 ≤ p → p < os.length * 2 → cur[p]? = (os.flatMap spV)[p]?
theorem DelI.le {os : List Sp} {kp : Sp → Bool} {cap : Nat} {cur : Array Value} {i j : Nat} (h : DelI os kp cap cur i j) : i ≤ j := by
  rw [h.2.1]
  have := List.length_filter_le kp (os.take j)
  rw [List.length_take] at this
  omega
theorem DelI.skip {os : List Sp} {kp : Sp → Bool} {cap : Nat} {cur : Array Value} {i j : Nat} {o : Sp} (h : DelI os kp cap cur i j) (ho : os[j]? = some o) (hk : kp o = false) : DelI os kp cap cur i (j + 1) := by
  have e : (os.take (j + 1)).filter kp = (os.take j).filter kp := by rw [List.take_add_one, ho, List.filter_append]; simp [hk]
  unfold DelI
  rw [e]
  exact ⟨h.1, h.2.1, h.2.2.1, fun p h1 h2 => h.2.2.2 p (by omega) h2⟩
theorem DelI.keep {os : List Sp} {kp : Sp → Bool} {cap : Nat} {cur : Array Value} {i j : Nat} {o : Sp} (h : DelI os kp cap cur i j) (ho : os[j]? = some o) (hk : kp o = true) (hn : os.length ≤ cap) :
    DelI os kp cap ((cur.setIfInBounds (i * 2) (.int .i64 o.1)).setIfInBounds (i * 2 + 1) (.int .i64 o.2)) (i + 1) (j + 1) := by
  have hle := h.le
  have hj := (List.getElem?_eq_some_iff.1 ho).1
  have e : (os.take (j + 1)).filter kp = (os.take j).filter kp ++ [o] := by rw [List.take_add_one, ho, List.filter_append]; simp [hk]
  obtain ⟨h1, h2, h3, h4⟩ := h
  unfold DelI
  rw [e]
  refine ⟨by simp [h1], by rw [List.length_append, ← h2]; rfl, fun p hp => ?_, fun p hp1 hp2 => ?_⟩
  · rw [set2 cur (i * 2) _ _ (by rw [h1]; omega), List.flatMap_append]
    have hfl : (((os.take j).filter kp).flatMap spV).length = i * 2 := by rw [flatM_len spV_len, ← h2]
    by_cases hpi : p < i * 2
    · rw [if_neg (by omega), if_neg (by omega), h3 p hpi, List.getElem?_append_left (by rw [hfl]; exact hpi)]
    · rw [List.getElem?_append_right (by rw [hfl]; omega), hfl]
      rcases (by omega : p = i * 2 ∨ p = i * 2 + 1) with rfl | rfl
      · rw [if_pos rfl, Nat.sub_self]; rfl
      · rw [if_neg (by omega), if_pos rfl, show i * 2 + 1 - i * 2 = 1 by omega]; rfl
  · rw [set2 cur (i * 2) _ _ (by rw [h1]; omega), if_neg (by omega), if_neg (by omega)]
    exact h4 p (by omega) hp2
/-- What DeleteFunc answers. -/
def DelV (w : World) (base : Nat) (v : Value) (L : List Sp) (e : Ending) (w' : World) : Prop :=
  (∃ v', e = .returned v' ∧ w'.ownsRow base 31 2 v' L.length (L.flatMap spV) ∧ (v'.ownBlock = v.ownBlock)) ∧ w.grownBy w' v.ownBlock

set_option maxRecDepth 100000 in
set_option maxHeartbeats 8000000 in
theorem deleteSp_any {w : World} {base : Nat} {v : Value} {os : List Sp} (hown : w.ownsRow base 31 2 v os.length (os.flatMap spV)) (hn : os.length ≤ 1000000) (hbase : base ≤ w.heap.size) (fn : FuncId) (lb : Array Value)
    (eg : ∀ args w, (callFunc fn args).run Try.prog w = .ok (.enter fn args) w) (kp : Sp → Bool)
    (hp : ∀ (W : World) (x : Sp), Below base w W → x ∈ os → Calls Try.prog fn (#[.agg #[.int .i64 x.1, .int .i64 x.2]] ++ lb) W fun e w' => e = .returned (.bool (!kp x)) ∧ Below W.heap.size W w') :
    Calls Try.prog 51 #[v, .func (.func fn) #[] lb] w (DelV w base v (os.filter kp)) := by
  have hrow : Rows 2 ESp w v os := own_sp hown
  have hif := indexFunc_sp stays_sp hrow (by unfold maxLen; omega) fn lb eg (fun o => !kp o) (by
    intro W o u0 u1 hW ho hE
    have hE : [u0, u1] = spV o := hE
    simp only [spV, List.cons.injEq, and_true] at hE
    obtain ⟨rfl, rfl⟩ := hE
    exact hp W o (hW.mono hbase) ho)
  obtain ⟨n, hnn⟩ : ∃ n, os.length = n := ⟨_, rfl⟩
  rcases findZ_spec (fun o => !kp o) os with ⟨hm, hall⟩ | ⟨k0, o0, hk0, hp0, hj0, hm⟩
  · -- nothing is struck
    rw [hm] at hif
    have hf : os.filter kp = os := List.filter_eq_self.2 fun o ho => by have := hall o ho; simpa using this
    have HOWN := Lib.hid hown
    have HF := Lib.hid hf
    have HIF := Lib.hid hif
    clear hif hall hm hf hrow hown hp
    go_enter Try.func51, Try.ntmps51
    go_wp2_with fail
    refine HIF.out.mono ?_
    rintro e w1 ⟨rfl, hb1⟩
    have HB1 := Lib.hid hb1
    clear hb1
    go_wp2_with fail
    go_ret
    refine ⟨⟨_, rfl, ?_, rfl⟩, grown_below HB1.out _⟩
    rw [HF.out]
    exact own_below HOWN.out fun k hk => HB1.out.block k ((own_low HOWN.out k hk).2)
  · rw [hm] at hif
    have hk0l := (List.getElem?_eq_some_iff.1 hk0).1
    rcases hown.2 with ⟨rfl, h0⟩ | ⟨g, cap, cur0, hv, hbg, hg, hnc, hcm, hcs, htk⟩
    · omega
    · subst hv
      have hi0 : DelI os kp cap cur0 k0 (k0 + 1) := by
        have hft : (os.take k0).filter kp = os.take k0 := List.filter_eq_self.2 fun o ho => by
          obtain ⟨j, hj, rfl⟩ := List.mem_take_iff_getElem.1 ho
          have := hj0 j _ (by omega) (List.getElem?_eq_getElem (by omega))
          simpa using this
        have hft2 : (os.take (k0 + 1)).filter kp = os.take k0 := by
          rw [List.take_add_one, hk0, List.filter_append, hft]
          have : kp o0 = false := by simpa using hp0
          simp [this]
        have hcur : ∀ p, p < os.length * 2 → cur0[p]? = (os.flatMap spV)[p]? := fun p hp => by
          rw [← htk, List.getElem?_take, if_pos (by omega)]
          simp
        refine ⟨hcs, by rw [hft2, List.length_take]; omega, fun p hp => ?_, fun p hp1 hp2 => hcur p hp2⟩
        rw [hft2, hcur p (by omega)]
        have hsplit : os.flatMap spV = (os.take k0).flatMap spV ++ (os.drop k0).flatMap spV := by rw [← List.flatMap_append, List.take_append_drop]
        rw [hsplit, List.getElem?_append_left (by rw [flatM_len spV_len, List.length_take]; omega)]
      have hgl := (Array.getElem?_eq_some_iff.1 hg).1
      rw [hnn] at hn hk0l hnc hif ⊢
      have HNN := Lib.hid hnn
      have HG := Lib.hid hg
      have HIF := Lib.hid hif
      have HI0 := Lib.hid hi0
      have HGL := Lib.hid hgl
      have HBS := Lib.hid hbg
      have HCM := Lib.hid hcm
      have HP := Lib.hid hp
      have HBASE := Lib.hid hbase
      have hne1 : ((k0 : Int) == -1) = false := beq_eq_false_iff_ne.2 (by omega)
      clear hif hi0 hrow hown hg hgl hcs htk hm hj0 hp0 hk0 hnn hbg hp hbase hcm
      go_enter Try.func51, Try.ntmps51
      go_wp2_with fail
      refine HIF.out.mono ?_
      rintro e w1 ⟨rfl, hb1⟩
      have HB1 := Lib.hid hb1
      clear hb1
      go_wp2_with fail
      go_loopw [5, 6] (fun a b wr => ∃ (i j : Nat) (cur : Array Value), a = .int .i64 i ∧ b = .int .i64 j ∧ j ≤ n ∧ k0 < j ∧ i < j ∧ Hid (wr.heap[g]? = some (.cells cur 31 (0, 0))) ∧ Hid (DelI os kp cap cur i j) ∧ Hid (w.grownBy wr (some g))) (fun _ b _ => n - (Go.RowKit.intOf b).toNat)
      case atStart => exact ⟨k0, k0 + 1, cur0, rfl, by go_num, by omega, by omega, by omega, Lib.hid (block_below HG.out HB1.out HGL.out), HI0, Lib.hid (grown_below HB1.out _)⟩
      case round =>
        obtain ⟨i, j, cur, rfl, rfl, hjn, hkj, hij, HW, HD, HGR⟩ := hrel
        by_cases hlt : j < n
        · obtain ⟨o, ho⟩ : ∃ o, os[j]? = some o := ⟨_, List.getElem?_eq_getElem (by rw [HNN.out]; exact hlt)⟩
          obtain ⟨c0, c1⟩ := cell_sp HW.out ho (fun p h1 h2 => HD.out.2.2.2 p h1 h2)
          have hcall : ∀ X, Below wr.heap.size wr X → _ := fun X h => HP.out X o (below_of_grown (grown_trans HGR.out (grown_below h _)) HBASE.out (fun k hk => by cases hk; exact HBS.out)) (List.mem_of_getElem? ho)
          have hok : ∀ t, t < 2 → ∃ u, cur[i * 2 + t]? = some u := fun t ht => by
            have := HD.out.1
            have hcc : n ≤ cap := hnc
            exact ⟨_, Array.getElem?_eq_getElem (by rw [this]; omega)⟩
          have hskip := fun hk => HD.out.skip ho hk
          have hkeep := fun hk => HD.out.keep ho hk (by rw [HNN.out]; exact hnc)
          obtain ⟨z, hz⟩ : ∃ z, kp o = z := ⟨_, rfl⟩
          rw [hz] at hskip hkeep
          simp only [hz] at hcall
          obtain ⟨ob, oe⟩ := o
          simp only at hcall c0 c1 hkeep
          obtain ⟨X, hX⟩ : ∃ X, wr.alloc (.cells #[.int .i64 ob, .int .i64 oe] 31) = X := ⟨_, rfl⟩
          have hbX : Below wr.heap.size wr X := by rw [← hX]; exact below_box wr _
          obtain ⟨N0, hN0⟩ : ∃ N0, wr.heap.size = N0 := ⟨_, rfl⟩
          have e1 : X.heap[N0]? = some (.cells #[.int .i64 ob, .int .i64 oe] 31 (0, 0)) := by rw [← hX, ← hN0]; exact block_new wr _
          have hgX : X.heap[g]? = some (.cells cur 31 (0, 0)) := block_below HW.out hbX (Array.getElem?_eq_some_iff.1 HW.out).1
          have g0 := cell_of (i := 0) e1 rfl
          have g1 := cell_of (i := 1) e1 rfl
          have HCALL := Lib.hid (hcall X hbX)
          have HX := Lib.hid hX
          have HN0 := Lib.hid hN0
          have HGX := Lib.hid hgX
          have HE1 := Lib.hid e1
          have HGRX := Lib.hid (grown_trans HGR.out (grown_below hbX _))
          have HSK := Lib.hid hskip
          have HKP := Lib.hid hkeep
          have HOK := Lib.hid hok
          have hlt1 : (j : Int) < (n : Int) := by omega
          have hi1 : (i : Int) < (n : Int) := by omega
          clear hcall hskip hkeep hok hz hX hbX hN0 e1 hgX ho HW HD HGR
          cases z with
          | false =>
            have HSK2 := Lib.hid (HSK.out rfl)
            clear HSK HKP HOK
            go_upto_region 8 with fail
            rw [HX.out, HN0.out]
            clear c0 c1
            go_wp2_with (go_at_fn fn; refine HCALL.out.mono ?_; rintro e w2 ⟨rfl, hb2⟩; have HB2 := Lib.hid hb2; clear hb2 g0 g1)
            exact ⟨⟨i, j + 1, cur, rfl, by go_num, by omega, by omega, by omega, Lib.hid (block_below HGX.out HB2.out (Array.getElem?_eq_some_iff.1 HGX.out).1), HSK2, Lib.hid (grown_trans HGRX.out (grown_below HB2.out _))⟩, by simp only [Go.RowKit.intOf]; omega⟩
          | true =>
            have HKP2 := Lib.hid (HKP.out rfl)
            clear HSK HKP
            go_upto_region 8 with fail
            rw [HX.out, HN0.out]
            clear c0 c1
            go_upto_region 9 with (go_at_fn fn; refine HCALL.out.mono ?_; rintro e w2 ⟨rfl, hb2⟩; have HB2 := Lib.hid hb2; clear hb2 g0 g1)
            have e2 := block_below HE1.out HB2.out (Array.getElem?_eq_some_iff.1 HE1.out).1
            have hg2 := block_below HGX.out HB2.out (Array.getElem?_eq_some_iff.1 HGX.out).1
            obtain ⟨u0, hu0⟩ := HOK.out 0 (by omega)
            obtain ⟨u1, hu1⟩ := HOK.out 1 (by omega)
            have g0 := cell_of (i := 0) e2 rfl
            have g1 := cell_of (i := 1) e2 rfl
            have k0' := cell_of hg2 hu0
            have k1 := cell_of hg2 hu1
            rw [Nat.add_zero] at k0'
            have f0 : w2.frozen? ⟨g, i * 2, none⟩ = false := frozen_of hg2
            have f1 : w2.frozen? ⟨g, i * 2 + 1, none⟩ = false := frozen_of hg2
            have HG2 := Lib.hid hg2
            clear e2 hg2 hu0 hu1
            go_wp2_with fail
            refine ⟨⟨i + 1, j + 1, _, by go_num, by go_num, by omega, by omega, by omega, Lib.hid (set_of (set_of HG2.out _) _), HKP2, Lib.hid ?_⟩, by simp only [Go.RowKit.intOf]; omega⟩
            exact grown_trans (grown_trans (grown_trans HGRX.out (grown_below HB2.out _)) (grown_set _ g _ _)) (grown_set _ g _ _)
        · obtain rfl : j = n := by omega
          have hlen : i = (os.filter kp).length := by
            have := HD.out.2.1
            rw [List.take_of_length_le (by rw [HNN.out]; exact Nat.le_refl _)] at this
            exact this
          obtain ⟨W2, cur2, hcl, hw2, hs2, hp2, hgr2⟩ := clear_sp (g := g) (i := i) (n := j) (cap := cap) HW.out HD.out.1 hnc hij 0
          have hcl : ∀ ty, (Builtin.clear_ #[22] ty #[.slice (some ⟨g, i * 2, none⟩) (j - i) (cap - i)]).run Try.prog wr = .ok (.tuple #[]) W2 := fun ty => hcl
          have hown2 : W2.ownsRow base 31 2 (.slice (some ⟨g, 0, none⟩) i cap) (os.filter kp).length ((os.filter kp).flatMap spV) := by
            rw [← hlen]
            refine ⟨by rw [flatM_len spV_len, ← hlen], .inr ⟨g, cap, cur2, rfl, HBS.out, hw2, by omega, HCM.out, hs2, ?_⟩⟩
            have hd := HD.out.2.2.1
            rw [List.take_of_length_le (by rw [HNN.out]; exact Nat.le_refl _)] at hd
            refine List.ext_getElem? fun p => ?_
            by_cases hp : p < i * 2
            · rw [List.getElem?_take, if_pos hp, ← hd p hp, ← hp2 p hp]
              simp
            · rw [List.getElem?_eq_none (by rw [List.length_take]; omega), List.getElem?_eq_none (by rw [flatM_len spV_len, ← hlen]; omega)]
          have HO2 := Lib.hid hown2
          have HG2 := Lib.hid (grown_trans HGR.out hgr2)
          have hic : (i : Int) ≤ (j : Int) := by omega
          have hjc : (j : Int) ≤ (cap : Int) := by omega
          clear hown2 hgr2 hw2 hs2 hp2 hlen HW HD HGR
          go_wp2_with fail
          go_ret
          exact ⟨⟨_, rfl, HO2.out, rfl⟩, HG2.out⟩
end Go.Proofs.Ytpkkebojiengpaa
