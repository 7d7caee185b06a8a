/-
  WALKS over package huffman: the comparison of lastList, and its stable sort.
  PLAIN MATHEMATICS of package huffman: items by their numbers stand for trees; the present symbols.
  WALKS over package huffman: lastList.
  WALKS over package huffman: tally.
  WALKS over package huffman: Lengths.
-/
import Derived.Test.YteennnhinfnahaaHuEq
import Derived.Test.YteennnhinfnahaaTzF
import Derived.Deep.QuietTactic
import Derived.Test.YteennnhinfnahaaTzB
import Derived.Deep.DeepCutAuto
import Derived.Laws.MakeOwn
namespace Go.Proofs.Yteennnhinfnahaa
open Go.RowKit Go.Shelf Go.Lib Go.Sort
set_option linter.unusedVariables false
set_option linter.unusedSimpArgs false

/-! ### a stable sort is sortA -/
def TrP (g : Nat → Nat) (i j : Nat) : Prop := g i < g j ∨ (g i = g j ∧ i < j)
theorem insA_tr (g : Nat → Nat) (x : Nat) : ∀ S : List Nat, S.Pairwise (TrP g) → (∀ y ∈ S, y < x) → (insA g x S).Pairwise (TrP g)
  | [], _, _ => List.pairwise_singleton _ _
  | y :: l, h, hx => by
    rw [List.pairwise_cons] at h
    have hy := hx y (by simp)
    unfold insA
    by_cases c : g y ≤ g x
    · rw [if_pos c, List.pairwise_cons]
      refine ⟨fun z hz => ?_, insA_tr g x l h.2 fun z hz => hx z (by simp [hz])⟩
      rcases List.mem_cons.1 ((insA_perm g x l).mem_iff.1 hz) with rfl | hz
      · unfold TrP; omega
      · exact h.1 z hz
    · rw [if_neg c, List.pairwise_cons]
      refine ⟨fun z hz => ?_, by rw [List.pairwise_cons]; exact h⟩
      rcases List.mem_cons.1 hz with rfl | hz
      · unfold TrP; omega
      · have := h.1 z hz
        unfold TrP at this ⊢; omega
theorem foldIns_tr (g : Nat → Nat) : ∀ (l acc : List Nat), l.Pairwise (· < ·) → acc.Pairwise (TrP g) → (∀ y ∈ acc, ∀ x ∈ l, y < x) → (l.foldl (fun a x => insA g x a) acc).Pairwise (TrP g)
  | [], acc, _, h, _ => h
  | x :: l, acc, hl, h, hx => by
    rw [List.pairwise_cons] at hl
    rw [List.foldl_cons]
    refine foldIns_tr g l _ hl.2 (insA_tr g x acc h fun y hy => hx y hy x (by simp)) fun y hy z hz => ?_
    rcases List.mem_cons.1 ((insA_perm g x acc).mem_iff.1 hy) with rfl | hy
    · exact hl.1 z hz
    · exact hx y hy z (by simp [hz])
def cfW (wt : Nat → Int) (ns : List Nat) (n : Nat) (x y : Fin n) : Int := Lib.compareInt (wt (ns.getD x.1 0)) (wt (ns.getD y.1 0))
theorem ltW (wt : Nat → Int) (ns : List Nat) (n : Nat) (x y : Fin n) : ltOf (cfW wt ns n) x y = decide (wt (ns.getD x.1 0) < wt (ns.getD y.1 0)) := by
  unfold ltOf cfW Lib.compareInt
  obtain ⟨a, ha⟩ : ∃ a, wt (ns.getD x.1 0) = a := ⟨_, rfl⟩
  obtain ⟨b, hb⟩ : ∃ b, wt (ns.getD y.1 0) = b := ⟨_, rfl⟩
  rw [ha, hb, decide_eq_decide]
  by_cases h1 : a < b
  · rw [if_pos h1]; omega
  · rw [if_neg h1]
    by_cases h2 : b < a
    · rw [if_pos h2]; omega
    · rw [if_neg h2]; omega
theorem swoW (wt : Nat → Int) (ns : List Nat) (n : Nat) : SWO (ltOf (cfW wt ns n)) where
  irrefl x := by rw [ltW]; exact decide_eq_false (by omega)
  trans x y z h1 h2 := by
    rw [ltW] at *
    have := of_decide_eq_true h1
    have := of_decide_eq_true h2
    exact decide_eq_true (by omega)
  ntrans x y z h1 h2 := by
    rw [ltW] at *
    have := of_decide_eq_false h1
    have := of_decide_eq_false h2
    exact decide_eq_false (by omega)
theorem range_getD (ns : List Nat) : (List.range ns.length).map (fun i => ns.getD i 0) = ns := by
  apply List.ext_getElem?
  intro i
  rw [List.getElem?_map]
  by_cases h : i < ns.length
  · rw [List.getElem?_range h, Option.map_some, List.getD_eq_getElem?_getD, List.getElem?_eq_getElem h]; rfl
  · rw [List.getElem?_eq_none (by simpa using h), List.getElem?_eq_none (by simpa using h)]; rfl
theorem srt_sort {wt : Nat → Int} {ns : List Nat} (hpos : ∀ x ∈ ns, 0 ≤ wt x) {ord : List Nat} (h : Srt ns.length (cfW wt ns ns.length) ord) : ord.map (fun i => ns.getD i 0) = sortA (fun x => (wt x).toNat) ns := by
  obtain ⟨h1, h2, l, rfl, h3⟩ := h
  obtain ⟨g, hg⟩ : ∃ g : Nat → Nat, ∀ i, g i = (wt (ns.getD i 0)).toNat := ⟨_, fun _ => rfl⟩
  have hp : ∀ i : Fin ns.length, 0 ≤ wt (ns.getD i.1 0) := fun i => hpos _ (by rw [List.getD_eq_getElem?_getD, List.getElem?_eq_getElem i.2]; exact List.getElem_mem _)
  have e1 : (l.map (·.1)).Pairwise (TrP g) := by
    rw [List.pairwise_map]
    refine h3.imp fun {a b} hab => ?_
    have pa := hp a
    have pb := hp b
    rcases hab with e | ⟨e, e2⟩
    · rw [ltW] at e
      have := of_decide_eq_true e
      left; rw [hg, hg]; omega
    · rw [ltW] at e
      have := of_decide_eq_false e
      have e3 : a.1 < b.1 := e2
      unfold TrP
      rw [hg, hg]; omega
  have e2 : (sortA g (List.range ns.length)).Pairwise (TrP g) := foldIns_tr g _ [] List.pairwise_lt_range List.Pairwise.nil (by simp)
  have e3 : l.map (·.1) = sortA g (List.range ns.length) := pw_unique (r := TrP g) (fun a => by unfold TrP; omega) (fun a b => by unfold TrP; omega) e1 e2 fun x => by
    rw [h2, (sortA_perm g (List.range ns.length)).mem_iff, List.mem_range]
  rw [e3, sortA_map (fun i => ns.getD i 0) g (fun x => (wt x).toNat) (fun i => (hg i).symm), range_getD]

/-! ### the comparison -/
/-- What the closure captures: a box that holds the forest's address. -/
def TBox (w : World) (T F : Nat) : Prop := w.heap[T]? = some (.cells #[.pointer (some ⟨F, 0, none⟩)] 43 (0, 0))
set_option maxRecDepth 100000 in
set_option maxHeartbeats 4000000 in
theorem wless_any {W : World} {T F B : Nat} {vi vl : Value} {its : List It} (hf : FAt W B F vi vl its) (hb : TBox W T F) {a b : Nat} (ha : a < its.length) (hb1 : b < its.length) :
    Calls Try.prog 38 (#[.int .i64 (a : Int), .int .i64 (b : Int)] ++ #[.pointer (some ⟨T, 0, none⟩)]) W fun e w' => e = .returned (.int .i64 (Lib.compareInt (wI its a) (wI its b))) ∧ ∃ q, w' = W.drewN q := by
  have c0 := cell_of (i := 0) hb rfl
  have c1 := cell_of (i := 0) hf.box rfl
  have hro := hf.rows
  obtain ⟨A, cap, rfl, hc⟩ := hro.form
  obtain ⟨bi, oi, rfl, -, hcel⟩ := at_it hro (by omega)
  obtain ⟨xa, hxa⟩ : ∃ x, its[a]? = some x := ⟨_, List.getElem?_eq_getElem ha⟩
  obtain ⟨xb, hxb⟩ : ∃ x, its[b]? = some x := ⟨_, List.getElem?_eq_getElem hb1⟩
  have p0 := (hcel a xa hxa).1
  have p1 := (hcel b xb hxb).1
  rw [wI_at hxa, wI_at hxb]
  obtain ⟨x, hx⟩ : ∃ x, xa.1 = x := ⟨_, rfl⟩
  obtain ⟨y, hy⟩ : ∃ y, xb.1 = y := ⟨_, rfl⟩
  rw [hx] at p0 ⊢
  rw [hy] at p1 ⊢
  obtain ⟨m, hm⟩ : ∃ m, its.length = m := ⟨_, rfl⟩
  rw [hm] at c1 ha hb1
  have ha2 : (a : Int) < (m : Int) := by omega
  have hb2 : (b : Int) < (m : Int) := by omega
  have hcon := fun W' => Try.cmp_Compare_int x y W'
  obtain ⟨r, hr⟩ : ∃ r, Lib.compareInt x y = r := ⟨_, rfl⟩
  rw [hr] at hcon ⊢
  have HC := Lib.hid hcon
  clear hcon hr hx hy hxa hxb hcel hro hc hf hb hm
  go_enter Try.func38, Try.ntmps38
  go_wp2_with fail
  go_quiet ((go_at_call 39; exact Calls.quiet_of_same (HC.out _)))
  go_wp2_with fail
  go_ret
  exact ⟨rfl, _, rfl⟩

/-! ### the sort -/
def encW (ns : List Nat) (n : Nat) (x : Fin n) : Value := .int .i64 ((ns.getD x.1 0 : Nat) : Int)
theorem heap_sortZ {α : Type} [Inhabited α] (enc : α → Value) {w : World} {g m : Nat} {os : Array Obj} (d : Array α) {cs : Array Value} {t : TypeId} {f : Nat × Nat} (h : w.heap[g]? = some (.cells cs t f)) : (sortWorld enc w g 0 m d os).heap[g]? = some (.cells (putCells enc 0 d cs) t f) := by
  have hlt := heap_lt h
  unfold sortWorld
  rw [heap_grow_old _ _ (by simpa [putRow, mapBlock, Sort.ahead] using hlt)]
  simp [putRow, mapBlock, Sort.ahead, Array.getElem?_modify, h, onCells]
theorem take_putZ {α : Type} [Inhabited α] (enc : α → Value) (d : Array α) (c : Array Value) (h : d.size ≤ c.size) : (putCells enc 0 d c).toList.take d.size = d.toList.map enc := by
  apply List.ext_getElem?
  intro i
  rw [List.getElem?_take, List.getElem?_map]
  by_cases hi : i < d.size
  · rw [if_pos hi]
    unfold putCells
    rw [Array.getElem?_toList, Array.getElem?_mapIdx, Array.getElem?_eq_getElem (by omega)]
    simp only [Option.map_some, Nat.zero_le, Nat.zero_add, hi, and_self, if_true, Nat.sub_zero]
    rw [getElem!_pos d i hi]
    simp [hi]
  · rw [if_neg hi, List.getElem?_eq_none (by simpa using hi)]; rfl
def SortV (w : World) (M : Nat) (lv : Value) (its : List It) (ns : List Nat) (e : Ending) (w' : World) : Prop :=
  e = .returned (.tuple #[]) ∧ w'.ownsRow M 3 1 lv ns.length (idxV (sortA (fun x => (wI its x).toNat) ns)) ∧ w.grownBy w' lv.ownBlock
theorem sortF_any {w : World} {T F B M : Nat} {vi vl lv : Value} {its : List It} {ns : List Nat} (hf : FAt w B F vi vl its) (hb : TBox w T F) (hv : w.ownsRow M 3 1 lv ns.length (idxV ns)) (hin : ∀ n ∈ ns, n < its.length) (hw : ∀ n ∈ ns, 0 ≤ wI its n) (hsz : ns.length ≤ 1000000) :
    Calls Try.prog 37 #[lv, .func (.func 38) #[] #[.pointer (some ⟨T, 0, none⟩)]] w (SortV w M lv its ns) := by
  by_cases h0 : ns.length = 0
  · obtain ⟨A, cap, rfl, hc⟩ := own_formI hv
    have hns : ns = [] := List.length_eq_zero_iff.1 h0
    subst hns
    refine (sortStable_none A cap _ w).mono ?_
    rintro e w' ⟨rfl, rfl⟩
    exact ⟨rfl, hv, ⟨rfl, rfl, rfl, Nat.le_refl _, fun _ _ _ => rfl⟩⟩
  · rcases hv.2 with ⟨rfl, hz⟩ | ⟨g, cap, cur, rfl, hMg, hg, hc, hm, hcs, htk⟩
    · exact absurd hz h0
    · rw [Nat.mul_one] at hcs htk
      letI : Inhabited (Fin ns.length) := ⟨⟨0, by omega⟩⟩
      obtain ⟨d0, hd0⟩ : ∃ d : Array (Fin ns.length), d = Array.ofFn (fun i : Fin ns.length => i) := ⟨_, rfl⟩
      have hsz0 : d0.size = ns.length := by rw [hd0]; simp
      have hat : ∀ k : Fin ns.length, d0[k.1]! = k := fun k => by
        rw [getElem!_pos d0 k.1 (by rw [hsz0]; exact k.2)]
        subst hd0
        rw [Array.getElem_ofFn]
      have hH : Holds (encW ns ns.length) w g 0 d0 := fun j hj => by
        rw [hsz0] at hj
        have := hat ⟨j, hj⟩
        simp only at this
        rw [this, Nat.zero_add]
        refine ⟨cell_of hg ?_, frozen_of hg⟩
        have h1 : (cur.toList.take ns.length)[j]? = (idxV ns)[j]? := by rw [htk]
        rw [List.getElem?_take, if_pos hj] at h1
        rw [Array.getElem?_toList] at h1
        rw [h1]
        unfold idxV encW
        rw [List.getElem?_map, List.getElem?_eq_getElem hj, List.getD_eq_getElem?_getD, List.getElem?_eq_getElem hj]
        rfl
      have hlt := heap_lt hg
      have R : Row1 (encW ns ns.length) w g 0 d0 := ⟨fun _ => rfl, hH, hlt⟩
      have hgF : g ≠ F := fun e => by subst e; exact own_other hv hf.box (by decide) rfl
      have hgT : g ≠ T := fun e => by subst e; exact own_other hv hb (by decide) rfl
      have hkeep : ∀ W, w.grownBy W (some g) → FAt W B F vi vl its ∧ TBox W T F := fun W hgr => by
        refine ⟨⟨hf.hB, by rw [hgr.block F hf.lt (fun e => by cases e; exact hgF rfl)]; exact hf.box, own_below hf.own fun k hk => hgr.block k (own_low hf.own k hk).2 (fun e => ?_)⟩, ?_⟩
        · cases e
          exact own_other hf.own hg (by decide) hk
        · unfold TBox
          rw [hgr.block T (heap_lt hb) (fun e => by cases e; exact hgT rfl)]; exact hb
      have hget : ∀ x : Fin ns.length, ns.getD x.1 0 < its.length := fun x => hin _ (by rw [List.getD_eq_getElem?_getD, List.getElem?_eq_getElem x.2]; exact List.getElem_mem _)
      have hcmp : CmpReads Try.prog 38 #[.pointer (some ⟨T, 0, none⟩)] (encW ns ns.length) (cfW (wI its) ns ns.length) g 0 d0.size w := fun m os dk hs x y => by
        have hgr := grown_sortZ (w := w) (g := g) (m := m) (os := os) (encW ns ns.length) dk
        obtain ⟨k1, k2⟩ := hkeep _ hgr
        exact wless_any k1 k2 (hget x) (hget y)
      refine (sortStable_any (encW ns ns.length) (cfW (wI its) ns ns.length) (·.1) (swoW _ _ _) 38 #[.pointer (some ⟨T, 0, none⟩)] g 0 cap ns.length d0 w (enters_of Try.func38 (by kernel_rfl) rfl) hcmp.lays R hsz0 (by omega) (fun k hk => by have := hat ⟨k, hk⟩; simp only at this; rw [this])).mono ?_
      rintro e w' ⟨rfl, d', hM, hS, hSW⟩
      have hs' : d'.size = ns.length := hM.size.trans hsz0
      have hsrt := srt_sort hw (srt_of hsz0 hat hM hS)
      obtain ⟨m, os, rfl⟩ := hSW
      refine ⟨rfl, ⟨by simp [idxV, (sortA_perm _ ns).length_eq], .inr ⟨g, cap, _, rfl, hMg, heap_sortZ _ d' hg, hc, hm, by rw [Nat.mul_one]; simp [putCells, hcs], ?_⟩⟩, grown_sortZ _ d'⟩
      have ht := take_putZ (encW ns ns.length) d' cur (by omega)
      rw [hs'] at ht
      refine (congrArg (fun k => List.take k _) (Nat.mul_one _)).trans (ht.trans ?_)
      rw [← hsrt]
      unfold idxV
      rw [List.map_map, List.map_map]
      rfl
end Go.Proofs.Yteennnhinfnahaa
namespace Go.Proofs.Yteennnhinfnahaa
open Go.RowKit Go.Shelf Go.Lib Go.Sort
set_option linter.unusedVariables false
set_option linter.unusedSimpArgs false

/-- The present symbols. -/
def preS : List Int → Nat → List Nat
  | [], _ => []
  | c :: l, s => if 0 < c then s :: preS l (s + 1) else preS l (s + 1)
def cN (cs : List Int) (s : Nat) : Nat := (cs.getD s 0).toNat
theorem preS_ge : ∀ (l : List Int) (s x : Nat), x ∈ preS l s → s ≤ x ∧ ∃ c, l[x - s]? = some c ∧ 0 < c
  | [], s, x, h => by simp [preS] at h
  | c :: l, s, x, h => by
    unfold preS at h
    have hrec : x ∈ preS l (s + 1) → s ≤ x ∧ ∃ c', (c :: l)[x - s]? = some c' ∧ 0 < c' := fun h => by
      obtain ⟨h1, c', h2, h3⟩ := preS_ge l (s + 1) x h
      refine ⟨by omega, c', ?_, h3⟩
      rw [show x - s = (x - (s + 1)) + 1 by omega, List.getElem?_cons_succ]; exact h2
    by_cases hc : 0 < c
    · rw [if_pos hc] at h
      rcases List.mem_cons.1 h with rfl | h
      · exact ⟨Nat.le_refl _, c, by simp, hc⟩
      · exact hrec h
    · rw [if_neg hc] at h; exact hrec h
theorem preS_mem : ∀ (l : List Int) (s j : Nat) (c : Int), l[j]? = some c → 0 < c → s + j ∈ preS l s
  | [], s, j, c, h, _ => by simp at h
  | a :: l, s, 0, c, h, hc => by
    have : a = c := by simpa using h
    subst this
    unfold preS
    rw [if_pos hc]; simp
  | a :: l, s, j + 1, c, h, hc => by
    have := preS_mem l (s + 1) j c (by simpa using h) hc
    rw [show s + (j + 1) = s + 1 + j by omega]
    unfold preS
    split
    · exact List.mem_cons_of_mem _ this
    · exact this
theorem preS_nodup : ∀ (l : List Int) (s : Nat), (preS l s).Nodup
  | [], _ => List.Pairwise.nil
  | c :: l, s => by
    unfold preS
    split
    · rw [List.nodup_cons]
      exact ⟨fun h => by have := (preS_ge l (s + 1) s h).1; omega, preS_nodup l (s + 1)⟩
    · exact preS_nodup l (s + 1)
theorem preS_len : ∀ (l : List Int) (s : Nat), (preS l s).length = presN l
  | [], _ => rfl
  | c :: l, s => by
    unfold preS presN
    rw [List.countP_cons]
    by_cases h : 0 < c
    · rw [if_pos h, if_pos (by simpa using h), List.length_cons, preS_len l (s + 1)]; rfl
    · rw [if_neg h, if_neg (by simpa using h), preS_len l (s + 1)]; rfl
theorem pre_iff {cs : List Int} {s : Nat} : s ∈ preS cs 0 ↔ 0 < cN cs s := by
  unfold cN
  constructor
  · intro h
    obtain ⟨_, c, h1, h2⟩ := preS_ge cs 0 s h
    rw [Nat.sub_zero] at h1
    rw [List.getD_eq_getElem?_getD, h1, Option.getD_some]
    omega
  · intro h
    rw [List.getD_eq_getElem?_getD] at h
    cases e : cs[s]? with
    | none => rw [e] at h; simp at h
    | some c =>
      rw [e, Option.getD_some] at h
      have := preS_mem cs 0 s c e (by omega)
      rwa [Nat.zero_add] at this
/-- The leaves, by the symbols. -/
theorem lf_pre : ∀ (l : List Int) (s : Nat), lfIt l s = (preS l s).map fun x => ((((l.getD (x - s) 0).toNat : Nat) : Int), (x : Int), -1)
  | [], _ => rfl
  | c :: l, s => by
    have e : (preS l (s + 1)).map (fun x => (((((c :: l).getD (x - s) 0).toNat : Nat) : Int), (x : Int), (-1 : Int))) = (preS l (s + 1)).map fun x => ((((l.getD (x - (s + 1)) 0).toNat : Nat) : Int), (x : Int), -1) := by
      apply List.map_congr_left
      intro x hx
      have h1 := (preS_ge l (s + 1) x hx).1
      rw [show x - s = (x - (s + 1)) + 1 by omega]
      simp
    unfold lfIt preS
    by_cases h : 0 < c
    · rw [if_pos h, if_pos h, List.map_cons, e, lf_pre l (s + 1)]
      simp only [Nat.sub_self, List.getD_cons_zero]
      rw [show ((c.toNat : Nat) : Int) = c by omega]
    · rw [if_neg h, if_neg h, e, lf_pre l (s + 1)]
/-- Item n of a forest stands for a tree. -/
inductive RepI (c : Nat → Nat) (its : List It) : Nat → PT → Prop where
  | leaf {n s : Nat} : its[n]? = some (((c s : Nat) : Int), (s : Int), -1) → RepI c its n (.leaf s)
  | node {n a b : Nat} {ta tb : PT} : its[n]? = some (((ta.wt c + tb.wt c : Nat) : Int), (a : Int), (b : Int)) → RepI c its a ta → RepI c its b tb → RepI c its n (.node ta tb)
theorem RepI.wt {c : Nat → Nat} {its : List It} {n : Nat} {t : PT} (h : RepI c its n t) : wI its n = ((t.wt c : Nat) : Int) ∧ n < its.length := by
  cases h with
  | leaf h => exact ⟨wI_at h, (List.getElem?_eq_some_iff.1 h).1⟩
  | node h _ _ => exact ⟨wI_at h, (List.getElem?_eq_some_iff.1 h).1⟩
theorem RepI.app {c : Nat → Nat} {its : List It} {n : Nat} {t : PT} (h : RepI c its n t) (ys : List It) : RepI c (its ++ ys) n t := by
  induction h with
  | leaf h => exact .leaf (by rw [List.getElem?_append_left (List.getElem?_eq_some_iff.1 h).1]; exact h)
  | node h _ _ iha ihb => exact .node (by rw [List.getElem?_append_left (List.getElem?_eq_some_iff.1 h).1]; exact h) iha ihb
/-- A list of items stands for a list of trees. -/
def RepL (c : Nat → Nat) (its : List It) (ns : List Nat) (ts : List PT) : Prop := ∃ ps : List (Nat × PT), ns = ps.map (·.1) ∧ ts = ps.map (·.2) ∧ ∀ p ∈ ps, RepI c its p.1 p.2
theorem RepL.nil (c : Nat → Nat) (its : List It) : RepL c its [] [] := ⟨[], rfl, rfl, by simp⟩
theorem RepL.len {c : Nat → Nat} {its : List It} {ns : List Nat} {ts : List PT} (h : RepL c its ns ts) : ns.length = ts.length := by
  obtain ⟨ps, rfl, rfl, _⟩ := h
  simp
theorem RepL.mem {c : Nat → Nat} {its : List It} {ns : List Nat} {ts : List PT} (h : RepL c its ns ts) : ∀ n ∈ ns, ∃ t ∈ ts, RepI c its n t := by
  obtain ⟨ps, rfl, rfl, h⟩ := h
  intro n hn
  obtain ⟨p, hp, rfl⟩ := List.mem_map.1 hn
  exact ⟨p.2, List.mem_map.2 ⟨p, hp, rfl⟩, h p hp⟩
theorem RepL.app {c : Nat → Nat} {its : List It} {ns : List Nat} {ts : List PT} (h : RepL c its ns ts) (ys : List It) : RepL c (its ++ ys) ns ts := by
  obtain ⟨ps, h1, h2, h3⟩ := h
  exact ⟨ps, h1, h2, fun p hp => (h3 p hp).app ys⟩
theorem RepL.join {c : Nat → Nat} {its : List It} {ns ms : List Nat} {ts us : List PT} (h : RepL c its ns ts) (k : RepL c its ms us) : RepL c its (ns ++ ms) (ts ++ us) := by
  obtain ⟨ps, rfl, rfl, h3⟩ := h
  obtain ⟨qs, rfl, rfl, k3⟩ := k
  refine ⟨ps ++ qs, by simp, by simp, fun p hp => ?_⟩
  rcases List.mem_append.1 hp with hp | hp
  · exact h3 p hp
  · exact k3 p hp
theorem insA_congr {α : Type} {w v : α → Nat} {x : α} : ∀ {l : List α}, w x = v x → (∀ y ∈ l, w y = v y) → insA w x l = insA v x l
  | [], _, _ => rfl
  | y :: l, hx, h => by
    unfold insA
    rw [hx, h y (by simp), insA_congr hx fun z hz => h z (by simp [hz])]
theorem foldIns_congr {α : Type} {w v : α → Nat} : ∀ {l acc : List α}, (∀ y ∈ l, w y = v y) → (∀ y ∈ acc, w y = v y) → l.foldl (fun a x => insA w x a) acc = l.foldl (fun a x => insA v x a) acc
  | [], _, _, _ => rfl
  | x :: l, acc, h, k => by
    rw [List.foldl_cons, List.foldl_cons, insA_congr (h x (by simp)) k]
    refine foldIns_congr (fun y hy => h y (by simp [hy])) fun y hy => ?_
    rcases List.mem_cons.1 ((insA_perm v x acc).mem_iff.1 hy) with rfl | hy
    · exact h y (by simp)
    · exact k y hy
theorem sortA_congr {α : Type} {w v : α → Nat} {l : List α} (h : ∀ y ∈ l, w y = v y) : sortA w l = sortA v l := foldIns_congr h (by simp)
theorem RepL.sort {c : Nat → Nat} {its : List It} {ns : List Nat} {ts : List PT} (h : RepL c its ns ts) : RepL c its (sortA (fun x => (wI its x).toNat) ns) (sortA (PT.wt c) ts) := by
  obtain ⟨ps, rfl, rfl, h3⟩ := h
  refine ⟨sortA (fun p => p.2.wt c) ps, ?_, ?_, fun p hp => h3 p ((sortA_perm _ ps).mem_iff.1 hp)⟩
  · rw [sortA_congr (v := fun p : Nat × PT => (wI its p.1).toNat) fun p hp => by rw [(h3 p hp).wt.1]; simp]
    exact (sortA_map (fun p : Nat × PT => p.1) (fun p => (wI its p.1).toNat) (fun x => (wI its x).toNat) (fun _ => rfl) ps).symm
  · exact (sortA_map (fun p : Nat × PT => p.2) (fun p => p.2.wt c) (PT.wt c) (fun _ => rfl) ps).symm
/-- Packages. -/
def pkP : Nat → List (Nat × PT) → List (Nat × PT)
  | m, p :: q :: l => (m, .node p.2 q.2) :: pkP (m + 1) l
  | _, _ => []
theorem pkP_snd : ∀ (ps : List (Nat × PT)) (m : Nat), (pkP m ps).map (·.2) = pairs (ps.map (·.2))
  | [], m => by simp [pkP, pairs]
  | [p], m => by simp [pkP, pairs]
  | p :: q :: l, m => by simp only [pkP, pairs, List.map_cons, pkP_snd l (m + 1)]
theorem pkP_fst : ∀ (ps : List (Nat × PT)) (m : Nat), (pkP m ps).map (·.1) = (List.range (ps.length / 2)).map (m + ·)
  | [], m => by simp [pkP]
  | [p], m => by simp [pkP]
  | p :: q :: l, m => by
    simp only [pkP, List.map_cons, pkP_fst l (m + 1), List.length_cons]
    rw [show (l.length + 1 + 1) / 2 = l.length / 2 + 1 by omega, List.range_succ_eq_map, List.map_cons, List.map_map]
    congr 1
    apply List.map_congr_left
    intro x _
    simp only [Function.comp]
    omega
theorem pkP_rep (c : Nat → Nat) (its : List It) : ∀ (ps : List (Nat × PT)) (m : Nat) (its' : List It), (∀ p ∈ ps, RepI c its p.1 p.2) → (∀ p ∈ ps, RepI c its' p.1 p.2) → (∀ (j : Nat) (x : It), (pkIt its (ps.map (·.1)))[j]? = some x → its'[m + j]? = some x) → ∀ p ∈ pkP m ps, RepI c its' p.1 p.2
  | [], m, its', _, _, _, p, hp => by simp [pkP] at hp
  | [q], m, its', _, _, _, p, hp => by simp [pkP] at hp
  | q :: r :: l, m, its', h, h', hx, p, hp => by
    simp only [pkP] at hp
    rcases List.mem_cons.1 hp with rfl | hp
    · refine .node (a := q.1) (b := r.1) ?_ (h' q (by simp)) (h' r (by simp))
      have := hx 0 (wI its q.1 + wI its r.1, (q.1 : Int), (r.1 : Int)) (by simp [pkIt])
      rw [(h q (by simp)).wt.1, (h r (by simp)).wt.1] at this
      rw [Nat.add_zero] at this
      rw [this]; simp
    · refine pkP_rep c its l (m + 1) its' (fun z hz => h z (by simp [hz])) (fun z hz => h' z (by simp [hz])) (fun j x hj => ?_) p hp
      have := hx (j + 1) x (by simpa [pkIt] using hj)
      rw [← this]; congr 1; omega
theorem RepL.pack {c : Nat → Nat} {its : List It} {ns : List Nat} {ts : List PT} (h : RepL c its ns ts) : RepL c (its ++ pkIt its ns) ((List.range (ns.length / 2)).map (its.length + ·)) (pairs ts) := by
  obtain ⟨ps, rfl, rfl, h3⟩ := h
  refine ⟨pkP its.length ps, ?_, (pkP_snd ps _).symm, pkP_rep c its ps _ _ h3 (fun p hp => (h3 p hp).app _) fun j x hx => ?_⟩
  · rw [pkP_fst, List.length_map]
  · rw [List.getElem?_append_right (by omega), Nat.add_sub_cancel_left]; exact hx
/-- The leaves in front of a forest. -/
def LfAt (c : Nat → Nat) (its : List It) (S : List Nat) : Prop := ∀ (j s : Nat), S[j]? = some s → its[j]? = some (((c s : Nat) : Int), (s : Int), -1)
theorem LfAt.app {c : Nat → Nat} {its : List It} {S : List Nat} (h : LfAt c its S) (ys : List It) : LfAt c (its ++ ys) S := fun j s hj => by
  have := h j s hj
  rw [List.getElem?_append_left (List.getElem?_eq_some_iff.1 this).1]; exact this
theorem LfAt.rep {c : Nat → Nat} {its : List It} {S : List Nat} (h : LfAt c its S) : RepL c its (List.range S.length) (leavesP S) := by
  refine ⟨(List.range S.length).map fun j => (j, .leaf (S.getD j 0)), ?_, ?_, fun p hp => ?_⟩
  · rw [List.map_map]; exact (List.map_id _).symm
  · rw [List.map_map]
    unfold leavesP
    conv => lhs; rw [← range_getD S]
    rw [List.map_map]; rfl
  · obtain ⟨j, hj, rfl⟩ := List.mem_map.1 hp
    rw [List.mem_range] at hj
    have e : S[j]? = some (S.getD j 0) := by rw [List.getD_eq_getElem?_getD, List.getElem?_eq_getElem hj]; rfl
    exact .leaf (h j _ e)
theorem lf_at (cs : List Int) : LfAt (cN cs) (lfIt cs 0) (preS cs 0) := fun j s hj => by
  rw [lf_pre, List.getElem?_map, hj]
  rfl
theorem lf_len (cs : List Int) : (lfIt cs 0).length = (preS cs 0).length := by rw [lf_pre, List.length_map]
/-- One round of lastList. -/
theorem RepL.round {c : Nat → Nat} {its : List It} {ns : List Nat} {S : List Nat} {i : Nat} (hl : LfAt c its S) (h : RepL c its ns (lev c (leavesP S) i)) :
    RepL c (its ++ pkIt its ns) (sortA (fun x => (wI (its ++ pkIt its ns) x).toNat) (List.range S.length ++ (List.range (ns.length / 2)).map (its.length + ·))) (lev c (leavesP S) (i + 1)) :=
  ((hl.app _).rep.join h.pack).sort
theorem lev_wt {c : Nat → Nat} {M : Nat} {S : List Nat} (hM : ∀ s ∈ S, c s ≤ M) : ∀ i, ∀ t ∈ lev c (leavesP S) i, t.wt c ≤ M * 2 ^ i
  | 0, t, h => by simp [lev] at h
  | i + 1, t, h => by
    have h1 := (lev_perm c (leavesP S) i).mem_iff.1 h
    rw [Nat.pow_succ, ← Nat.mul_assoc]
    rcases List.mem_append.1 h1 with h1 | h1
    · obtain ⟨s, hs, rfl⟩ := List.mem_map.1 h1
      have := hM s hs
      have h2 : 1 ≤ 2 ^ i := Nat.one_le_two_pow
      have h3 : M * 1 ≤ M * 2 ^ i := Nat.mul_le_mul_left _ h2
      show c s ≤ _
      omega
    · have key : ∀ l : List PT, (∀ t ∈ l, t.wt c ≤ M * 2 ^ i) → ∀ t ∈ pairs l, t.wt c ≤ M * 2 ^ i * 2 := by
        intro l
        induction l using pairs.induct with
        | case1 x y m ih =>
          intro h t ht
          rcases List.mem_cons.1 ht with rfl | ht
          · have := h x (by simp)
            have := h y (by simp)
            simp only [PT.wt]; omega
          · exact ih (fun z hz => h z (by simp [hz])) t ht
        | case2 m hm =>
          intro _ t ht
          unfold pairs at ht
          split at ht
          · exact absurd rfl (hm _ _ _)
          · simp at ht
      exact key _ (lev_wt hM i) t h1
theorem lev_len (c : Nat → Nat) (S : List Nat) : ∀ i, (lev c (leavesP S) i).length ≤ 2 * S.length
  | 0 => by simp [lev]
  | i + 1 => by
    have := lev_len c S i
    have e : (leavesP S).length = S.length := by simp [leavesP]
    rw [(lev_perm c _ i).length_eq, List.length_append, pairs_len]
    omega
end Go.Proofs.Yteennnhinfnahaa
namespace Go.Proofs.Yteennnhinfnahaa
open Go.RowKit Go.Shelf Go.Lib Go.Sort
set_option linter.unusedVariables false
set_option linter.unusedSimpArgs false

theorem nat_idx (l : List Nat) : natV l = idxV l := rfl
theorem from_idx (m j : Nat) : fromV m j = idxV ((List.range j).map (m + ·)) := by simp [fromV, idxV]
/-- Between two rounds of lastList. -/
structure LAt (w : World) (N T B F : Nat) (vl : Value) (c : Nat → Nat) (S : List Nat) (i : Nat) (v : Value) (wr : World) : Prop where
  f : ∃ vi its ns, FAt wr B F vi vl its ∧ LfAt c its S ∧ its.length ≤ S.length + i * S.length ∧ RepL c its ns (lev c (leavesP S) i) ∧ wr.ownsRow N 3 1 v ns.length (idxV ns)
  s : FStep B F w wr
  t : TBox wr T F
def LastV (w : World) (N T B F : Nat) (vl : Value) (c : Nat → Nat) (S : List Nat) (i : Nat) (e : Ending) (w' : World) : Prop := ∃ v, e = .returned v ∧ LAt w N T B F vl c S i v w'
/-- A part of the own row keeps where a new row is sorted. -/
theorem FStep.newer {B F N n : Nat} {T : TypeId} {w w' wa : World} {v : Value} {xs : List Value} (h : FStep B F w w') (hB : B ≤ w.heap.size) (hN : w.heap.size ≤ N) (ho : w'.ownsRow N T 1 v n xs) (hg : w'.grownBy wa v.ownBlock) : FStep B F w wa :=
  ⟨h.be.grown hg (Nat.le_trans hB h.be.size) (fun k e => by have := (own_low ho k e).1; omega), fun k o h1 h2 h3 => by
    have hk := h.keep k o h1 h2 h3
    rw [hg.block k (heap_lt hk) (fun e => by have := (own_low ho k e.symm).1; have := heap_lt h1; omega)]
    exact hk⟩
theorem FStep.below {B F : Nat} {w w' wa : World} (h : FStep B F w w') (hB : B ≤ w'.heap.size) (hb : Below w'.heap.size w' wa) : FStep B F w wa :=
  ⟨h.be.trans (hb.mono hB), fun k o h1 h2 h3 => by
    have hk := h.keep k o h1 h2 h3
    rw [hb.block k (heap_lt hk)]; exact hk⟩
theorem FAt.below {w W : World} {B F : Nat} {vi vl : Value} {its : List It} (h : FAt w B F vi vl its) (hb : Below w.heap.size w W) : FAt W B F vi vl its :=
  ⟨h.hB, by rw [hb.block F h.lt]; exact h.box, own_below h.own fun k hk => hb.block k (own_low h.own k hk).2⟩
theorem TBox.step {w W : World} {T F B : Nat} (h : TBox w T F) (hs : FStep B F w W) (hne : T ≠ F) : TBox W T F := hs.keep T _ h hne (fun ⟨cs, f, e⟩ => by
  injection e with _ ht
  exact absurd ht (by decide))
theorem TBox.ne {w : World} {T F B : Nat} {vi vl : Value} {its : List It} (h : TBox w T F) (hf : FAt w B F vi vl its) : T ≠ F := fun e => by
  subst e
  have h2 := hf.box
  unfold TBox at h
  rw [h] at h2
  injection h2 with h2
  injection h2 with _ ht
  exact absurd ht (by decide)
theorem catF_any {w2 : World} {v1 v2 : Value} {M1 M2 : Nat} {a b : List Nat} (h1 : w2.ownsRow M1 3 1 v1 a.length (idxV a)) (h2 : w2.ownsRow M2 3 1 v2 b.length (idxV b)) (hl : a.length + b.length ≤ 100000) :
    Calls Try.prog 35 #[.slice (some ⟨w2.heap.size, 0, none⟩) 2 2] (w2.alloc (.cells #[v1, v2] 22)) fun e w' => (∃ v', e = .returned v' ∧ w'.ownsRow w2.heap.size 3 1 v' (a ++ b).length (idxV (a ++ b))) ∧ Below w2.heap.size w2 w' := by
  have hbx := below_box w2 (.cells #[v1, v2] 22)
  have hrow : RowsN (w2.alloc (.cells #[v1, v2] 22)) (.slice (some ⟨w2.heap.size, 0, none⟩) 2 2) [a, b] := by
    refine ⟨[v1, v2], .inr ⟨_, 2, rfl, Nat.le_refl _, fun _ => by show w2.heap.size < (w2.alloc _).heap.size; simp, fun j u hu => ?_⟩, rfl, fun j u l hu hl => ?_⟩
    · exact news_at w2 [v1, v2] _ j u hu
    · match j, hu, hl with
      | 0, hu, hl => cases hu; cases hl; exact ((rn_own h1).1).below hbx
      | 1, hu, hl => cases hu; cases hl; exact ((rn_own h2).1).below hbx
      | j + 2, hu, _ => simp at hu
  have hfl : ([a, b] : List (List Nat)).flatten = a ++ b := by simp
  refine (concatI_any hrow (by simp) (by rw [hfl, List.length_append]; exact hl)).mono ?_
  rintro e w' ⟨⟨v', rfl, hown⟩, hb⟩
  rw [hfl] at hown
  exact ⟨⟨v', rfl, ownsRow_base hown (by simp)⟩, hbx.trans (hb.mono hbx.size)⟩

set_option maxRecDepth 100000 in
set_option maxHeartbeats 8000000 in
theorem lastList_any {w : World} {B F M : Nat} {vi vl : Value} {its : List It} {c : Nat → Nat} {S : List Nat} (h : FAt w B F vi vl its) (hlv : w.ownsRow M 3 1 vl S.length (rangeV S.length)) (hlf : LfAt c its S) (hl0 : its.length ≤ S.length) (hS : S.length ≤ 1024)
    (hc : ∀ s ∈ S, c s ≤ 4096) (lim : Nat) (hlim : lim ≤ 15) :
    Calls Try.prog 17 #[.pointer (some ⟨F, 0, none⟩), .int .i64 lim] w (LastV w w.heap.size w.heap.size B F vl c S lim) := by
  obtain ⟨Al, capl, rfl, -⟩ := own_formI hlv
  obtain ⟨vl, hvl⟩ : ∃ v, Value.slice Al S.length capl = v := ⟨_, rfl⟩
  rw [hvl] at h hlv ⊢
  obtain ⟨N, hN⟩ : ∃ N, w.heap.size = N := ⟨_, rfl⟩
  obtain ⟨X, hX⟩ : ∃ X, w.alloc (.cells #[.pointer (some ⟨F, 0, none⟩)] 43) = X := ⟨_, rfl⟩
  have hBN : B ≤ N := by have := h.hB; have := h.lt; omega
  have hst0 : LAt w N N B F vl c S 0 (.slice none 0 0) X := by
    refine ⟨⟨vi, its, [], by rw [← hX]; exact h.alloc _, hlf, by omega, RepL.nil _ _, World.ownsRow_nil _ _ _ 1⟩, by rw [← hX]; exact (FStep.refl B F w).alloc (by omega) _, ?_⟩
    unfold TBox
    rw [← hX, ← hN]; exact block_new _ _
  have hvF : vl.ownBlock ≠ some F := own_other hlv h.box (by decide)
  have HLV := Lib.hid (fun W (hs : FStep B F w W) => hs.own hlv hvF (by decide))
  have HST0 := Lib.hid hst0
  have HX := Lib.hid hX
  have HN := Lib.hid hN
  have HBN := Lib.hid hBN
  have HC := Lib.hid hc
  have HSL := Lib.hid hS
  rw [hN]
  clear hst0 hX hN hlv hvF h hlf hl0 hc hBN hS
  go_enter Try.func17, Try.ntmps17
  go_wp2_with fail
  rw [HX.out, HN.out]
  go_loopw [5, 7] (fun lv sv wr => ∃ i : Nat, i ≤ lim ∧ sv = .int .i64 i ∧ Hid (LAt w N N B F vl c S i lv wr)) (fun _ sv _ => lim - (Go.RowKit.intOf sv).toNat)
  case atStart => exact ⟨0, Nat.zero_le _, rfl, HST0⟩
  case round =>
    clear HST0 HX
    obtain ⟨i, hi, rfl, HS⟩ := hrel
    by_cases hlt : i < lim
    · have hlti : (i : Int) < (lim : Int) := by omega
      obtain ⟨vj, its2, ns, hf, hlf, hln, hrep, hown⟩ := HS.out.f
      have hts := HS.out.t
      have hwt : ∀ n ∈ ns, 0 ≤ wI its2 n ∧ wI its2 n ≤ 1000000000000 := fun n hn => by
        obtain ⟨t, ht, hr⟩ := hrep.mem n hn
        rw [hr.wt.1]
        have h1 := lev_wt HC.out i t ht
        have h2 : (2 : Nat) ^ i ≤ 2 ^ 15 := Nat.pow_le_pow_right (by omega) (by omega)
        have h3 : 4096 * 2 ^ i ≤ 4096 * 2 ^ 15 := Nat.mul_le_mul_left _ h2
        omega
      have hin : ∀ n ∈ ns, n < its2.length := fun n hn => by
        obtain ⟨t, ht, hr⟩ := hrep.mem n hn
        exact hr.wt.2
      have hnl : ns.length ≤ 2 * S.length := by rw [hrep.len]; exact lev_len c S i
      have hS := HSL.out
      have hil : i * S.length ≤ 15 * S.length := Nat.mul_le_mul_right _ (by omega)
      have hsz : wr.heap.size = wr.drew.heap.size := rfl
      have hPK := fpack_any hf.drew hown hin hwt (by omega)
      obtain ⟨c0, c1⟩ := And.intro (cell_of (W := wr.drew) (i := 0) hts rfl) (cell_of (W := wr.drew) (i := 1) hf.drew.box rfl)
      have HPK := Lib.hid hPK
      have HF := Lib.hid hf
      have HLF := Lib.hid hlf
      have HREP := Lib.hid hrep
      have HWT := Lib.hid hwt
      have HIN := Lib.hid hin
      have HNL := Lib.hid (And.intro hnl (And.intro hln hil))
      have HSI := Lib.hid (show wr.drew.cell? ⟨N, 0, none⟩ = some (.pointer (some ⟨F, 0, none⟩)) ∧ wr.drew.cell? ⟨F, 1, none⟩ = some vl from ⟨c0, c1⟩)
      subst hvl
      clear hf hlf hln hrep hown hts hwt hin hnl hS hil hsz hPK c0 c1
      go_wp2_with fail
      refine wp_region_held_drew (S := (fun w' => w'.cell? ⟨N, 0, none⟩ = some (.pointer (some ⟨F, 0, none⟩)) ∧ w'.cell? ⟨F, 1, none⟩ = some (.slice Al S.length capl))) (by kernel_rfl) ?_ (fun hHeld => ?_)
      · (try dsimp only); first | exact HS3.out | exact HS2b.out | exact HS2.out | exact HSI.out
      refine wpAnyH_take (i := 0) (oi := ?oi1) (v := ?v1) ?hi1 (by kernel_rfl) (by kernel_rfl) (by kernel_rfl) ?hq1 ?hy1 (by assumption) ?hr1
      case hi1 => (simp only [List.getElem?_toArray, List.getElem?_cons_zero]; rfl)
      case hq1 => exact fun _ _ _ h => h
      case hy1 => exact Or.inl ⟨by rfl, by intro whSw hSw'; (try dsimp only at hSw'); (first | (go_simp; done) | (go_simp; with_reducible rfl))⟩
      try simp only [Act.put, List.setIfInBounds_toArray, List.set_cons_zero, List.set_cons_succ]
      refine wpAnyH_take (i := 1) (oi := ?oi2) (v := ?v2) ?hi2 (by kernel_rfl) (by kernel_rfl) (by kernel_rfl) ?hq2 ?hy2 (by assumption) ?hr2
      case hi2 => (simp only [List.getElem?_toArray, List.getElem?_cons_succ, List.getElem?_cons_zero]; rfl)
      case hq2 => exact fun _ _ _ h => h
      case hy2 => exact Or.inl ⟨by rfl, by intro whSw hSw'; (try dsimp only at hSw'); (first | (go_simp; done) | (go_simp; with_reducible rfl))⟩
      try simp only [Act.put, List.setIfInBounds_toArray, List.set_cons_zero, List.set_cons_succ]
      refine wpAnyH_take (i := 2) (oi := ?oi3) (v := ?v3) ?hi3 (by kernel_rfl) (by kernel_rfl) (by kernel_rfl) ?hq3 ?hy3 (by assumption) ?hr3
      case hi3 => (simp only [List.getElem?_toArray, List.getElem?_cons_succ, List.getElem?_cons_zero]; rfl)
      case hq3 => exact fun _ _ _ h => h
      case hy3 => exact Or.inl ⟨by rfl, by intro whSw hSw'; (try dsimp only at hSw'); (first | (go_simp; done) | (go_simp; with_reducible rfl))⟩
      try simp only [Act.put, List.setIfInBounds_toArray, List.set_cons_zero, List.set_cons_succ]
      refine wpAnyH_take (i := 3) (oi := ?oi4) (v := ?v4) ?hi4 (by kernel_rfl) (by kernel_rfl) (by kernel_rfl) ?hq4 ?hy4 (by assumption) ?hr4
      case hi4 => (simp only [List.getElem?_toArray, List.getElem?_cons_succ, List.getElem?_cons_zero]; rfl)
      case hq4 => exact fun _ _ _ h => h
      case hy4 => exact Or.inl ⟨by rfl, by intro whSw hSw'; (try dsimp only at hSw'); (first | (go_simp; done) | (go_simp; with_reducible rfl))⟩
      try simp only [Act.put, List.setIfInBounds_toArray, List.set_cons_zero, List.set_cons_succ]
      refine wpAnyH_take (i := 4) (oi := ?oi5) (v := ?v5) ?hi5 (by kernel_rfl) (by kernel_rfl) (by kernel_rfl) ?hq5 ?hy5 (by assumption) ?hr5
      case hi5 => (simp only [List.getElem?_toArray, List.getElem?_cons_succ, List.getElem?_cons_zero]; rfl)
      case hq5 => exact fun _ _ _ h => h
      case hy5 => exact Or.inl ⟨by rfl, by intro whSw hSw'; (try dsimp only at hSw'); (first | (go_simp; done) | (go_simp; with_reducible rfl))⟩
      try simp only [Act.put, List.setIfInBounds_toArray, List.set_cons_zero, List.set_cons_succ]
      refine wpAnyH_take (i := 5) (oi := ?oi6) (v := ?v6) ?hi6 (by kernel_rfl) (by kernel_rfl) (by kernel_rfl) ?hq6 ?hy6 (by assumption) ?hr6
      case hi6 => (simp only [List.getElem?_toArray, List.getElem?_cons_succ, List.getElem?_cons_zero]; rfl)
      case hq6 => exact fun _ _ _ h => h
      case hy6 => exact Or.inl ⟨by rfl, by intro whSw hSw'; (try dsimp only at hSw'); (first | (go_simp; done) | (go_simp; with_reducible rfl))⟩
      try simp only [Act.put, List.setIfInBounds_toArray, List.set_cons_zero, List.set_cons_succ]
      refine wpAnyH_ready (rs := [6]) (by kernel_rfl) (by simp) ?_
      refine AllReadyH.cons (o := ?oo7) ?hi7 (fun K hK => ?hs7) ?hm7
      case hi7 => (simp only [List.getElem?_toArray, List.getElem?_cons_succ, List.getElem?_cons_zero]; rfl)
      · go_simp
        refine HPK.out.mono ?_
        rintro e w2 ⟨v2, rfl, hk2⟩
        obtain ⟨⟨vi2, hf2⟩, ho2, hs2⟩ := hk2
        obtain ⟨A2, cap2, rfl, -⟩ := own_formI ho2
        have hnc : ns.take (2 * (ns.length / 2)) = ns.take (2 * (ns.length / 2)) := rfl
        rw [pkIt_all its2 (by omega) (by omega)] at hf2
        have HFS2 := Lib.hid ((HS.out.s.drew).trans hs2)
        have ht2 : TBox w2 N F := TBox.step (w := wr.drew) (B := B) HS.out.t hs2 (TBox.ne (w := wr) HS.out.t HF.out)
        have HT2 := Lib.hid ht2
        have HF2 := Lib.hid hf2
        have HO2 := Lib.hid ho2
        have HS2 := Lib.hid (show w2.cell? ⟨N, 0, none⟩ = some (.pointer (some ⟨F, 0, none⟩)) ∧ w2.cell? ⟨F, 1, none⟩ = some (.slice Al S.length capl) from ⟨cell_of (i := 0) ht2 rfl, cell_of (i := 1) hf2.box rfl⟩)
        have HS2b := Lib.hid (show (w2.alloc (.cells #[.slice Al S.length capl, .slice A2 (ns.length / 2) cap2] 22)).cell? ⟨N, 0, none⟩ = some (.pointer (some ⟨F, 0, none⟩)) ∧ (w2.alloc (.cells #[.slice Al S.length capl, .slice A2 (ns.length / 2) cap2] 22)).cell? ⟨F, 1, none⟩ = some (.slice Al S.length capl) from by
          have hb := below_box w2 (.cells #[.slice Al S.length capl, .slice A2 (ns.length / 2) cap2] 22)
          exact ⟨(hb.cell (p := ⟨N, 0, none⟩) (heap_lt ht2)).trans HS2.out.1, (hb.cell (p := ⟨F, 1, none⟩) hf2.lt).trans HS2.out.2⟩)
        have hcat := catF_any (w2 := w2) (a := List.range S.length) (b := (List.range (ns.length / 2)).map (its2.length + ·)) (by rw [List.length_range]; exact HLV.out w2 HFS2.out) (by rw [← from_idx, List.length_map, List.length_range]; exact ho2) (by rw [List.length_range, List.length_map, List.length_range]; have h1 := HNL.out; have h2 := HSL.out; omega)
        have HCAT := Lib.hid hcat
        clear hnc hf2 ho2 hs2 ht2 hcat
        (try go_wp2_with fail)
        refine hK.out _ _ ?_ (fun hHeld => ?_)
        · (try dsimp only); first | exact HS3.out | exact HS2b.out | exact HS2.out | exact HSI.out
        clear hK K
        try simp only [Act.put, List.setIfInBounds_toArray, List.set_cons_zero, List.set_cons_succ]
        refine wpAnyH_ready (rs := [7]) (by kernel_rfl) (by simp) ?_
        refine AllReadyH.cons (o := ?oo8) ?hi8 (fun K hK => ?hs8) ?hm8
        case hi8 => (simp only [List.getElem?_toArray, List.getElem?_cons_succ, List.getElem?_cons_zero]; rfl)
        · go_simp
          refine hK.out _ _ ?_ (fun hHeld => ?_)
          · (try dsimp only); first | exact HS3.out | exact HS2b.out | exact HS2.out | exact HSI.out
          clear hK K
          try simp only [Act.put, List.setIfInBounds_toArray, List.set_cons_zero, List.set_cons_succ]
          refine wpAnyH_ready (rs := [8]) (by kernel_rfl) (by simp) ?_
          refine AllReadyH.cons (o := ?oo9) ?hi9 (fun K hK => ?hs9) ?hm9
          case hi9 => (simp only [List.getElem?_toArray, List.getElem?_cons_succ, List.getElem?_cons_zero]; rfl)
          · go_simp
            refine HCAT.out.mono ?_
            rintro e w3 ⟨⟨v3, rfl, ho3⟩, hb3⟩
            have HF3 := Lib.hid (HF2.out.below hb3)
            have HT3 : Hid (TBox w3 N F) := Lib.hid (by unfold TBox; rw [hb3.block N (heap_lt HT2.out)]; exact HT2.out)
            have HS3 := Lib.hid (show w3.cell? ⟨N, 0, none⟩ = some (.pointer (some ⟨F, 0, none⟩)) ∧ w3.cell? ⟨F, 1, none⟩ = some (.slice Al S.length capl) from ⟨cell_of (i := 0) HT3.out rfl, cell_of (i := 1) HF3.out.box rfl⟩)
            have HFS3 := Lib.hid (FStep.below HFS2.out (by have := HF2.out.lt; have := HF2.out.hB; omega) hb3)
            have HO3 := Lib.hid ho3
            have HNW : Hid (N ≤ w2.heap.size) := Lib.hid (by have := HFS2.out.be.size; rw [HN.out] at this; exact this)
            clear hb3 ho3
            (try go_wp2_with fail)
            refine hK.out _ _ ?_ (fun hHeld => ?_)
            · (try dsimp only); first | exact HS3.out | exact HS2b.out | exact HS2.out | exact HSI.out
            clear hK K
            try simp only [Act.put, List.setIfInBounds_toArray, List.set_cons_zero, List.set_cons_succ]
            refine wpAnyH_take (i := 9) (oi := ?oi10) (v := ?v10) ?hi10 (by kernel_rfl) (by kernel_rfl) (by kernel_rfl) ?hq10 ?hy10 (by assumption) ?hr10
            case hi10 => (simp only [List.getElem?_toArray, List.getElem?_cons_succ, List.getElem?_cons_zero]; rfl)
            case hq10 => exact fun _ _ _ h => h
            case hy10 => exact Or.inl ⟨by rfl, by intro whSw hSw'; (try dsimp only at hSw'); (first | (go_simp; done) | (go_simp; with_reducible rfl))⟩
            try simp only [Act.put, List.setIfInBounds_toArray, List.set_cons_zero, List.set_cons_succ]
            refine wpAnyH_done (by kernel_rfl) ?_ _
            obtain ⟨its3, hi3⟩ : ∃ x, its2 ++ pkIt its2 ns = x := ⟨_, rfl⟩
            obtain ⟨l3, hl3⟩ : ∃ x, List.range S.length ++ (List.range (ns.length / 2)).map (its2.length + ·) = x := ⟨_, rfl⟩
            have HROUND := Lib.hid (RepL.round HLF.out HREP.out)
            have HLF3 := Lib.hid (HLF.out.app (pkIt its2 ns))
            have HPRE := Lib.hid ((HLF3.out.rep).join HREP.out.pack)
            have HIL : Hid (its3.length ≤ S.length + (i + 1) * S.length) := Lib.hid (by
              rw [← hi3, List.length_append, pkIt_len, Nat.add_mul]
              have := HNL.out
              omega)
            rw [hi3] at HF3 HROUND HLF3 HPRE
            rw [hl3] at HO3 HROUND HPRE
            have hl3l : l3.length ≤ 1000000 := by
              rw [← hl3, List.length_append, List.length_range, List.length_map, List.length_range]
              have h1 := HNL.out
              have h2 := HSL.out
              omega
            have HSRT := Lib.hid (sortF_any HF3.out HT3.out HO3.out (fun n hn => by
              obtain ⟨t, ht, hr⟩ := HPRE.out.mem n hn
              exact hr.wt.2) (fun n hn => by
              obtain ⟨t, ht, hr⟩ := HPRE.out.mem n hn
              rw [hr.wt.1]; omega) hl3l)
            clear hi3 hl3 hl3l hHeld HPK HS2 HS2b HCAT HSI HPRE
            go_wp2_with fail
            refine HSRT.out.mono ?_
            rintro e w4 ⟨rfl, ho4, hg4⟩
            have hne3 : v3.ownBlock ≠ some F := own_other HO3.out HF3.out.box (by decide)
            have hneN : v3.ownBlock ≠ some N := own_other HO3.out HT3.out (by decide)
            have HEND : Hid (LAt w N N B F (.slice Al S.length capl) c S (i + 1) v3 w4) := Lib.hid ⟨⟨vi2, its3, _, ⟨HF3.out.hB, by rw [hg4.block F HF3.out.lt (fun e => hne3 e.symm)]; exact HF3.out.box, own_below HF3.out.own fun k hk => hg4.block k (own_low HF3.out.own k hk).2 (fun e => by
              obtain ⟨cs, hcs⟩ : ∃ cs, w3.heap[k]? = some (.cells cs 79 (0, 0)) := by
                rcases HF3.out.own.2 with ⟨rfl, _⟩ | ⟨g, cap, cur, rfl, _, hh, _⟩
                · simp [Value.ownBlock] at hk
                · simp only [Value.ownBlock, Option.some.injEq] at hk
                  subst hk
                  exact ⟨_, hh⟩
              exact own_other HO3.out hcs (by decide) e.symm)⟩, HLF3.out, HIL.out, HROUND.out, by rw [(sortA_perm _ l3).length_eq]; exact ownsRow_base ho4 HNW.out⟩, FStep.newer HFS3.out (by rw [HN.out]; exact HBN.out) (by rw [HN.out]; exact HNW.out) HO3.out hg4, by unfold TBox; rw [hg4.block N (heap_lt HT3.out) (fun e => hneN e.symm)]; exact HT3.out⟩
            clear ho4 hg4 hne3 hneN HSRT HF3 HT3 HO3 HFS3 HROUND HLF3 HIL HNW HF2 HT2 HO2 HFS2 HF HLF HREP HWT HIN HNL HS
            go_wp2_with fail
            exact ⟨⟨i + 1, by omega, by go_num, HEND⟩, by simp only [Go.RowKit.intOf]; omega⟩
          exact AllReadyH.nil
        exact AllReadyH.nil
      exact AllReadyH.nil
    · obtain rfl : i = lim := by omega
      have hlti : ¬ (i : Int) < (i : Int) := by omega
      go_wp2_with fail
      go_ret
      exact ⟨_, rfl, HS.out⟩
end Go.Proofs.Yteennnhinfnahaa
namespace Go.Proofs.Yteennnhinfnahaa
open Go.RowKit Go.Shelf Go.Lib Go.Sort
set_option linter.unusedVariables false
set_option linter.unusedSimpArgs false

/-- The occurrences of symbols are added. -/
def addT : PT → List Int → List Int
  | .leaf s, L => L.set s (L.getD s 0 + 1)
  | .node a b, L => addT b (addT a L)
def PT.size : PT → Nat
  | .leaf _ => 1
  | .node a b => a.size + b.size
theorem addT_len : ∀ (t : PT) (L : List Int), (addT t L).length = L.length
  | .leaf s, L => by simp [addT]
  | .node a b, L => by unfold addT; rw [addT_len b, addT_len a]
theorem addT_at : ∀ (t : PT) (L : List Int) (s : Nat) (x : Int), L[s]? = some x → (addT t L)[s]? = some (x + (t.occ s : Nat))
  | .leaf u, L, s, x, h => by
    have hs := (List.getElem?_eq_some_iff.1 h).1
    unfold addT PT.occ
    by_cases e : u = s
    · subst e
      rw [List.getElem?_set_self hs, if_pos rfl, List.getD_eq_getElem?_getD, h]; rfl
    · rw [List.getElem?_set_ne e, if_neg e, h]; simp
  | .node a b, L, s, x, h => by
    unfold addT PT.occ
    rw [addT_at b _ s _ (addT_at a L s x h)]
    congr 1
    omega
def FitT (t : PT) (L : List Int) : Prop := (∀ s, 0 < t.occ s → s < L.length) ∧ ∀ x ∈ L, 0 ≤ x ∧ x + (t.size : Nat) ≤ 1000000000000
theorem occ_size (s : Nat) : ∀ t : PT, t.occ s ≤ t.size
  | .leaf u => by unfold PT.occ PT.size; split <;> omega
  | .node a b => by unfold PT.occ PT.size; have := occ_size s a; have := occ_size s b; omega
theorem addT_mem {t : PT} {L : List Int} {y : Int} (h : y ∈ addT t L) : ∃ x ∈ L, x ≤ y ∧ y ≤ x + (t.size : Nat) := by
  obtain ⟨s, hs, rfl⟩ := List.getElem_of_mem h
  rw [addT_len] at hs
  have h1 := addT_at t L s L[s] (List.getElem?_eq_getElem hs)
  have h2 := List.getElem?_eq_some_iff.1 h1
  obtain ⟨_, h3⟩ := h2
  refine ⟨L[s], List.getElem_mem _, ?_, ?_⟩
  · rw [h3]; omega
  · rw [h3]; have := occ_size s t; omega
theorem FitT.left {a b : PT} {L : List Int} (h : FitT (.node a b) L) : FitT a L :=
  ⟨fun s hs => h.1 s (by unfold PT.occ; omega), fun x hx => by have := h.2 x hx; unfold PT.size at this; omega⟩
theorem FitT.right {a b : PT} {L : List Int} (h : FitT (.node a b) L) : FitT b (addT a L) := by
  refine ⟨fun s hs => by rw [addT_len]; exact h.1 s (by unfold PT.occ; omega), fun y hy => ?_⟩
  obtain ⟨x, hx, h1, h2⟩ := addT_mem hy
  have := h.2 x hx
  unfold PT.size at this
  omega
def TallyV (w : World) (D : Nat) (L : List Int) (e : Ending) (w' : World) : Prop := e = .returned (.tuple #[]) ∧ w'.heap[D]? = some (.cells (intRow L) 3 (0, 0)) ∧ w.grownBy w' (some D)
def TalC (F D : Nat) (its : List It) (n : Nat) (t : PT) : Prop :=
  ∀ (w : World) (B : Nat) (vi vl : Value) (L : List Int), FAt w B F vi vl its → w.heap[D]? = some (.cells (intRow L) 3 (0, 0)) → FitT t L →
    Calls Try.prog 18 #[.pointer (some ⟨F, 0, none⟩), .int .i64 (n : Int), .slice (some ⟨D, 0, none⟩) L.length L.length] w (TallyV w D (addT t L))
theorem FAt.grownInt {w W : World} {B F D : Nat} {vi vl : Value} {its : List It} {cs : Array Value} (h : FAt w B F vi vl its) (hD : w.heap[D]? = some (.cells cs 3 (0, 0))) (hg : w.grownBy W (some D)) : FAt W B F vi vl its := by
  have h1 : F ≠ D := fun e => by
    subst e
    have h2 := h.box
    rw [hD] at h2
    injection h2 with h2
    injection h2 with _ ht
    exact absurd ht (by decide)
  refine ⟨h.hB, by rw [hg.block F h.lt (fun e => by cases e; exact h1 rfl)]; exact h.box, own_below h.own fun k hk => hg.block k (own_low h.own k hk).2 (fun e => ?_)⟩
  cases e
  exact own_other h.own hD (by decide) hk
theorem grown_setZ (w : World) (D i : Nat) (u : Value) : w.grownBy (w.setCell ⟨D, i, none⟩ u) (some D) := ⟨rfl, rfl, rfl, by simp [World.setCell], fun k hk hne => Below.heap_setCell _ _ _ _ (fun e => hne (by have e' : k = D := e; rw [e']))⟩

set_option maxRecDepth 100000 in
set_option maxHeartbeats 4000000 in
theorem tally_leaf {F D : Nat} {its : List It} {n s : Nat} {x : Int} (hit : its[n]? = some (x, (s : Int), -1)) : TalC F D its n (.leaf s) := by
  intro w B vi vl L hf hD hfit
  have hro := hf.rows
  have c0 := cell_of (i := 0) hf.box rfl
  obtain ⟨A, cap, rfl, hc⟩ := hro.form
  have hn := (List.getElem?_eq_some_iff.1 hit).1
  obtain ⟨bi, oi, rfl, -, hcel⟩ := at_it hro (by omega)
  obtain ⟨p0, p1, p2⟩ := hcel n _ hit
  simp only at p0 p1 p2
  obtain ⟨m, hm⟩ : ∃ m, its.length = m := ⟨_, rfl⟩
  rw [hm] at c0 hn
  have hn2 : (n : Int) < (m : Int) := by omega
  have hs : s < L.length := hfit.1 s (by unfold PT.occ; rw [if_pos rfl]; omega)
  obtain ⟨z, hz⟩ : ∃ z, L[s]? = some z := ⟨_, List.getElem?_eq_getElem hs⟩
  have hzb := hfit.2 z (List.mem_of_getElem? hz)
  have hgd : L.getD s 0 = z := by rw [List.getD_eq_getElem?_getD, hz]; rfl
  obtain ⟨N, hN⟩ : ∃ N, w.heap.size = N := ⟨_, rfl⟩
  obtain ⟨X, hX⟩ : ∃ X, w.alloc (.cells #[.int .i64 x, .int .i64 (s : Int), .int .i64 (-1)] 79) = X := ⟨_, rfl⟩
  have hbN : X.heap[N]? = some (.cells #[.int .i64 x, .int .i64 (s : Int), .int .i64 (-1)] 79 (0, 0)) := by rw [← hX, ← hN]; exact block_new _ _
  have hDX : X.heap[D]? = some (.cells (intRow L) 3 (0, 0)) := by rw [← hX, Below.heap_alloc _ _ _ (heap_lt hD)]; exact hD
  have q1 := cell_of (i := 1) hbN rfl
  have q2 := cell_of (i := 2) hbN rfl
  have d0 : X.cell? ⟨D, s, none⟩ = some (.int .i64 z) := cell_of hDX (by rw [intRow_get hs, hgd])
  have f0 : X.frozen? ⟨D, s, none⟩ = false := frozen_of hDX
  have hw1 : wrap64 (z + 1) = z + 1 := by unfold wrap64; unfold PT.size at hzb; omega
  have HE : Hid (TallyV w D (addT (.leaf s) L) (.returned (.tuple #[])) (X.setCell ⟨D, s, none⟩ (.int .i64 (z + 1)))) := Lib.hid (by
    refine ⟨rfl, ?_, ?_⟩
    · unfold addT
      rw [hgd, ← intRow_set]; exact set_of hDX _
    · rw [← hX]; exact grown_transZ (World.grownBy_alloc w _ _) (grown_setZ _ _ _ _))
  obtain ⟨ln, hln⟩ : ∃ ln, L.length = ln := ⟨_, rfl⟩
  rw [hln] at hs ⊢
  have hsi : (s : Int) < (ln : Int) := by omega
  have HX := Lib.hid hX
  have HN := Lib.hid hN
  clear hf hD hfit hro hit hcel hm hz hzb hgd hN hX hbN hDX hc hln
  go_enter Try.func18, Try.ntmps18
  go_upto_region 1 with fail
  rw [HX.out, HN.out]
  go_wp2_with fail
  go_end0
  exact HE.out

set_option maxRecDepth 100000 in
set_option maxHeartbeats 4000000 in
theorem tally_node {F D : Nat} {its : List It} {n a b : Nat} {ta tb : PT} {x : Int} (hit : its[n]? = some (x, (a : Int), (b : Int))) (ha : TalC F D its a ta) (hb : TalC F D its b tb) : TalC F D its n (.node ta tb) := by
  intro w B vi vl L hf hD hfit
  have hro := hf.rows
  have c0 := cell_of (i := 0) hf.box rfl
  obtain ⟨A, cap, rfl, hc⟩ := hro.form
  have hn := (List.getElem?_eq_some_iff.1 hit).1
  obtain ⟨bi, oi, rfl, -, hcel⟩ := at_it hro (by omega)
  obtain ⟨p0, p1, p2⟩ := hcel n _ hit
  simp only at p0 p1 p2
  obtain ⟨m, hm⟩ : ∃ m, its.length = m := ⟨_, rfl⟩
  rw [hm] at c0 hn
  have hn2 : (n : Int) < (m : Int) := by omega
  obtain ⟨N, hN⟩ : ∃ N, w.heap.size = N := ⟨_, rfl⟩
  obtain ⟨X, hX⟩ : ∃ X, w.alloc (.cells #[.int .i64 x, .int .i64 (a : Int), .int .i64 (b : Int)] 79) = X := ⟨_, rfl⟩
  have hbN : X.heap[N]? = some (.cells #[.int .i64 x, .int .i64 (a : Int), .int .i64 (b : Int)] 79 (0, 0)) := by rw [← hX, ← hN]; exact block_new _ _
  have hDX : X.heap[D]? = some (.cells (intRow L) 3 (0, 0)) := by rw [← hX, Below.heap_alloc _ _ _ (heap_lt hD)]; exact hD
  have hfX := hf.alloc (.cells #[.int .i64 x, .int .i64 (a : Int), .int .i64 (b : Int)] 79)
  rw [hX] at hfX
  have q1 := cell_of (i := 1) hbN rfl
  have q2 := cell_of (i := 2) hbN rfl
  have hb1 : ((b : Int) == -1) = false := by simp
  have HA := Lib.hid (ha X B _ vl L hfX hDX hfit.left)
  have hND : N ≠ D := by have := heap_lt hD; omega
  have hgX : w.grownBy X (some D) := by rw [← hX]; exact World.grownBy_alloc w _ _
  have HB := Lib.hid (show ∀ W, W.heap[D]? = some (.cells (intRow (addT ta L)) 3 (0, 0)) → X.grownBy W (some D) → W.cell? ⟨N, 2, none⟩ = some (.int .i64 (b : Int)) ∧ Calls Try.prog 18 #[.pointer (some ⟨F, 0, none⟩), .int .i64 (b : Int), .slice (some ⟨D, 0, none⟩) L.length L.length] W (TallyV w D (addT (.node ta tb) L)) from fun W hW hg => by
    refine ⟨?_, ?_⟩
    · have : W.heap[N]? = X.heap[N]? := hg.block N (heap_lt hbN) (fun e => by cases e; exact hND rfl)
      exact cell_of (i := 2) (this.trans hbN) rfl
    · have h1 := hb W B _ vl (addT ta L) (hfX.grownInt hDX hg) hW hfit.right
      rw [addT_len] at h1
      refine h1.mono ?_
      rintro e w' ⟨h2, h3, h4⟩
      exact ⟨h2, h3, grown_transZ (grown_transZ hgX hg) h4⟩)
  have HX := Lib.hid hX
  have HN := Lib.hid hN
  clear hf hD hfit hro hit hcel hm hN hX hbN hDX hc ha hb hfX hND hgX
  go_enter Try.func18, Try.ntmps18
  go_upto_region 1 with fail
  rw [HX.out, HN.out]
  go_wp2_with fail
  refine HA.out.mono ?_
  rintro e w2 ⟨rfl, hD2, hg2⟩
  obtain ⟨q3, hcb⟩ := HB.out w2 hD2 hg2
  have HCB := Lib.hid hcb
  clear hD2 hg2 hcb HA HB
  go_wp2_with fail
  refine HCB.out.mono ?_
  rintro e w3 ⟨rfl, hD3, hg3⟩
  have HE : Hid (TallyV w D (addT (.node ta tb) L) (.returned (.tuple #[])) w3) := Lib.hid ⟨rfl, hD3, hg3⟩
  clear hD3 hg3 HCB
  go_wp2_with fail
  go_end0
  exact HE.out
theorem tally_any {F D : Nat} {c : Nat → Nat} {its : List It} {n : Nat} {t : PT} (h : RepI c its n t) : TalC F D its n t := by
  induction h with
  | leaf h => exact tally_leaf h
  | node h _ _ ia ib => exact tally_node h ia ib
end Go.Proofs.Yteennnhinfnahaa
namespace Go.Proofs.Yteennnhinfnahaa
open Go.RowKit Go.Shelf Go.Lib Go.Sort
set_option linter.unusedVariables false
set_option linter.unusedSimpArgs false

/-- The lengths that Lengths finds. -/
def hufLs (cs : List Int) (lim : Nat) : List Int := (List.range cs.length).map fun s => ((hufL (cN cs) (preS cs 0) lim s : Nat) : Int)
theorem hufLs_len (cs : List Int) (lim : Nat) : (hufLs cs lim).length = cs.length := by simp [hufLs]
theorem chk_zero {cs : List Int} {lim : Int} (h : chkH cs lim = 0) : ∃ l : Nat, lim = l ∧ 1 ≤ l ∧ l ≤ 15 ∧ cs.length ≤ 1024 ∧ (∀ c ∈ cs, 0 ≤ c ∧ c ≤ 4096) ∧ presN cs ≤ 2 ^ l := by
  unfold chkH at h
  by_cases c1 : lim < 1 ∨ 15 < lim
  · rw [if_pos c1] at h; omega
  · rw [if_neg c1] at h
    by_cases c2 : 1024 < cs.length
    · rw [if_pos c2] at h; omega
    · rw [if_neg c2] at h
      by_cases c3 : cs.any badC = true
      · rw [if_pos c3] at h; omega
      · rw [if_neg c3] at h
        by_cases c4 : 2 ^ lim.toNat < presN cs
        · rw [if_pos c4] at h; omega
        · refine ⟨lim.toNat, by omega, by omega, by omega, by omega, fun c hc => ?_, by omega⟩
          have h3 : cs.any badC = false := by simpa using c3
          have := List.any_eq_false.1 h3 c hc
          unfold badC at this
          simp at this
          omega
theorem lev_f {c : Nat → Nat} {M : Nat} {S : List Nat} (f : PT → Nat) (hf : ∀ a b, f (.node a b) = f a + f b) (hM : ∀ s ∈ S, f (.leaf s) ≤ M) : ∀ i, ∀ t ∈ lev c (leavesP S) i, f t ≤ M * 2 ^ i
  | 0, t, h => by simp [lev] at h
  | i + 1, t, h => by
    have h1 := (lev_perm c (leavesP S) i).mem_iff.1 h
    rw [Nat.pow_succ, ← Nat.mul_assoc]
    rcases List.mem_append.1 h1 with h1 | h1
    · obtain ⟨s, hs, rfl⟩ := List.mem_map.1 h1
      have := hM s hs
      have h2 : 1 ≤ 2 ^ i := Nat.one_le_two_pow
      have h3 : M * 1 ≤ M * 2 ^ i := Nat.mul_le_mul_left _ h2
      omega
    · have key : ∀ l : List PT, (∀ t ∈ l, f t ≤ M * 2 ^ i) → ∀ t ∈ pairs l, f t ≤ M * 2 ^ i * 2 := by
        intro l
        induction l using pairs.induct with
        | case1 x y m ih =>
          intro h t ht
          rcases List.mem_cons.1 ht with rfl | ht
          · have := h x (by simp)
            have := h y (by simp)
            rw [hf]; omega
          · exact ih (fun z hz => h z (by simp [hz])) t ht
        | case2 m hm =>
          intro _ t ht
          unfold pairs at ht
          split at ht
          · exact absurd rfl (hm _ _ _)
          · simp at ht
      exact key _ (lev_f f hf hM i) t h1
theorem occ_le_L {s : Nat} {t : PT} : ∀ {l : List PT}, t ∈ l → t.occ s ≤ occL s l
  | [], h => by simp at h
  | u :: l, h => by
    have e : occL s (u :: l) = u.occ s + occL s l := by simp [occL]
    rw [e]
    rcases List.mem_cons.1 h with rfl | h
    · omega
    · have := occ_le_L (s := s) h; omega
theorem lev_occ {c : Nat → Nat} {S : List Nat} (hS : S.Nodup) {i s : Nat} {t : PT} (ht : t ∈ lev c (leavesP S) i) (h : 0 < t.occ s) : s ∈ S := Classical.byContradiction fun hn => by
  have h1 := (nest c S hS i _ (Nat.le_refl _)).no s hn
  rw [List.take_length] at h1
  have := occ_le_L (s := s) ht
  omega
/-- Trees are added, one behind the other. -/
def addL (l : List PT) (L : List Int) : List Int := l.foldl (fun L t => addT t L) L
theorem addL_snoc (l : List PT) (t : PT) (L : List Int) : addL (l ++ [t]) L = addT t (addL l L) := by simp [addL]
theorem addL_len : ∀ (l : List PT) (L : List Int), (addL l L).length = L.length
  | [], L => rfl
  | t :: l, L => by show (addL l (addT t L)).length = _; rw [addL_len l, addT_len]
theorem addL_at : ∀ (l : List PT) (L : List Int) (s : Nat) (x : Int), L[s]? = some x → (addL l L)[s]? = some (x + (occL s l : Nat))
  | [], L, s, x, h => by show L[s]? = _; rw [h]; simp [occL]
  | t :: l, L, s, x, h => by
    show (addL l (addT t L))[s]? = _
    rw [addL_at l _ s _ (addT_at t L s x h)]
    have e : occL s (t :: l) = t.occ s + occL s l := by simp [occL]
    rw [e]; congr 1; omega
theorem occL_bound {f : Nat} {s : Nat} : ∀ {l : List PT}, (∀ t ∈ l, t.occ s ≤ f) → occL s l ≤ l.length * f
  | [], _ => by simp [occL]
  | t :: l, h => by
    have e : occL s (t :: l) = t.occ s + occL s l := by simp [occL]
    have := h t (by simp)
    have := occL_bound (l := l) fun u hu => h u (by simp [hu])
    rw [e, List.length_cons, Nat.add_mul]; omega
theorem addL_huf {cs : List Int} {lim : Nat} : addL ((lev (cN cs) (leavesP (preS cs 0)) lim).take (cutK (preS cs 0).length)) (List.replicate cs.length 0) = hufLs cs lim := by
  apply List.ext_getElem?
  intro s
  by_cases h : s < cs.length
  · rw [addL_at _ _ s 0 (by rw [List.getElem?_replicate, if_pos h])]
    unfold hufLs hufL
    rw [List.getElem?_map, List.getElem?_range h]
    simp
  · rw [List.getElem?_eq_none (by rw [addL_len]; simpa using h), List.getElem?_eq_none (by rw [hufLs_len]; omega)]
theorem fit_at {cs : List Int} {lim i : Nat} {t : PT} (hl : lim ≤ 15) (ht : (lev (cN cs) (leavesP (preS cs 0)) lim)[i]? = some t) (hi : i ≤ 100000) : FitT t (addL ((lev (cN cs) (leavesP (preS cs 0)) lim).take i) (List.replicate cs.length 0)) := by
  have hsz : ∀ u ∈ lev (cN cs) (leavesP (preS cs 0)) lim, u.size ≤ 1 * 2 ^ lim := lev_f PT.size (fun _ _ => rfl) (fun _ _ => Nat.le_refl _) lim
  have hp : (2 : Nat) ^ lim ≤ 2 ^ 15 := Nat.pow_le_pow_right (by omega) hl
  refine ⟨fun s hs => ?_, fun x hx => ?_⟩
  · have h1 := lev_occ (preS_nodup cs 0) (List.mem_of_getElem? ht) hs
    obtain ⟨_, c, h2, _⟩ := preS_ge cs 0 s h1
    rw [addL_len, List.length_replicate]
    exact (List.getElem?_eq_some_iff.1 h2).1
  · obtain ⟨s, hs, rfl⟩ := List.getElem_of_mem hx
    have hs' : s < cs.length := by simpa [addL_len] using hs
    have h1 := addL_at ((lev (cN cs) (leavesP (preS cs 0)) lim).take i) (List.replicate cs.length 0) s 0 (by rw [List.getElem?_replicate, if_pos hs'])
    obtain ⟨_, h2⟩ := List.getElem?_eq_some_iff.1 h1
    rw [h2]
    have h3 := occL_bound (f := 2 ^ 15) (s := s) (l := (lev (cN cs) (leavesP (preS cs 0)) lim).take i) fun u hu => by
      have := hsz u (List.mem_of_mem_take hu)
      have := occ_size s u
      omega
    have h4 : ((lev (cN cs) (leavesP (preS cs 0)) lim).take i).length * 2 ^ 15 ≤ i * 2 ^ 15 := Nat.mul_le_mul_right _ (by rw [List.length_take]; omega)
    have h5 := hsz t (List.mem_of_getElem? ht)
    omega
def LenV (w : World) (cs : List Int) (lim : Int) (e : Ending) (w' : World) : Prop :=
  Below w.heap.size w w' ∧ ((chkH cs lim ≠ 0 ∧ e = .returned (.tuple #[.slice none 0 0, .int .i64 (chkH cs lim)])) ∨ (chkH cs lim = 0 ∧ ∃ v, e = .returned (.tuple #[v, .int .i64 0]) ∧ Rows 1 EInt w' v (hufLs cs lim.toNat)))
/-- .. they lie in a block of numbers of their own. -/
def LenW (w : World) (cs : List Int) (lim : Int) (e : Ending) (w' : World) : Prop :=
  Below w.heap.size w w' ∧ ((chkH cs lim ≠ 0 ∧ e = .returned (.tuple #[.slice none 0 0, .int .i64 (chkH cs lim)])) ∨ (chkH cs lim = 0 ∧ ∃ D, e = .returned (.tuple #[.slice (some ⟨D, 0, none⟩) cs.length cs.length, .int .i64 0]) ∧ w'.heap[D]? = some (.cells (intRow (hufLs cs lim.toNat)) 3 (0, 0))))
theorem cut_max (k : Nat) : max (k : Int) (2 * (k : Int) - 2) = ((cutK k : Nat) : Int) := by unfold cutK; omega

theorem RepL.at {c : Nat → Nat} {its : List It} {ns : List Nat} {ts : List PT} (h : RepL c its ns ts) {i x : Nat} (hx : ns[i]? = some x) : ∃ t, ts[i]? = some t ∧ RepI c its x t := by
  obtain ⟨ps, rfl, rfl, h⟩ := h
  rw [List.getElem?_map] at hx
  cases e : ps[i]? with
  | none => rw [e] at hx; simp at hx
  | some p =>
    rw [e] at hx
    have e2 : p.1 = x := by simpa using hx
    refine ⟨p.2, by rw [List.getElem?_map, e]; rfl, ?_⟩
    rw [← e2]; exact h p (List.mem_of_getElem? e)
theorem grown_refl (w : World) (r : Option Nat) : w.grownBy w r := ⟨rfl, rfl, rfl, Nat.le_refl _, fun _ _ _ => rfl⟩
/-- Between two tallies. -/
def MtAt (D n : Nat) (X : World) (ts : List PT) (i : Nat) (W : World) : Prop := W.heap[D]? = some (.cells (intRow (addL (ts.take i) (List.replicate n 0))) 3 (0, 0)) ∧ X.grownBy W (some D)
set_option maxRecDepth 100000 in
set_option maxHeartbeats 4000000 in
theorem lengths_own {w : World} {v : Value} {cs : List Int} (hv : Rows 1 EInt w v cs) (hlen : cs.length ≤ maxLen) (lim : Int) (hl0 : -9223372036854775808 ≤ lim) (hl1 : lim ≤ 9223372036854775807) :
    Calls Try.prog 5 #[v, .int .i64 lim] w (LenW w cs lim) := by
  have HCK := Lib.hid (check_any hv hlen lim hl0 hl1)
  by_cases hz : chkH cs lim = 0
  · obtain ⟨l, rfl, h1, h2, h3, h4, h5⟩ := chk_zero hz
    have HPL := Lib.hid (plant_any hv (by omega))
    obtain ⟨A, cap, rfl, hc⟩ := hv.form
    obtain ⟨n, hn⟩ : ∃ n, cs.length = n := ⟨_, rfl⟩
    obtain ⟨N, hN⟩ : ∃ N, w.heap.size = N := ⟨_, rfl⟩
    obtain ⟨S, hS⟩ : ∃ S, preS cs 0 = S := ⟨_, rfl⟩
    have hnd : S.Nodup := by rw [← hS]; exact preS_nodup cs 0
    have hSl : S.length ≤ 2 ^ l := by rw [← hS, preS_len]; exact h5
    have hSn : S.length ≤ n := by rw [← hS, preS_len, ← hn]; exact presN_le cs
    have hcut := huf_enough (cN cs) S h1 hSl
    have hcM : ∀ s ∈ S, cN cs s ≤ 4096 := fun s hs => by
      rw [← hS] at hs
      obtain ⟨_, c, q1, q2⟩ := preS_ge cs 0 s hs
      rw [Nat.sub_zero] at q1
      have := h4 c (List.mem_of_getElem? q1)
      unfold cN
      rw [List.getD_eq_getElem?_getD, q1, Option.getD_some]
      omega
    have HLL := Lib.hid (show ∀ (W : World) (vi vl : Value), PAt w N W vi vl (lfIt cs 0) → Calls Try.prog 17 #[.pointer (some ⟨N, 0, none⟩), .int .i64 l] W (LastV W W.heap.size W.heap.size N N vl (cN cs) S l) from fun W vi vl hp => by
      have e : (lfIt cs 0).length = S.length := by rw [lf_len, hS]
      refine lastList_any hp.f (by have := hp.l; rw [e] at this; exact this) (by rw [← hS]; exact lf_at cs) (by rw [e]; exact Nat.le_refl _) (by omega) hcM l h2)
    rw [hz, hn] at HCK
    rw [hn, hN] at HPL
    rw [hn]
    have HZ := Lib.hid hz
    have HN := Lib.hid hN
    have HCN := Lib.hid hn
    have HS := Lib.hid hS
    obtain ⟨i1, hi1, hy0, hy1, hy2⟩ := info_parts' Try.infoInt2
    have hn4 : n ≤ 1024 := by rw [← hn]; exact h3
    have hmk : ∀ W : World, (Instr.makeSlice 22 (.int .i64 n) (.int .i64 n)).run Try.prog W = .ok (.slice (some ⟨W.heap.size, 0, none⟩) n n) (W.alloc (.cells (intRow (List.replicate n 0)) 3)) := fun W => by
      have := run_make (P := Try.prog) W 22 3 i1 _ Try.underlying22 hi1 hy0 .i64 .i64 n n (by omega) (by omega) (by rw [hy2]; omega) (by omega)
      rw [Int.toNat_natCast, hy1, Nat.mul_one] at this
      rw [← made_int]
      exact this
    have HFIT := Lib.hid (fun (i : Nat) (t : PT) (ht : (lev (cN cs) (leavesP S) l)[i]? = some t) (hi : i ≤ 100000) => show FitT t (addL ((lev (cN cs) (leavesP S) l).take i) (List.replicate n 0)) from by
      rw [← hS] at ht ⊢
      rw [← hn]
      exact fit_at h2 ht hi)
    have HHUF := Lib.hid (show addL ((lev (cN cs) (leavesP S) l).take (cutK S.length)) (List.replicate n 0) = hufLs cs l from by rw [← hS, ← hn]; exact addL_huf)
    have hkk : S.length ≤ 1024 := by omega
    obtain ⟨k, hk⟩ : ∃ k, S.length = k := ⟨_, rfl⟩
    rw [hk] at hcut hkk HHUF
    have hmax := cut_max k
    obtain ⟨q, hq⟩ : ∃ q, cutK k = q := ⟨_, rfl⟩
    have hqb : q ≤ 2048 := by rw [← hq]; unfold cutK; omega
    rw [hq] at hcut HHUF hmax
    have HCUT := Lib.hid hcut
    have HK := Lib.hid hk
    have hw1 : wrap64 (2 * (k : Int)) = 2 * (k : Int) := by unfold wrap64; omega
    have hw2 : wrap64 (2 * (k : Int) - 2) = 2 * (k : Int) - 2 := by unfold wrap64; omega
    clear hv hz hn hN hS hnd hSl hSn hcut hcM h1 h2 h3 h4 h5 hl0 hl1 hlen hc hk hq
    go_enter Try.func5, Try.ntmps5
    go_wp2_with fail
    refine HCK.out.mono ?_
    rintro e w1 ⟨rfl, rfl⟩
    go_wp2_with fail
    refine HPL.out.mono ?_
    rintro e w2 ⟨vi, vl, rfl, hp⟩
    obtain ⟨Al, capl, rfl, -⟩ := own_formI hp.l
    have HP := Lib.hid hp
    have HC2 := Lib.hid (HLL.out w2 vi _ hp)
    clear hp HPL HCK
    go_wp2_with fail
    refine HC2.out.mono ?_
    rintro e w3 ⟨lv, rfl, hla⟩
    obtain ⟨⟨vi3, its, ns, hf3, hlf3, hln3, hrep, hown3⟩, hs3, ht3⟩ := hla
    obtain ⟨A3, cap3, rfl, hc3⟩ := own_formI hown3
    have hkl : (lfIt cs 0).length = k := by rw [lf_len, HS.out, HK.out]
    rw [hkl] at hf3
    have c0 := cell_of (i := 1) hf3.box rfl
    obtain ⟨m, hm⟩ : ∃ m, ns.length = m := ⟨_, rfl⟩
    have hqm : q ≤ m := by rw [← hm, hrep.len]; exact HCUT.out
    rw [hm] at hown3 hc3 ⊢
    have hsl : ∀ W, (Instr.slice 22 (.slice A3 m cap3) none (some (.int .i64 (q : Int))) none).run Try.prog W = .ok (.slice A3 q cap3) W := fun W => sliceI_to _ _ _ _ hqm hc3 W
    obtain ⟨D, hD⟩ : ∃ D, w3.heap.size = D := ⟨_, rfl⟩
    obtain ⟨X, hX⟩ : ∃ X, w3.alloc (.cells (intRow (List.replicate n 0)) 3) = X := ⟨_, rfl⟩
    have hbl3 : Below N w1 w3 := by have h1 := HP.out.b; exact h1.trans hs3.be
    have hND : N ≤ D := by rw [← hD, ← HN.out]; exact hbl3.size
    have HX := Lib.hid hX
    have HD := Lib.hid hD
    have HBX : Hid (Below N w1 X) := Lib.hid (by rw [← hX]; exact hbl3.alloc (by rw [hD]; exact hND) _)
    have HFX : Hid (FAt X N N vi3 (.slice Al k capl) its) := Lib.hid (by rw [← hX]; exact hf3.alloc _)
    have HOX : Hid (X.ownsRow w2.heap.size 3 1 (.slice A3 m cap3) m (idxV ns)) := Lib.hid (by rw [← hX]; exact hown3.alloc _)
    have HDX : Hid (X.heap[D]? = some (.cells (intRow (List.replicate n 0)) 3 (0, 0))) := Lib.hid (by rw [← hX, ← hD]; exact block_new _ _)
    have HLD : Hid (∀ b, A3 = some b → b.block < D) := Lib.hid (fun b hb => by
      have := (own_low hown3 b.block (by rw [hb]; rfl)).2
      omega)
    have HREP := Lib.hid hrep
    have HM := Lib.hid hm
    have HNDD := Lib.hid hND
    clear hf3 hlf3 hln3 hrep hown3 hs3 ht3 hm hc3 hkl HC2 HLL HP hD hX hbl3 hND
    go_wp2_with fail
    rw [HX.out, HD.out]
    have hmz : MtAt D n X (lev (cN cs) (leavesP S) l) 0 X := ⟨HDX.out, grown_refl _ _⟩
    have HST0 := Lib.hid hmz
    clear hmz hmk c0 hsl
    go_loopw [40] (fun sv wr => ∃ i : Nat, i ≤ q ∧ sv = .int .i64 i ∧ Hid (MtAt D n X (lev (cN cs) (leavesP S) l) i wr)) (fun sv _ => q - (Go.RowKit.intOf sv).toNat)
    case atStart => exact ⟨0, Nat.zero_le _, rfl, HST0⟩
    case round =>
      clear HST0 HX
      obtain ⟨i, hi, rfl, HT⟩ := hrel
      by_cases hlt : i < q
      · have hlti : (i : Int) < (q : Int) := by omega
        obtain ⟨x, hx⟩ : ∃ x, ns[i]? = some x := ⟨_, List.getElem?_eq_getElem (by rw [HM.out]; omega)⟩
        obtain ⟨t, ht, hr⟩ := HREP.out.at hx
        obtain ⟨b, o, rfl, -, hj⟩ := at_int (own_int (by rw [HM.out]; exact HOX.out)) (by rw [List.length_map, HM.out]; omega)
        have u0 := hj i (x : Int) (by rw [List.getElem?_map, hx]; rfl)
        have hbD : b ≠ D := by have := HLD.out ⟨b, o, none⟩ rfl; simp only at this; omega
        have u1 : wr.cell? ⟨b, o + i, none⟩ = some (.int .i64 (x : Int)) := HT.out.2.cell u0 (fun e => by cases e; exact hbD rfl)
        have hcall := tally_any (F := N) (D := D) hr wr N vi3 (.slice Al k capl) _ (HFX.out.grownInt HDX.out HT.out.2) HT.out.1 (HFIT.out i t ht (by omega))
        rw [addL_len, List.length_replicate] at hcall
        have HCALL := Lib.hid hcall
        have HTK := Lib.hid (show (lev (cN cs) (leavesP S) l).take (i + 1) = (lev (cN cs) (leavesP S) l).take i ++ [t] from by rw [List.take_add_one, ht]; rfl)
        clear hx ht hr hj u0 hbD hcall
        go_wp2_with fail
        refine HCALL.out.mono ?_
        rintro e w4 ⟨rfl, hD4, hg4⟩
        have HN4 : Hid (MtAt D n X (lev (cN cs) (leavesP S) l) (i + 1) w4) := Lib.hid ⟨by rw [HTK.out, addL_snoc]; exact hD4, grown_transZ HT.out.2 hg4⟩
        clear hD4 hg4 HCALL HTK HT u1
        go_wp2_with fail
        exact ⟨⟨i + 1, by omega, by go_num, HN4⟩, by simp only [Go.RowKit.intOf]; omega⟩
      · obtain rfl : i = q := by omega
        have hlti : ¬ (i : Int) < (i : Int) := by omega
        have HE : Hid (LenW w1 cs l (.returned (.tuple #[.slice (some ⟨D, 0, none⟩) n n, .int .i64 0])) wr) := Lib.hid (by
          have h1 := HT.out.1
          rw [HHUF.out] at h1
          refine ⟨by rw [HN.out]; exact HBX.out.grown HT.out.2 (Nat.le_trans HNDD.out (Nat.le_of_lt (heap_lt HDX.out))) (fun k e => by cases e; exact HNDD.out), .inr ⟨HZ.out, D, by rw [HCN.out], ?_⟩⟩
          rw [Int.toNat_natCast]
          exact h1)
        clear HT
        go_wp2_with fail
        go_ret2
        exact HE.out
  · have HE : Hid (LenW w cs lim (.returned (.tuple #[.slice none 0 0, .int .i64 (chkH cs lim)])) w) := Lib.hid ⟨Below.refl _ _, .inl ⟨hz, rfl⟩⟩
    obtain ⟨A, cap, rfl, hc⟩ := hv.form
    obtain ⟨r, hr⟩ : ∃ r, chkH cs lim = r := ⟨_, rfl⟩
    rw [hr] at HCK HE hz
    have hne : (r != 0) = true := by simpa using hz
    clear hv hz hr hl0 hl1 hlen hc
    go_enter Try.func5, Try.ntmps5
    go_wp2_with fail
    refine HCK.out.mono ?_
    rintro e w1 ⟨rfl, rfl⟩
    go_wp2_with fail
    go_ret2
    exact HE.out
theorem lengths_any {w : World} {v : Value} {cs : List Int} (hv : Rows 1 EInt w v cs) (hlen : cs.length ≤ maxLen) (lim : Int) (hl0 : -9223372036854775808 ≤ lim) (hl1 : lim ≤ 9223372036854775807) :
    Calls Try.prog 5 #[v, .int .i64 lim] w (LenV w cs lim) := by
  refine (lengths_own hv hlen lim hl0 hl1).mono ?_
  rintro e w' ⟨hb, h | ⟨h0, D, rfl, hD⟩⟩
  · exact ⟨hb, .inl h⟩
  · exact ⟨hb, .inr ⟨h0, _, rfl, rows_int (hufLs_len _ _) (Nat.le_refl _) hD⟩⟩
end Go.Proofs.Yteennnhinfnahaa
