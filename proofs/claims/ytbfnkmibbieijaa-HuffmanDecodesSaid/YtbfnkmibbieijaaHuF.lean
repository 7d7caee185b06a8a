/-
  WALKS over package huffman: the comparison of lastList, and its stable sort.
-/
import Derived.Test.YtbfnkmibbieijaaHuE
import Derived.Test.YtbfnkmibbieijaaLzF
import Derived.Deep.QuietTactic
namespace Go.Proofs.Ytbfnkmibbieijaa
open Go.RowKit Go.Shelf Go.Lib Go.Sort
set_option linter.unusedVariables false
set_option linter.unusedSimpArgs false

/-! ### a stable sort is sortA -/
def TrP (g : Nat → Nat) (i j : Nat) : Prop := g i < g j ∨ (g i = g j ∧ i < j)
theorem insA_tr (g : Nat → Nat) (x : Nat) : ∀ S : List Nat, S.Pairwise (TrP g) → (∀ y ∈ S, y < x) → (insA g x S).Pairwise (TrP g)
  | [], _, _ => List.pairwise_singleton _ _
  | y :: l, h, hx => by
    rw [List.pairwise_cons] at h
    have hy := hx y (by simp)
    unfold insA
    by_cases c : g y ≤ g x
    · rw [if_pos c, List.pairwise_cons]
      refine ⟨fun z hz => ?_, insA_tr g x l h.2 fun z hz => hx z (by simp [hz])⟩
      rcases List.mem_cons.1 ((insA_perm g x l).mem_iff.1 hz) with rfl | hz
      · unfold TrP; omega
      · exact h.1 z hz
    · rw [if_neg c, List.pairwise_cons]
      refine ⟨fun z hz => ?_, by rw [List.pairwise_cons]; exact h⟩
      rcases List.mem_cons.1 hz with rfl | hz
      · unfold TrP; omega
      · have := h.1 z hz
        unfold TrP at this ⊢; omega
theorem foldIns_tr (g : Nat → Nat) : ∀ (l acc : List Nat), l.Pairwise (· < ·) → acc.Pairwise (TrP g) → (∀ y ∈ acc, ∀ x ∈ l, y < x) → (l.foldl (fun a x => insA g x a) acc).Pairwise (TrP g)
  | [], acc, _, h, _ => h
  | x :: l, acc, hl, h, hx => by
    rw [List.pairwise_cons] at hl
    rw [List.foldl_cons]
    refine foldIns_tr g l _ hl.2 (insA_tr g x acc h fun y hy => hx y hy x (by simp)) fun y hy z hz => ?_
    rcases List.mem_cons.1 ((insA_perm g x acc).mem_iff.1 hy) with rfl | hy
    · exact hl.1 z hz
    · exact hx y hy z (by simp [hz])
def cfW (wt : Nat → Int) (ns : List Nat) (n : Nat) (x y : Fin n) : Int := Lib.compareInt (wt (ns.getD x.1 0)) (wt (ns.getD y.1 0))
theorem ltW (wt : Nat → Int) (ns : List Nat) (n : Nat) (x y : Fin n) : ltOf (cfW wt ns n) x y = decide (wt (ns.getD x.1 0) < wt (ns.getD y.1 0)) := by
  unfold ltOf cfW Lib.compareInt
  obtain ⟨a, ha⟩ : ∃ a, wt (ns.getD x.1 0) = a := ⟨_, rfl⟩
  obtain ⟨b, hb⟩ : ∃ b, wt (ns.getD y.1 0) = b := ⟨_, rfl⟩
  rw [ha, hb, decide_eq_decide]
  by_cases h1 : a < b
  · rw [if_pos h1]; omega
  · rw [if_neg h1]
    by_cases h2 : b < a
    · rw [if_pos h2]; omega
    · rw [if_neg h2]; omega
theorem swoW (wt : Nat → Int) (ns : List Nat) (n : Nat) : SWO (ltOf (cfW wt ns n)) where
  irrefl x := by rw [ltW]; exact decide_eq_false (by omega)
  trans x y z h1 h2 := by
    rw [ltW] at *
    have := of_decide_eq_true h1
    have := of_decide_eq_true h2
    exact decide_eq_true (by omega)
  ntrans x y z h1 h2 := by
    rw [ltW] at *
    have := of_decide_eq_false h1
    have := of_decide_eq_false h2
    exact decide_eq_false (by omega)
theorem range_getD (ns : List Nat) : (List.range ns.length).map (fun i => ns.getD i 0) = ns := by
  apply List.ext_getElem?
  intro i
  rw [List.getElem?_map]
  by_cases h : i < ns.length
  · rw [List.getElem?_range h, Option.map_some, List.getD_eq_getElem?_getD, List.getElem?_eq_getElem h]; rfl
  · rw [List.getElem?_eq_none (by simpa using h), List.getElem?_eq_none (by simpa using h)]; rfl
theorem srt_sort {wt : Nat → Int} {ns : List Nat} (hpos : ∀ x ∈ ns, 0 ≤ wt x) {ord : List Nat} (h : Srt ns.length (cfW wt ns ns.length) ord) : ord.map (fun i => ns.getD i 0) = sortA (fun x => (wt x).toNat) ns := by
  obtain ⟨h1, h2, l, rfl, h3⟩ := h
  obtain ⟨g, hg⟩ : ∃ g : Nat → Nat, ∀ i, g i = (wt (ns.getD i 0)).toNat := ⟨_, fun _ => rfl⟩
  have hp : ∀ i : Fin ns.length, 0 ≤ wt (ns.getD i.1 0) := fun i => hpos _ (by rw [List.getD_eq_getElem?_getD, List.getElem?_eq_getElem i.2]; exact List.getElem_mem _)
  have e1 : (l.map (·.1)).Pairwise (TrP g) := by
    rw [List.pairwise_map]
    refine h3.imp fun {a b} hab => ?_
    have pa := hp a
    have pb := hp b
    rcases hab with e | ⟨e, e2⟩
    · rw [ltW] at e
      have := of_decide_eq_true e
      left; rw [hg, hg]; omega
    · rw [ltW] at e
      have := of_decide_eq_false e
      have e3 : a.1 < b.1 := e2
      unfold TrP
      rw [hg, hg]; omega
  have e2 : (sortA g (List.range ns.length)).Pairwise (TrP g) := foldIns_tr g _ [] List.pairwise_lt_range List.Pairwise.nil (by simp)
  have e3 : l.map (·.1) = sortA g (List.range ns.length) := pw_unique (r := TrP g) (fun a => by unfold TrP; omega) (fun a b => by unfold TrP; omega) e1 e2 fun x => by
    rw [h2, (sortA_perm g (List.range ns.length)).mem_iff, List.mem_range]
  rw [e3, sortA_map (fun i => ns.getD i 0) g (fun x => (wt x).toNat) (fun i => (hg i).symm), range_getD]

/-! ### the comparison -/
/-- What the closure captures: a box that holds the forest's address. -/
def TBox (w : World) (T F : Nat) : Prop := w.heap[T]? = some (.cells #[.pointer (some ⟨F, 0, none⟩)] 87 (0, 0))
set_option maxRecDepth 100000 in
set_option maxHeartbeats 4000000 in
theorem wless_any {W : World} {T F B : Nat} {vi vl : Value} {its : List It} (hf : FAt W B F vi vl its) (hb : TBox W T F) {a b : Nat} (ha : a < its.length) (hb1 : b < its.length) :
    Calls Try.prog 85 (#[.int .i64 (a : Int), .int .i64 (b : Int)] ++ #[.pointer (some ⟨T, 0, none⟩)]) W fun e w' => e = .returned (.int .i64 (Lib.compareInt (wI its a) (wI its b))) ∧ ∃ q, w' = W.drewN q := by
  have c0 := cell_of (i := 0) hb rfl
  have c1 := cell_of (i := 0) hf.box rfl
  have hro := hf.rows
  obtain ⟨A, cap, rfl, hc⟩ := hro.form
  obtain ⟨bi, oi, rfl, -, hcel⟩ := at_it hro (by omega)
  obtain ⟨xa, hxa⟩ : ∃ x, its[a]? = some x := ⟨_, List.getElem?_eq_getElem ha⟩
  obtain ⟨xb, hxb⟩ : ∃ x, its[b]? = some x := ⟨_, List.getElem?_eq_getElem hb1⟩
  have p0 := (hcel a xa hxa).1
  have p1 := (hcel b xb hxb).1
  rw [wI_at hxa, wI_at hxb]
  obtain ⟨x, hx⟩ : ∃ x, xa.1 = x := ⟨_, rfl⟩
  obtain ⟨y, hy⟩ : ∃ y, xb.1 = y := ⟨_, rfl⟩
  rw [hx] at p0 ⊢
  rw [hy] at p1 ⊢
  obtain ⟨m, hm⟩ : ∃ m, its.length = m := ⟨_, rfl⟩
  rw [hm] at c1 ha hb1
  have ha2 : (a : Int) < (m : Int) := by omega
  have hb2 : (b : Int) < (m : Int) := by omega
  have hcon := fun W' => Try.cmp_Compare_int x y W'
  obtain ⟨r, hr⟩ : ∃ r, Lib.compareInt x y = r := ⟨_, rfl⟩
  rw [hr] at hcon ⊢
  have HC := Lib.hid hcon
  clear hcon hr hx hy hxa hxb hcel hro hc hf hb hm
  go_enter Try.func85, Try.ntmps85
  go_wp2_with fail
  go_quiet ((go_at_call 86; exact Calls.quiet_of_same (HC.out _)))
  go_wp2_with fail
  go_ret
  exact ⟨rfl, _, rfl⟩

/-! ### the sort -/
def encW (ns : List Nat) (n : Nat) (x : Fin n) : Value := .int .i64 ((ns.getD x.1 0 : Nat) : Int)
theorem heap_sortZ {α : Type} [Inhabited α] (enc : α → Value) {w : World} {g m : Nat} {os : Array Obj} (d : Array α) {cs : Array Value} {t : TypeId} {f : Nat × Nat} (h : w.heap[g]? = some (.cells cs t f)) : (sortWorld enc w g 0 m d os).heap[g]? = some (.cells (putCells enc 0 d cs) t f) := by
  have hlt := heap_lt h
  unfold sortWorld
  rw [heap_grow_old _ _ (by simpa [putRow, mapBlock, Sort.ahead] using hlt)]
  simp [putRow, mapBlock, Sort.ahead, Array.getElem?_modify, h, onCells]
theorem take_putZ {α : Type} [Inhabited α] (enc : α → Value) (d : Array α) (c : Array Value) (h : d.size ≤ c.size) : (putCells enc 0 d c).toList.take d.size = d.toList.map enc := by
  apply List.ext_getElem?
  intro i
  rw [List.getElem?_take, List.getElem?_map]
  by_cases hi : i < d.size
  · rw [if_pos hi]
    unfold putCells
    rw [Array.getElem?_toList, Array.getElem?_mapIdx, Array.getElem?_eq_getElem (by omega)]
    simp only [Option.map_some, Nat.zero_le, Nat.zero_add, hi, and_self, if_true, Nat.sub_zero]
    rw [getElem!_pos d i hi]
    simp [hi]
  · rw [if_neg hi, List.getElem?_eq_none (by simpa using hi)]; rfl
def SortV (w : World) (M : Nat) (lv : Value) (its : List It) (ns : List Nat) (e : Ending) (w' : World) : Prop :=
  e = .returned (.tuple #[]) ∧ w'.ownsRow M 3 1 lv ns.length (idxV (sortA (fun x => (wI its x).toNat) ns)) ∧ w.grownBy w' lv.ownBlock
theorem sortF_any {w : World} {T F B M : Nat} {vi vl lv : Value} {its : List It} {ns : List Nat} (hf : FAt w B F vi vl its) (hb : TBox w T F) (hv : w.ownsRow M 3 1 lv ns.length (idxV ns)) (hin : ∀ n ∈ ns, n < its.length) (hw : ∀ n ∈ ns, 0 ≤ wI its n) (hsz : ns.length ≤ 1000000) :
    Calls Try.prog 84 #[lv, .func (.func 85) #[] #[.pointer (some ⟨T, 0, none⟩)]] w (SortV w M lv its ns) := by
  by_cases h0 : ns.length = 0
  · obtain ⟨A, cap, rfl, hc⟩ := own_formI hv
    have hns : ns = [] := List.length_eq_zero_iff.1 h0
    subst hns
    refine (sortStable_none A cap _ w).mono ?_
    rintro e w' ⟨rfl, rfl⟩
    exact ⟨rfl, hv, ⟨rfl, rfl, rfl, Nat.le_refl _, fun _ _ _ => rfl⟩⟩
  · rcases hv.2 with ⟨rfl, hz⟩ | ⟨g, cap, cur, rfl, hMg, hg, hc, hm, hcs, htk⟩
    · exact absurd hz h0
    · rw [Nat.mul_one] at hcs htk
      letI : Inhabited (Fin ns.length) := ⟨⟨0, by omega⟩⟩
      obtain ⟨d0, hd0⟩ : ∃ d : Array (Fin ns.length), d = Array.ofFn (fun i : Fin ns.length => i) := ⟨_, rfl⟩
      have hsz0 : d0.size = ns.length := by rw [hd0]; simp
      have hat : ∀ k : Fin ns.length, d0[k.1]! = k := fun k => by
        rw [getElem!_pos d0 k.1 (by rw [hsz0]; exact k.2)]
        subst hd0
        rw [Array.getElem_ofFn]
      have hH : Holds (encW ns ns.length) w g 0 d0 := fun j hj => by
        rw [hsz0] at hj
        have := hat ⟨j, hj⟩
        simp only at this
        rw [this, Nat.zero_add]
        refine ⟨cell_of hg ?_, frozen_of hg⟩
        have h1 : (cur.toList.take ns.length)[j]? = (idxV ns)[j]? := by rw [htk]
        rw [List.getElem?_take, if_pos hj] at h1
        rw [Array.getElem?_toList] at h1
        rw [h1]
        unfold idxV encW
        rw [List.getElem?_map, List.getElem?_eq_getElem hj, List.getD_eq_getElem?_getD, List.getElem?_eq_getElem hj]
        rfl
      have hlt := heap_lt hg
      have R : Row1 (encW ns ns.length) w g 0 d0 := ⟨fun _ => rfl, hH, hlt⟩
      have hgF : g ≠ F := fun e => by subst e; exact own_other hv hf.box (by decide) rfl
      have hgT : g ≠ T := fun e => by subst e; exact own_other hv hb (by decide) rfl
      have hkeep : ∀ W, w.grownBy W (some g) → FAt W B F vi vl its ∧ TBox W T F := fun W hgr => by
        refine ⟨⟨hf.hB, by rw [hgr.block F hf.lt (fun e => by cases e; exact hgF rfl)]; exact hf.box, own_below hf.own fun k hk => hgr.block k (own_low hf.own k hk).2 (fun e => ?_)⟩, ?_⟩
        · cases e
          exact own_other hf.own hg (by decide) hk
        · unfold TBox
          rw [hgr.block T (heap_lt hb) (fun e => by cases e; exact hgT rfl)]; exact hb
      have hget : ∀ x : Fin ns.length, ns.getD x.1 0 < its.length := fun x => hin _ (by rw [List.getD_eq_getElem?_getD, List.getElem?_eq_getElem x.2]; exact List.getElem_mem _)
      have hcmp : CmpReads Try.prog 85 #[.pointer (some ⟨T, 0, none⟩)] (encW ns ns.length) (cfW (wI its) ns ns.length) g 0 d0.size w := fun m os dk hs x y => by
        have hgr := grown_sortZ (w := w) (g := g) (m := m) (os := os) (encW ns ns.length) dk
        obtain ⟨k1, k2⟩ := hkeep _ hgr
        exact wless_any k1 k2 (hget x) (hget y)
      refine (sortStable_any (encW ns ns.length) (cfW (wI its) ns ns.length) (·.1) (swoW _ _ _) 85 #[.pointer (some ⟨T, 0, none⟩)] g 0 cap ns.length d0 w (enters_of Try.func85 (by kernel_rfl) rfl) hcmp.lays R hsz0 (by omega) (fun k hk => by have := hat ⟨k, hk⟩; simp only at this; rw [this])).mono ?_
      rintro e w' ⟨rfl, d', hM, hS, hSW⟩
      have hs' : d'.size = ns.length := hM.size.trans hsz0
      have hsrt := srt_sort hw (srt_of hsz0 hat hM hS)
      obtain ⟨m, os, rfl⟩ := hSW
      refine ⟨rfl, ⟨by simp [idxV, (sortA_perm _ ns).length_eq], .inr ⟨g, cap, _, rfl, hMg, heap_sortZ _ d' hg, hc, hm, by rw [Nat.mul_one]; simp [putCells, hcs], ?_⟩⟩, grown_sortZ _ d'⟩
      have ht := take_putZ (encW ns ns.length) d' cur (by omega)
      rw [hs'] at ht
      refine (congrArg (fun k => List.take k _) (Nat.mul_one _)).trans (ht.trans ?_)
      rw [← hsrt]
      unfold idxV
      rw [List.map_map, List.map_map]
      rfl
end Go.Proofs.Ytbfnkmibbieijaa
