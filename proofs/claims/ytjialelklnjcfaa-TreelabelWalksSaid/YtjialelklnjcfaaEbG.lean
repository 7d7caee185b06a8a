/-
  WALKS over package treelabel, seventh part: the nodes in the order of Pre (slices.SortFunc at numbers, by what a captured list says).
-/
import Derived.Test.YtjialelklnjcfaaEbF
import Derived.Shelf.SlSortCmp.NoneTotal
namespace Go.Proofs.Ytjialelklnjcfaa
open Go.RowKit Go.Shelf Go.Lib Go.Sort
set_option linter.unusedVariables false
set_option linter.unusedSimpArgs false

def preN (L : List Lb) (i : Nat) : Int := (L.getD i (0, 0, 0)).1
def cfI (L : List Lb) (n : Nat) (x y : Fin n) : Int := Lib.compareInt (preN L x.1) (preN L y.1)
def encF (n : Nat) (x : Fin n) : Value := .int .i64 (x.1 : Int)
theorem ltI (L : List Lb) (n : Nat) (x y : Fin n) : ltOf (cfI L n) x y = decide (preN L x.1 < preN L y.1) := by
  unfold ltOf cfI Lib.compareInt
  by_cases h1 : preN L x.1 < preN L y.1
  · simp [h1]
  · by_cases h2 : preN L y.1 < preN L x.1 <;> simp [h1, h2]
theorem swoI (L : List Lb) (n : Nat) : SWO (ltOf (cfI L n)) where
  irrefl x := by rw [ltI]; simp
  trans x y z h1 h2 := by rw [ltI] at *; simp at *; omega
  ntrans x y z h1 h2 := by rw [ltI] at *; simp at *; omega

set_option maxHeartbeats 2000000 in
theorem closure_any {W : World} {L : List Lb} {n : Nat} (hn : L.length = n) (Bx : Nat) (A : Option Addr) (cap : Nat) (hv : Rows 3 ELb W (.slice A n cap) L) (hb : W.cell? ⟨Bx, 0, none⟩ = some (.slice A n cap)) (x y : Fin n) :
    Calls Try.prog 51 (#[encF n x, encF n y] ++ #[.pointer (some ⟨Bx, 0, none⟩)]) W fun e w' => e = .returned (.int .i64 (cfI L n x y)) ∧ ∃ q, w' = W.drewN q := by
  obtain ⟨i, hi⟩ := x
  obtain ⟨j, hj⟩ := y
  unfold encF cfI
  simp only
  obtain ⟨b, off, rfl, -, hc⟩ := at_lb hv (by omega)
  have hx := List.getElem?_eq_getElem (l := L) (i := i) (by omega)
  have hy := List.getElem?_eq_getElem (l := L) (i := j) (by omega)
  have p1 : preN L i = (L[i]'(by omega)).1 := by unfold preN; rw [getD_of hx]
  have p2 : preN L j = (L[j]'(by omega)).1 := by unfold preN; rw [getD_of hy]
  obtain ⟨c1, -, -⟩ := hc i _ hx
  obtain ⟨c2, -, -⟩ := hc j _ hy
  rw [← p1] at c1
  rw [← p2] at c2
  obtain ⟨u1, hu1⟩ : ∃ z, preN L i = z := ⟨_, rfl⟩
  obtain ⟨u2, hu2⟩ : ∃ z, preN L j = z := ⟨_, rfl⟩
  rw [hu1] at c1 ⊢
  rw [hu2] at c2 ⊢
  have hcon := fun W' => Try.cmp_Compare_int u1 u2 W'
  obtain ⟨r, hr⟩ : ∃ r, Lib.compareInt u1 u2 = r := ⟨_, rfl⟩
  rw [hr] at hcon ⊢
  have hii : (i : Int) < (n : Int) := by omega
  have hjj : (j : Int) < (n : Int) := by omega
  have HC := Lib.hid hcon
  clear hcon hr hu1 hu2 p1 p2 hx hy hc hv
  go_enter Try.func51, Try.ntmps51
  go_wp2_with fail
  go_quiet ((go_at_call 52; exact Calls.quiet_of_same (HC.out _)))
  go_wp2_with fail
  go_ret
  exact ⟨rfl, _, rfl⟩
theorem grown_sort1 {α : Type} [Inhabited α] (enc : α → Value) {w : World} {g m : Nat} {os : Array Obj} (d : Array α) : w.grownBy (sortWorld enc w g 0 m d os) (some g) := by
  unfold sortWorld
  refine ⟨rfl, rfl, rfl, by simp [putRow, mapBlock, Sort.ahead], fun k hk hne => ?_⟩
  rw [heap_grow_old _ _ (by simpa [putRow, mapBlock, Sort.ahead] using hk)]
  have : g ≠ k := fun e => hne (by rw [e])
  simp [putRow, mapBlock, Sort.ahead, Array.getElem?_modify, this]

theorem sortI_any {w : World} {L : List Lb} {n : Nat} (hn : L.length = n) (hn4 : n ≤ 4096) (Bx g : Nat) (A : Option Addr) (cap : Nat) (hBx : Bx ≠ g) (hBl : Bx < w.heap.size) (hv : Rows 3 ELb w (.slice A n cap) L) (hA : ∀ b off, A = some ⟨b, off, none⟩ → 0 < n → b ≠ g) (hb : w.cell? ⟨Bx, 0, none⟩ = some (.slice A n cap))
    (hg : Blk w g ((List.range n).map fun (j : Nat) => (j : Int))) :
    Calls Try.prog 50 #[.slice (some ⟨g, 0, none⟩) n n, .func (.func 51) #[] #[.pointer (some ⟨Bx, 0, none⟩)]] w fun e w' => e = .returned (.tuple #[]) ∧
      (∃ ord : List Nat, ord.Perm (List.range n) ∧ ord.Pairwise (fun i j => (L.getD i (0, 0, 0)).1 ≤ (L.getD j (0, 0, 0)).1) ∧ Rows 1 EInt w' (.slice (some ⟨g, 0, none⟩) n n) (ord.map fun (j : Nat) => (j : Int))) ∧ w.grownBy w' (some g) := by
  by_cases h0 : n = 0
  · subst h0
    refine (AnyF.slices_SortFunc_none { Try.laysSortI with } (some ⟨g, 0, none⟩) 0 (.func (.func 51) #[] #[.pointer (some ⟨Bx, 0, none⟩)]) w).mono ?_
    rintro e w' ⟨rfl, rfl⟩
    exact ⟨rfl, ⟨[], List.Perm.refl _, List.Pairwise.nil, Rows.empty _ _ _⟩, World.grownBy.refl w' _⟩
  · have hpos : 0 < n := by omega
    letI : Inhabited (Fin n) := ⟨⟨0, hpos⟩⟩
    have hsz : (Array.ofFn (fun i : Fin n => i)).size = n := by simp
    have hH : Holds (encF n) w g 0 (Array.ofFn (fun i : Fin n => i)) := fun j hj => by
      rw [hsz] at hj
      refine ⟨?_, hg.frozen _⟩
      rw [Nat.zero_add, hg.cell (j := j) (x := (j : Int)) (by rw [List.getElem?_map, List.getElem?_range hj]; rfl)]
      rw [getElem!_pos _ j (by rw [hsz]; exact hj), Array.getElem_ofFn]
      rfl
    have hcmp : CmpReads Try.prog 51 #[.pointer (some ⟨Bx, 0, none⟩)] (encF n) (cfI L n) g 0 (Array.ofFn (fun i : Fin n => i)).size w := fun m os dk hs x y => by
      have hgr := grown_sort1 (w := w) (g := g) (m := m) (os := os) (encF n) dk
      obtain ⟨b, off, hAe, hbl, hc⟩ := at_lb hv (by omega)
      have hne := hA b off hAe hpos
      refine closure_any hn Bx A cap ?_ ?_ x y
      · subst hAe
        refine ⟨_, cap, by rw [hn], by obtain ⟨_, _, e, hcc, _⟩ := hv; cases e; exact hcc, fun _ => ⟨b, off, rfl, Nat.lt_of_lt_of_le hbl hgr.size, fun j u hu => ⟨lbV u, rfl, rfl, fun i v hv' => ?_⟩⟩⟩
        obtain ⟨c0, c1, c2⟩ := hc j u hu
        have hk : ∀ o, (sortWorld (encF n) w g 0 m dk os).cell? ⟨b, o, none⟩ = w.cell? ⟨b, o, none⟩ := fun o => World.cell?_of_block (hgr.block b hbl (fun e => hne (by cases e; rfl)))
        match i, hv' with
        | 0, hv' => cases hv'; exact (hk _).trans c0
        | 1, hv' => cases hv'; exact (hk _).trans c1
        | 2, hv' => cases hv'; exact (hk _).trans c2
      · exact (World.cell?_of_block (a := ⟨Bx, 0, none⟩) (hgr.block Bx hBl (fun e => hBx (by cases e; rfl)))).trans hb
    have hcon := Any.slices_SortFunc Try.laysSortI (encF n) (fun _ => rfl) (cfI L n) (swoI L n) 51 #[.pointer (some ⟨Bx, 0, none⟩)] g 0 n (Array.ofFn (fun i : Fin n => i)) w
      (enters_of Try.func51 (by kernel_rfl) rfl) hcmp.lays hH hg.lt (by rw [hsz]; omega)
    rw [hsz] at hcon
    refine hcon.mono ?_
    rintro e w' ⟨rfl, d', m, os, ⟨hs, _, hp⟩, hsrt, rfl⟩
    have hds : d'.size = n := by rw [hs, hsz]
    have hgr := grown_sort1 (w := w) (g := g) (m := m) (os := os) (encF n) d'
    have hHd := holds_sortWorld (encF n) w g 0 m _ d' os hg.lt hH (by rw [hds, hsz])
    have hp' : d'.toList.Perm (Array.ofFn (fun i : Fin n => i)).toList := by
      have e1 : (d'.extract 0 n).toList = d'.toList := by
        have := Array.extract_size (xs := d')
        rw [hds] at this
        rw [this]
      have e2 : ((Array.ofFn (fun i : Fin n => i)).extract 0 n).toList = (Array.ofFn (fun i : Fin n => i)).toList := by
        have : (Array.ofFn (fun i : Fin n => i)).extract 0 n = Array.ofFn (fun i : Fin n => i) := by
          have := Array.extract_size (xs := Array.ofFn (fun i : Fin n => i))
          rw [hsz] at this
          exact this
        rw [this]
      rw [e1, e2] at hp
      exact hp
    refine ⟨rfl, ⟨d'.toList.map (·.1), ?_, ?_, ?_⟩, hgr⟩
    · have := hp'.map (fun x : Fin n => x.1)
      refine this.trans (List.Perm.of_eq ?_)
      apply List.ext_getElem
      · simp
      · intro i h1 h2
        simp
    · rw [List.pairwise_map, List.pairwise_iff_getElem]
      intro i j hi hj hij
      have hi' : i < d'.size := by simpa using hi
      have hj' : j < d'.size := by simpa using hj
      have := hsrt i j (Nat.zero_le _) hij (by omega)
      rw [getElem!_pos d' i hi', getElem!_pos d' j hj', ltI] at this
      simp only [decide_eq_false_iff_not, Int.not_lt] at this
      simp only [Array.getElem_toList]
      exact this
    · have hlen : ((d'.toList.map (·.1)).map fun (j : Nat) => (j : Int)).length = n := by simp [hds]
      refine ⟨_, n, by rw [hlen], by rw [hlen]; exact Nat.le_refl _, fun _ => ⟨g, 0, rfl, Nat.lt_of_lt_of_le hg.lt hgr.size, fun j x hx => ⟨[.int .i64 x], rfl, rfl, fun i u hu => ?_⟩⟩⟩
      match i, hu with
      | 0, hu =>
        cases hu
        have hj : j < d'.size := by
          have := (List.getElem?_eq_some_iff.1 hx).1
          rw [hlen] at this
          omega
        have hcl := (hHd j hj).1
        rw [getElem!_pos d' j hj] at hcl
        rw [List.map_map, List.getElem?_map, List.getElem?_eq_getElem (by simpa using hj)] at hx
        have hx := Option.some.inj hx
        rw [← hx]
        simpa [encF] using hcl
end Go.Proofs.Ytjialelklnjcfaa
