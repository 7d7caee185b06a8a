/-
  MATHEMATICS for package tokens, first part: blocks of 64 numbers; the greatest number; counts.
-/
import Derived.Test.YteennnhinfnahaaDoorProg
namespace Go.Proofs.YteennnhinfnahaaDoor
set_option linter.unusedVariables false
set_option linter.unusedSimpArgs false

/-- Block i of the numbers. -/
def blkT (ns : List Nat) (i : Nat) : List Nat := (ns.drop (64 * i)).take 64
/-- How many blocks n numbers have. -/
def nbT (n : Nat) : Nat := (n + 63) / 64
theorem blkT_len (ns : List Nat) (i : Nat) : (blkT ns i).length = min 64 (ns.length - 64 * i) := by simp [blkT]
theorem blkT_le (ns : List Nat) (i : Nat) : (blkT ns i).length ≤ 64 := by rw [blkT_len]; omega
theorem blkT_pos {ns : List Nat} {i : Nat} (h : i < nbT ns.length) : 1 ≤ (blkT ns i).length := by
  unfold nbT at h
  rw [blkT_len]
  omega
theorem blkT_mem {ns : List Nat} {i x : Nat} (h : x ∈ blkT ns i) : x ∈ ns := List.mem_of_mem_drop (List.mem_of_mem_take h)
theorem blkT_from (ns : List Nat) (a : Nat) : ∀ k, ((List.range k).flatMap fun i => blkT ns (a + i)) = (ns.drop (64 * a)).take (64 * k)
  | 0 => by simp
  | k + 1 => by
    rw [List.range_succ, List.flatMap_append, blkT_from ns a k, List.flatMap_cons, List.flatMap_nil, List.append_nil]
    unfold blkT
    rw [show 64 * (a + k) = 64 * a + 64 * k by omega, ← List.drop_drop, show 64 * (k + 1) = 64 * k + 64 by omega, List.take_add]
theorem blkT_flat (ns : List Nat) : (List.range (nbT ns.length)).flatMap (blkT ns) = ns := by
  have h := blkT_from ns 0 (nbT ns.length)
  simp only [Nat.zero_add, Nat.mul_zero, List.drop_zero] at h
  rw [h]
  refine List.take_of_length_le ?_
  unfold nbT
  omega
theorem blkT_get {ns : List Nat} (i : Nat) : (blkT ns (i / 64))[i % 64]? = ns[i]? := by
  unfold blkT
  rw [List.getElem?_take, if_pos (by omega), List.getElem?_drop]
  congr 1
  omega
/-- 1 more than the greatest number. -/
def topT (ns : List Nat) : Nat := ns.foldl (fun m n => max m (n + 1)) 0
theorem topT_snoc (ns : List Nat) (x : Nat) : topT (ns ++ [x]) = max (topT ns) (x + 1) := by simp [topT, List.foldl_append]
theorem topT_step {ns : List Nat} {k x : Nat} (h : ns[k]? = some x) : topT (ns.take (k + 1)) = max (topT (ns.take k)) (x + 1) := by
  rw [List.take_add_one, h]; exact topT_snoc _ _
theorem topT_fold (ns : List Nat) : ∀ m, m ≤ ns.foldl (fun m n => max m (n + 1)) m ∧ (∀ x ∈ ns, x < ns.foldl (fun m n => max m (n + 1)) m) ∧ ∀ b, m ≤ b → (∀ x ∈ ns, x < b) → ns.foldl (fun m n => max m (n + 1)) m ≤ b := by
  induction ns with
  | nil => intro m; exact ⟨Nat.le_refl _, fun x h => by simp at h, fun b h _ => h⟩
  | cons y l ih =>
    intro m
    obtain ⟨h1, h2, h3⟩ := ih (max m (y + 1))
    refine ⟨by rw [List.foldl_cons]; omega, fun x hx => ?_, fun b hb hx => ?_⟩
    · rw [List.foldl_cons]
      rcases List.mem_cons.1 hx with rfl | hx
      · omega
      · exact h2 x hx
    · rw [List.foldl_cons]
      have := hx y (List.mem_cons_self ..)
      exact h3 b (by omega) fun x h => hx x (List.mem_cons_of_mem _ h)
theorem topT_lt {ns : List Nat} {x : Nat} (h : x ∈ ns) : x < topT ns := (topT_fold ns 0).2.1 x h
theorem topT_le {ns : List Nat} {b : Nat} (h : ∀ x ∈ ns, x < b) : topT ns ≤ b := (topT_fold ns 0).2.2 b (Nat.zero_le _) h
/-- How often each of m numbers occurs. -/
def cntT (m : Nat) (ns : List Nat) : List Int := (List.range m).map fun j => ((ns.count j : Nat) : Int)
theorem cntT_len (m : Nat) (ns : List Nat) : (cntT m ns).length = m := by simp [cntT]
theorem cntT_at (ns : List Nat) {m j : Nat} (h : j < m) : (cntT m ns)[j]? = some ((ns.count j : Nat) : Int) := by
  unfold cntT
  rw [List.getElem?_map, List.getElem?_range h]; rfl
theorem cntT_nil (m : Nat) : cntT m [] = List.replicate m 0 := by
  refine List.ext_getElem? fun j => ?_
  rcases Nat.lt_or_ge j m with h | h
  · rw [cntT_at [] h, List.getElem?_replicate, if_pos h]; simp
  · rw [List.getElem?_eq_none (by rw [cntT_len]; exact h), List.getElem?_eq_none (by rw [List.length_replicate]; exact h)]
theorem cntT_snoc (ns : List Nat) {m s : Nat} (h : s < m) : (cntT m ns).set s (((ns.count s : Nat) : Int) + 1) = cntT m (ns ++ [s]) := by
  refine List.ext_getElem? fun j => ?_
  rw [List.getElem?_set, cntT_len]
  rcases Nat.lt_or_ge j m with hj | hj
  · rw [cntT_at _ hj, cntT_at _ hj, List.count_append]
    by_cases e : s = j
    · subst e
      rw [if_pos rfl, if_pos h]
      simp
    · rw [if_neg e, List.count_eq_zero_of_not_mem (l := [s]) (by simpa using fun h => e h.symm)]; simp
  · rw [if_neg (by omega), List.getElem?_eq_none (by rw [cntT_len]; exact hj), List.getElem?_eq_none (by rw [cntT_len]; exact hj)]
theorem cntT_step {ns : List Nat} {m k s : Nat} (h : ns[k]? = some s) (hs : s < m) : (cntT m (ns.take k)).set s ((((ns.take k).count s : Nat) : Int) + 1) = cntT m (ns.take (k + 1)) := by
  rw [cntT_snoc _ hs, List.take_add_one, h]; rfl
/-- May these numbers have a stream? -/
def badT (c : Int) : Bool := decide (c < 0 ∨ 1024 ≤ c)
def chkT (cs : List Int) : Int := if 4096 < cs.length then 2 else if cs.any badT then 8 else 0
def okT (ns : List Nat) : Prop := ns.length ≤ 4096 ∧ ∀ n ∈ ns, n < 1024
theorem chkT_ok {cs : List Int} (h : chkT cs = 0) : (cs.map Int.toNat).map (fun (j : Nat) => (j : Int)) = cs ∧ okT (cs.map Int.toNat) := by
  unfold chkT at h
  by_cases c1 : 4096 < cs.length
  · rw [if_pos c1] at h; omega
  · rw [if_neg c1] at h
    by_cases c2 : cs.any badT = true
    · rw [if_pos c2] at h; omega
    · have hb : ∀ c ∈ cs, 0 ≤ c ∧ c < 1024 := fun c hc => by
        have h3 : cs.any badT = false := by simpa using c2
        have := List.any_eq_false.1 h3 c hc
        unfold badT at this
        simp at this
        omega
      refine ⟨?_, by rw [List.length_map]; omega, fun n hn => ?_⟩
      · rw [List.map_map]
        conv => rhs; rw [← List.map_id cs]
        refine List.map_congr_left fun c hc => ?_
        have := hb c hc
        simp only [Function.comp, id]
        omega
      · obtain ⟨c, hc, rfl⟩ := List.mem_map.1 hn
        have := hb c hc
        omega
theorem okT.part {ns : List Nat} (h : okT ns) (i : Nat) : ∀ x ∈ blkT ns i, x < 1024 := fun x hx => h.2 x (blkT_mem hx)
end Go.Proofs.YteennnhinfnahaaDoor
