/-
  PLAIN MATHEMATICS of package huffman: items by their numbers stand for trees; the present symbols.
-/
import Derived.Test.YtbfnkmibbieijaaHuF
namespace Go.Proofs.Ytbfnkmibbieijaa
open Go.RowKit Go.Shelf Go.Lib Go.Sort
set_option linter.unusedVariables false
set_option linter.unusedSimpArgs false

/-- The present symbols. -/
def preS : List Int → Nat → List Nat
  | [], _ => []
  | c :: l, s => if 0 < c then s :: preS l (s + 1) else preS l (s + 1)
def cN (cs : List Int) (s : Nat) : Nat := (cs.getD s 0).toNat
theorem preS_ge : ∀ (l : List Int) (s x : Nat), x ∈ preS l s → s ≤ x ∧ ∃ c, l[x - s]? = some c ∧ 0 < c
  | [], s, x, h => by simp [preS] at h
  | c :: l, s, x, h => by
    unfold preS at h
    have hrec : x ∈ preS l (s + 1) → s ≤ x ∧ ∃ c', (c :: l)[x - s]? = some c' ∧ 0 < c' := fun h => by
      obtain ⟨h1, c', h2, h3⟩ := preS_ge l (s + 1) x h
      refine ⟨by omega, c', ?_, h3⟩
      rw [show x - s = (x - (s + 1)) + 1 by omega, List.getElem?_cons_succ]; exact h2
    by_cases hc : 0 < c
    · rw [if_pos hc] at h
      rcases List.mem_cons.1 h with rfl | h
      · exact ⟨Nat.le_refl _, c, by simp, hc⟩
      · exact hrec h
    · rw [if_neg hc] at h; exact hrec h
theorem preS_mem : ∀ (l : List Int) (s j : Nat) (c : Int), l[j]? = some c → 0 < c → s + j ∈ preS l s
  | [], s, j, c, h, _ => by simp at h
  | a :: l, s, 0, c, h, hc => by
    have : a = c := by simpa using h
    subst this
    unfold preS
    rw [if_pos hc]; simp
  | a :: l, s, j + 1, c, h, hc => by
    have := preS_mem l (s + 1) j c (by simpa using h) hc
    rw [show s + (j + 1) = s + 1 + j by omega]
    unfold preS
    split
    · exact List.mem_cons_of_mem _ this
    · exact this
theorem preS_nodup : ∀ (l : List Int) (s : Nat), (preS l s).Nodup
  | [], _ => List.Pairwise.nil
  | c :: l, s => by
    unfold preS
    split
    · rw [List.nodup_cons]
      exact ⟨fun h => by have := (preS_ge l (s + 1) s h).1; omega, preS_nodup l (s + 1)⟩
    · exact preS_nodup l (s + 1)
theorem preS_len : ∀ (l : List Int) (s : Nat), (preS l s).length = presN l
  | [], _ => rfl
  | c :: l, s => by
    unfold preS presN
    rw [List.countP_cons]
    by_cases h : 0 < c
    · rw [if_pos h, if_pos (by simpa using h), List.length_cons, preS_len l (s + 1)]; rfl
    · rw [if_neg h, if_neg (by simpa using h), preS_len l (s + 1)]; rfl
theorem pre_iff {cs : List Int} {s : Nat} : s ∈ preS cs 0 ↔ 0 < cN cs s := by
  unfold cN
  constructor
  · intro h
    obtain ⟨_, c, h1, h2⟩ := preS_ge cs 0 s h
    rw [Nat.sub_zero] at h1
    rw [List.getD_eq_getElem?_getD, h1, Option.getD_some]
    omega
  · intro h
    rw [List.getD_eq_getElem?_getD] at h
    cases e : cs[s]? with
    | none => rw [e] at h; simp at h
    | some c =>
      rw [e, Option.getD_some] at h
      have := preS_mem cs 0 s c e (by omega)
      rwa [Nat.zero_add] at this
/-- The leaves, by the symbols. -/
theorem lf_pre : ∀ (l : List Int) (s : Nat), lfIt l s = (preS l s).map fun x => ((((l.getD (x - s) 0).toNat : Nat) : Int), (x : Int), -1)
  | [], _ => rfl
  | c :: l, s => by
    have e : (preS l (s + 1)).map (fun x => (((((c :: l).getD (x - s) 0).toNat : Nat) : Int), (x : Int), (-1 : Int))) = (preS l (s + 1)).map fun x => ((((l.getD (x - (s + 1)) 0).toNat : Nat) : Int), (x : Int), -1) := by
      apply List.map_congr_left
      intro x hx
      have h1 := (preS_ge l (s + 1) x hx).1
      rw [show x - s = (x - (s + 1)) + 1 by omega]
      simp
    unfold lfIt preS
    by_cases h : 0 < c
    · rw [if_pos h, if_pos h, List.map_cons, e, lf_pre l (s + 1)]
      simp only [Nat.sub_self, List.getD_cons_zero]
      rw [show ((c.toNat : Nat) : Int) = c by omega]
    · rw [if_neg h, if_neg h, e, lf_pre l (s + 1)]
/-- Item n of a forest stands for a tree. -/
inductive RepI (c : Nat → Nat) (its : List It) : Nat → PT → Prop where
  | leaf {n s : Nat} : its[n]? = some (((c s : Nat) : Int), (s : Int), -1) → RepI c its n (.leaf s)
  | node {n a b : Nat} {ta tb : PT} : its[n]? = some (((ta.wt c + tb.wt c : Nat) : Int), (a : Int), (b : Int)) → RepI c its a ta → RepI c its b tb → RepI c its n (.node ta tb)
theorem RepI.wt {c : Nat → Nat} {its : List It} {n : Nat} {t : PT} (h : RepI c its n t) : wI its n = ((t.wt c : Nat) : Int) ∧ n < its.length := by
  cases h with
  | leaf h => exact ⟨wI_at h, (List.getElem?_eq_some_iff.1 h).1⟩
  | node h _ _ => exact ⟨wI_at h, (List.getElem?_eq_some_iff.1 h).1⟩
theorem RepI.app {c : Nat → Nat} {its : List It} {n : Nat} {t : PT} (h : RepI c its n t) (ys : List It) : RepI c (its ++ ys) n t := by
  induction h with
  | leaf h => exact .leaf (by rw [List.getElem?_append_left (List.getElem?_eq_some_iff.1 h).1]; exact h)
  | node h _ _ iha ihb => exact .node (by rw [List.getElem?_append_left (List.getElem?_eq_some_iff.1 h).1]; exact h) iha ihb
/-- A list of items stands for a list of trees. -/
def RepL (c : Nat → Nat) (its : List It) (ns : List Nat) (ts : List PT) : Prop := ∃ ps : List (Nat × PT), ns = ps.map (·.1) ∧ ts = ps.map (·.2) ∧ ∀ p ∈ ps, RepI c its p.1 p.2
theorem RepL.nil (c : Nat → Nat) (its : List It) : RepL c its [] [] := ⟨[], rfl, rfl, by simp⟩
theorem RepL.len {c : Nat → Nat} {its : List It} {ns : List Nat} {ts : List PT} (h : RepL c its ns ts) : ns.length = ts.length := by
  obtain ⟨ps, rfl, rfl, _⟩ := h
  simp
theorem RepL.mem {c : Nat → Nat} {its : List It} {ns : List Nat} {ts : List PT} (h : RepL c its ns ts) : ∀ n ∈ ns, ∃ t ∈ ts, RepI c its n t := by
  obtain ⟨ps, rfl, rfl, h⟩ := h
  intro n hn
  obtain ⟨p, hp, rfl⟩ := List.mem_map.1 hn
  exact ⟨p.2, List.mem_map.2 ⟨p, hp, rfl⟩, h p hp⟩
theorem RepL.app {c : Nat → Nat} {its : List It} {ns : List Nat} {ts : List PT} (h : RepL c its ns ts) (ys : List It) : RepL c (its ++ ys) ns ts := by
  obtain ⟨ps, h1, h2, h3⟩ := h
  exact ⟨ps, h1, h2, fun p hp => (h3 p hp).app ys⟩
theorem RepL.join {c : Nat → Nat} {its : List It} {ns ms : List Nat} {ts us : List PT} (h : RepL c its ns ts) (k : RepL c its ms us) : RepL c its (ns ++ ms) (ts ++ us) := by
  obtain ⟨ps, rfl, rfl, h3⟩ := h
  obtain ⟨qs, rfl, rfl, k3⟩ := k
  refine ⟨ps ++ qs, by simp, by simp, fun p hp => ?_⟩
  rcases List.mem_append.1 hp with hp | hp
  · exact h3 p hp
  · exact k3 p hp
theorem insA_congr {α : Type} {w v : α → Nat} {x : α} : ∀ {l : List α}, w x = v x → (∀ y ∈ l, w y = v y) → insA w x l = insA v x l
  | [], _, _ => rfl
  | y :: l, hx, h => by
    unfold insA
    rw [hx, h y (by simp), insA_congr hx fun z hz => h z (by simp [hz])]
theorem foldIns_congr {α : Type} {w v : α → Nat} : ∀ {l acc : List α}, (∀ y ∈ l, w y = v y) → (∀ y ∈ acc, w y = v y) → l.foldl (fun a x => insA w x a) acc = l.foldl (fun a x => insA v x a) acc
  | [], _, _, _ => rfl
  | x :: l, acc, h, k => by
    rw [List.foldl_cons, List.foldl_cons, insA_congr (h x (by simp)) k]
    refine foldIns_congr (fun y hy => h y (by simp [hy])) fun y hy => ?_
    rcases List.mem_cons.1 ((insA_perm v x acc).mem_iff.1 hy) with rfl | hy
    · exact h y (by simp)
    · exact k y hy
theorem sortA_congr {α : Type} {w v : α → Nat} {l : List α} (h : ∀ y ∈ l, w y = v y) : sortA w l = sortA v l := foldIns_congr h (by simp)
theorem RepL.sort {c : Nat → Nat} {its : List It} {ns : List Nat} {ts : List PT} (h : RepL c its ns ts) : RepL c its (sortA (fun x => (wI its x).toNat) ns) (sortA (PT.wt c) ts) := by
  obtain ⟨ps, rfl, rfl, h3⟩ := h
  refine ⟨sortA (fun p => p.2.wt c) ps, ?_, ?_, fun p hp => h3 p ((sortA_perm _ ps).mem_iff.1 hp)⟩
  · rw [sortA_congr (v := fun p : Nat × PT => (wI its p.1).toNat) fun p hp => by rw [(h3 p hp).wt.1]; simp]
    exact (sortA_map (fun p : Nat × PT => p.1) (fun p => (wI its p.1).toNat) (fun x => (wI its x).toNat) (fun _ => rfl) ps).symm
  · exact (sortA_map (fun p : Nat × PT => p.2) (fun p => p.2.wt c) (PT.wt c) (fun _ => rfl) ps).symm
/-- Packages. -/
def pkP : Nat → List (Nat × PT) → List (Nat × PT)
  | m, p :: q :: l => (m, .node p.2 q.2) :: pkP (m + 1) l
  | _, _ => []
theorem pkP_snd : ∀ (ps : List (Nat × PT)) (m : Nat), (pkP m ps).map (·.2) = pairs (ps.map (·.2))
  | [], m => by simp [pkP, pairs]
  | [p], m => by simp [pkP, pairs]
  | p :: q :: l, m => by simp only [pkP, pairs, List.map_cons, pkP_snd l (m + 1)]
theorem pkP_fst : ∀ (ps : List (Nat × PT)) (m : Nat), (pkP m ps).map (·.1) = (List.range (ps.length / 2)).map (m + ·)
  | [], m => by simp [pkP]
  | [p], m => by simp [pkP]
  | p :: q :: l, m => by
    simp only [pkP, List.map_cons, pkP_fst l (m + 1), List.length_cons]
    rw [show (l.length + 1 + 1) / 2 = l.length / 2 + 1 by omega, List.range_succ_eq_map, List.map_cons, List.map_map]
    congr 1
    apply List.map_congr_left
    intro x _
    simp only [Function.comp]
    omega
theorem pkP_rep (c : Nat → Nat) (its : List It) : ∀ (ps : List (Nat × PT)) (m : Nat) (its' : List It), (∀ p ∈ ps, RepI c its p.1 p.2) → (∀ p ∈ ps, RepI c its' p.1 p.2) → (∀ (j : Nat) (x : It), (pkIt its (ps.map (·.1)))[j]? = some x → its'[m + j]? = some x) → ∀ p ∈ pkP m ps, RepI c its' p.1 p.2
  | [], m, its', _, _, _, p, hp => by simp [pkP] at hp
  | [q], m, its', _, _, _, p, hp => by simp [pkP] at hp
  | q :: r :: l, m, its', h, h', hx, p, hp => by
    simp only [pkP] at hp
    rcases List.mem_cons.1 hp with rfl | hp
    · refine .node (a := q.1) (b := r.1) ?_ (h' q (by simp)) (h' r (by simp))
      have := hx 0 (wI its q.1 + wI its r.1, (q.1 : Int), (r.1 : Int)) (by simp [pkIt])
      rw [(h q (by simp)).wt.1, (h r (by simp)).wt.1] at this
      rw [Nat.add_zero] at this
      rw [this]; simp
    · refine pkP_rep c its l (m + 1) its' (fun z hz => h z (by simp [hz])) (fun z hz => h' z (by simp [hz])) (fun j x hj => ?_) p hp
      have := hx (j + 1) x (by simpa [pkIt] using hj)
      rw [← this]; congr 1; omega
theorem RepL.pack {c : Nat → Nat} {its : List It} {ns : List Nat} {ts : List PT} (h : RepL c its ns ts) : RepL c (its ++ pkIt its ns) ((List.range (ns.length / 2)).map (its.length + ·)) (pairs ts) := by
  obtain ⟨ps, rfl, rfl, h3⟩ := h
  refine ⟨pkP its.length ps, ?_, (pkP_snd ps _).symm, pkP_rep c its ps _ _ h3 (fun p hp => (h3 p hp).app _) fun j x hx => ?_⟩
  · rw [pkP_fst, List.length_map]
  · rw [List.getElem?_append_right (by omega), Nat.add_sub_cancel_left]; exact hx
/-- The leaves in front of a forest. -/
def LfAt (c : Nat → Nat) (its : List It) (S : List Nat) : Prop := ∀ (j s : Nat), S[j]? = some s → its[j]? = some (((c s : Nat) : Int), (s : Int), -1)
theorem LfAt.app {c : Nat → Nat} {its : List It} {S : List Nat} (h : LfAt c its S) (ys : List It) : LfAt c (its ++ ys) S := fun j s hj => by
  have := h j s hj
  rw [List.getElem?_append_left (List.getElem?_eq_some_iff.1 this).1]; exact this
theorem LfAt.rep {c : Nat → Nat} {its : List It} {S : List Nat} (h : LfAt c its S) : RepL c its (List.range S.length) (leavesP S) := by
  refine ⟨(List.range S.length).map fun j => (j, .leaf (S.getD j 0)), ?_, ?_, fun p hp => ?_⟩
  · rw [List.map_map]; exact (List.map_id _).symm
  · rw [List.map_map]
    unfold leavesP
    conv => lhs; rw [← range_getD S]
    rw [List.map_map]; rfl
  · obtain ⟨j, hj, rfl⟩ := List.mem_map.1 hp
    rw [List.mem_range] at hj
    have e : S[j]? = some (S.getD j 0) := by rw [List.getD_eq_getElem?_getD, List.getElem?_eq_getElem hj]; rfl
    exact .leaf (h j _ e)
theorem lf_at (cs : List Int) : LfAt (cN cs) (lfIt cs 0) (preS cs 0) := fun j s hj => by
  rw [lf_pre, List.getElem?_map, hj]
  rfl
theorem lf_len (cs : List Int) : (lfIt cs 0).length = (preS cs 0).length := by rw [lf_pre, List.length_map]
/-- One round of lastList. -/
theorem RepL.round {c : Nat → Nat} {its : List It} {ns : List Nat} {S : List Nat} {i : Nat} (hl : LfAt c its S) (h : RepL c its ns (lev c (leavesP S) i)) :
    RepL c (its ++ pkIt its ns) (sortA (fun x => (wI (its ++ pkIt its ns) x).toNat) (List.range S.length ++ (List.range (ns.length / 2)).map (its.length + ·))) (lev c (leavesP S) (i + 1)) :=
  ((hl.app _).rep.join h.pack).sort
theorem lev_wt {c : Nat → Nat} {M : Nat} {S : List Nat} (hM : ∀ s ∈ S, c s ≤ M) : ∀ i, ∀ t ∈ lev c (leavesP S) i, t.wt c ≤ M * 2 ^ i
  | 0, t, h => by simp [lev] at h
  | i + 1, t, h => by
    have h1 := (lev_perm c (leavesP S) i).mem_iff.1 h
    rw [Nat.pow_succ, ← Nat.mul_assoc]
    rcases List.mem_append.1 h1 with h1 | h1
    · obtain ⟨s, hs, rfl⟩ := List.mem_map.1 h1
      have := hM s hs
      have h2 : 1 ≤ 2 ^ i := Nat.one_le_two_pow
      have h3 : M * 1 ≤ M * 2 ^ i := Nat.mul_le_mul_left _ h2
      show c s ≤ _
      omega
    · have key : ∀ l : List PT, (∀ t ∈ l, t.wt c ≤ M * 2 ^ i) → ∀ t ∈ pairs l, t.wt c ≤ M * 2 ^ i * 2 := by
        intro l
        induction l using pairs.induct with
        | case1 x y m ih =>
          intro h t ht
          rcases List.mem_cons.1 ht with rfl | ht
          · have := h x (by simp)
            have := h y (by simp)
            simp only [PT.wt]; omega
          · exact ih (fun z hz => h z (by simp [hz])) t ht
        | case2 m hm =>
          intro _ t ht
          unfold pairs at ht
          split at ht
          · exact absurd rfl (hm _ _ _)
          · simp at ht
      exact key _ (lev_wt hM i) t h1
theorem lev_len (c : Nat → Nat) (S : List Nat) : ∀ i, (lev c (leavesP S) i).length ≤ 2 * S.length
  | 0 => by simp [lev]
  | i + 1 => by
    have := lev_len c S i
    have e : (leavesP S).length = S.length := by simp [leavesP]
    rw [(lev_perm c _ i).length_eq, List.length_append, pairs_len]
    omega
end Go.Proofs.Ytbfnkmibbieijaa
