/-
  WALKS over package corpus: Validate: its parts.
-/
import Derived.Test.YtmjmidgfdjcbfaaGreatDoorQhA
import Derived.Test.YtmjmidgfdjcbfaaGreatDoorQcZ
import Derived.Test.YtmjmidgfdjcbfaaGreatDoorQdD
import Derived.Test.YtmjmidgfdjcbfaaGreatDoorQdF
import Derived.Test.YtmjmidgfdjcbfaaGreatDoorQgZ
namespace Go.Proofs.YtmjmidgfdjcbfaaGreatDoor
open Go.RowKit Go.Shelf Go.Lib
set_option linter.unusedVariables false

/-- All lists and strings of a corpus are far from the machine's ends. -/
structure Fits (c : Cor) : Prop where
  a : c.attrs.length ≤ 1000000
  a2 : ∀ x ∈ c.attrs, x.1.length ≤ maxLen
  t : c.toks.length ≤ 1000000
  t2 : ∀ x ∈ c.toks, x.length ≤ maxLen ∧ ∀ v ∈ x, v.length ≤ maxLen
  x : c.texts.length ≤ 1000000
  x2 : ∀ y ∈ c.texts, y.name.length ≤ maxLen ∧ y.ps.length ≤ maxLen ∧ ∀ q ∈ y.ps, q.1.length ≤ maxLen ∧ q.2.length ≤ maxLen
  r : c.regs.length ≤ 1000000
  r2 : ∀ y ∈ c.regs, y.name.length ≤ maxLen ∧ y.ps.length ≤ maxLen ∧ ∀ q ∈ y.ps, q.1.length ≤ maxLen ∧ q.2.length ≤ maxLen
  n : c.nodes.length ≤ 1000000
  n2 : ∀ y ∈ c.nodes, y.label.length ≤ maxLen
  h : c.heads.length ≤ maxLen
  l : c.rels.length ≤ maxLen
  l2 : ∀ y ∈ c.rels, y.length ≤ maxLen
theorem le_max {n : Nat} (h : n ≤ 1000000) : n ≤ maxLen := by unfold maxLen; omega
/-- The validator ahead of part k. -/
def JV (w0 : World) (B : Nat) (s : Sv) (k : Nat) (W : World) : Prop := Below B w0 W ∧ ∃ o p y, VAt W B s o p y ∧ (k ≤ 3 → o = .slice none 0 0) ∧ (k ≤ 4 → p = .slice none 0 0)
theorem JV.mono {w0 W : World} {B k k' : Nat} {s : Sv} (h : JV w0 B s k W) (hk : k ≤ k') : JV w0 B s k' W := by
  obtain ⟨hb, o, p, y, h1, h2, h3⟩ := h
  exact ⟨hb, o, p, y, h1, fun e => h2 (by omega), fun e => h3 (by omega)⟩
theorem JV.below {w0 W W' : World} {B k : Nat} {s : Sv} (h : JV w0 B s k W) (hb : Below W.heap.size W W') : JV w0 B s k W' := by
  obtain ⟨h0, o, p, y, h1, h2, h3⟩ := h
  exact ⟨h0.trans (hb.mono (Nat.le_of_lt h1.lt)), o, p, y, h1.below hb, h2, h3⟩
theorem JV.size {w0 W : World} {B k : Nat} {s : Sv} (h : JV w0 B s k W) : B ≤ W.heap.size := by
  obtain ⟨_, o, p, y, h1, _⟩ := h
  exact Nat.le_of_lt h1.lt
/-- What the check of part k answers. -/
def PartV (w0 : World) (B : Nat) (s : Sv) (k : Nat) (P : Nat × Nat) (W : World) (r : Ending) (w' : World) : Prop :=
  r = .returned (.tuple #[.int .i64 (P.1 : Int), .int .i64 (P.2 : Int)]) ∧ Below B W w' ∧ KeepP W w' ∧ (P.2 = 0 → JV w0 B s (k + 1) w')
def partAgg (num n : Nat) (gw ge : FuncId) (B : Nat) : Value := .agg #[.int .i64 (num : Int), .int .i64 (n : Int), .func (.func gw) #[.pointer (some ⟨B, 0, none⟩)] #[], .func (.func ge) #[.pointer (some ⟨B, 0, none⟩)] #[]]

theorem openAll_len (l : List Ex) : ∀ i, (openAll (l.take i)).length ≤ i
  | 0 => by simp [openAll]
  | i + 1 => by
    have ih := openAll_len l i
    rw [List.take_add_one]
    cases l[i]? with
    | none => simp only [Option.toList_none, List.append_nil]; omega
    | some x =>
      simp only [Option.toList_some]
      rw [openAll_snoc]
      unfold openR
      have := List.length_filter_le (fun y : Ex => decide (x.b < y.e)) (openAll (l.take i))
      rw [List.length_append, List.length_singleton]
      omega
section
variable {w0 : World} {B : Nat} {s : Sv} {c : Cor} (hC : CorAt w0 s c) (hB : w0.heap.size ≤ B) (hF : Fits c)
include hC hB
theorem cor_at {W : World} (h : Below B w0 W) : CorAt W s c := hC.below (h.mono hB)
include hF

theorem part0 (W : World) (h0 : JV w0 B s 0 W) :
    Calls Tryz.prog 8 #[partAgg 1 c.attrs.length 19 20 B] W (PartV w0 B s 0 (partE (attrsE c) (attrE c) c.attrs.length) W) := by
  refine (check_any 1 c.attrs.length (le_max hF.a) _ _ _ (enters_of Tryz.func19 (by kernel_rfl) rfl) (enters_of Tryz.func20 (by kernel_rfl) rfl) (attrsE c) (attrE c) (JV w0 B s 0) (fun _ => JV w0 B s 0) B (fun W W' hb h => h.below hb) (fun W h => h.size) ?_ ?_ W h0).mono fun r w' h => ⟨h.1, h.2.1, h.2.2.1, fun e => (h.2.2.2 e).mono (by omega)⟩
  · intro W hJ
    have hJ2 := hJ
    obtain ⟨hb, o, p, y, hv, _⟩ := hJ2
    refine (vAttributes hv (cor_at hC hB hb) (by have := hF.a; unfold maxLen; omega)).mono fun r w' h => ?_
    obtain ⟨h1, rfl⟩ := h
    exact ⟨h1, Below.refl _ _, KeepP.refl _, fun _ => hJ⟩
  · intro k W hk _ hJ
    have hJ2 := hJ
    obtain ⟨hb, o, p, y, hv, _⟩ := hJ2
    refine (vAttribute hv (cor_at hC hB hb) (by have := hF.a; unfold maxLen; omega) hF.a2 k hk).mono fun r w' h => ?_
    exact ⟨h.1, h.2.mono (Nat.le_of_lt hv.lt), keep_below h.2, fun _ => hJ.below h.2⟩
theorem part1 (W : World) (h0 : JV w0 B s 1 W) :
    Calls Tryz.prog 8 #[partAgg 2 c.toks.length 21 22 B] W (PartV w0 B s 1 (partE (toksE c) (tokE c) c.toks.length) W) := by
  refine (check_any 2 c.toks.length (le_max hF.t) _ _ _ (enters_of Tryz.func21 (by kernel_rfl) rfl) (enters_of Tryz.func22 (by kernel_rfl) rfl) (toksE c) (tokE c) (JV w0 B s 1) (fun _ => JV w0 B s 1) B (fun W W' hb h => h.below hb) (fun W h => h.size) ?_ ?_ W h0).mono fun r w' h => ⟨h.1, h.2.1, h.2.2.1, fun e => (h.2.2.2 e).mono (by omega)⟩
  · intro W hJ
    have hJ2 := hJ
    obtain ⟨hb, o, p, y, hv, _⟩ := hJ2
    refine (vTokens hv (cor_at hC hB hb)).mono fun r w' h => ?_
    obtain ⟨h1, rfl⟩ := h
    exact ⟨h1, Below.refl _ _, KeepP.refl _, fun _ => hJ⟩
  · intro k W hk _ hJ
    have hJ2 := hJ
    obtain ⟨hb, o, p, y, hv, _⟩ := hJ2
    refine (vToken hv (cor_at hC hB hb) (by have := hF.a; unfold maxLen; omega) (by have := hF.t; unfold maxLen; omega) k hk hF.t2).mono fun r w' h => ?_
    exact ⟨h.1, h.2.mono (Nat.le_of_lt hv.lt), keep_below h.2, fun _ => hJ.below h.2⟩
theorem part2 (W : World) (h0 : JV w0 B s 2 W) :
    Calls Tryz.prog 8 #[partAgg 3 c.texts.length 23 24 B] W (PartV w0 B s 2 (partE (textsE c) (textE c) c.texts.length) W) := by
  refine (check_any 3 c.texts.length (le_max hF.x) _ _ _ (enters_of Tryz.func23 (by kernel_rfl) rfl) (enters_of Tryz.func24 (by kernel_rfl) rfl) (textsE c) (textE c) (JV w0 B s 2) (fun _ => JV w0 B s 2) B (fun W W' hb h => h.below hb) (fun W h => h.size) ?_ ?_ W h0).mono fun r w' h => ⟨h.1, h.2.1, h.2.2.1, fun e => (h.2.2.2 e).mono (by omega)⟩
  · intro W hJ
    have hJ2 := hJ
    obtain ⟨hb, o, p, y, hv, _⟩ := hJ2
    refine (vTexts hv (cor_at hC hB hb) (by have := hF.t; unfold maxLen; omega) (by have := hF.x; unfold maxLen; omega)).mono fun r w' h => ?_
    exact ⟨h.1, h.2.mono (Nat.le_of_lt hv.lt), keep_below h.2, fun _ => hJ.below h.2⟩
  · intro k W hk _ hJ
    have hJ2 := hJ
    obtain ⟨hb, o, p, y, hv, _⟩ := hJ2
    refine (vText hv (cor_at hC hB hb) (by have := hF.t; unfold maxLen; omega) (by have := hF.x; unfold maxLen; omega) k hk hF.x2).mono fun r w' h => ?_
    exact ⟨h.1, h.2.mono (Nat.le_of_lt hv.lt), keep_below h.2, fun _ => hJ.below h.2⟩
theorem part3 (hT : ∀ i, i < c.texts.length → textE c i = 0) (W : World) (h0 : JV w0 B s 3 W) :
    Calls Tryz.prog 8 #[partAgg 4 c.regs.length 25 26 B] W (PartV w0 B s 3 (partE (regsE c) (regE c) c.regs.length) W) := by
  refine (check_any 4 c.regs.length (le_max hF.r) _ _ _ (enters_of Tryz.func25 (by kernel_rfl) rfl) (enters_of Tryz.func26 (by kernel_rfl) rfl) (regsE c) (regE c) (JV w0 B s 3) (fun i W => Below B w0 W ∧ ∃ o y, VAt W B s o (.slice none 0 0) y ∧ OpenAt W (B + 1) o (openAll (c.regs.take i))) B (fun W W' hb h => h.below hb) (fun W h => h.size) ?_ ?_ W h0).mono fun r w' h => ⟨h.1, h.2.1, h.2.2.1, fun e => ?_⟩
  · intro W hJ
    have hJ' := hJ
    obtain ⟨hb, o, p, y, hv, ho, hp⟩ := hJ
    obtain rfl := ho (Nat.le_refl _)
    obtain rfl := hp (by omega)
    refine (vRegions hv (cor_at hC hB hb)).mono fun r w' h => ?_
    obtain ⟨h1, rfl⟩ := h
    exact ⟨h1, Below.refl _ _, KeepP.refl _, fun _ => ⟨hb, _, y, hv, [], rfl, World.ownsRow_nil _ _ _ _⟩⟩
  · intro k W hk hpr hJ
    obtain ⟨hb, o, y, hv, hop⟩ := hJ
    refine (vRegion hv (cor_at hC hB hb) (by have := hF.x; unfold maxLen; omega) hT k hk hF.r hF.r2 hpr hop (openAll_len c.regs k)).mono fun r w' h => ?_
    refine ⟨h.1, h.2.1, h.2.2.1, fun e => ?_⟩
    obtain ⟨ov', h1, h2⟩ := h.2.2.2 e
    exact ⟨hb.trans h.2.1, ov', y, h1, h2⟩
  · obtain ⟨hb, o, y, hv, _⟩ := h.2.2.2 e
    exact ⟨hb, o, _, y, hv, fun h => by omega, fun _ => rfl⟩
theorem part4 (hT : ∀ i, i < c.texts.length → textE c i = 0) (W : World) (h0 : JV w0 B s 4 W) :
    Calls Tryz.prog 8 #[partAgg 5 c.nodes.length 27 28 B] W (PartV w0 B s 4 (partE (nodesE c) (nodeE c) c.nodes.length) W) := by
  refine (check_any 5 c.nodes.length (le_max hF.n) _ _ _ (enters_of Tryz.func27 (by kernel_rfl) rfl) (enters_of Tryz.func28 (by kernel_rfl) rfl) (nodesE c) (nodeE c) (JV w0 B s 4) (fun i W => Below B w0 W ∧ ∃ o p y, VAt W B s o p y ∧ W.ownsRow (B + 1) 3 1 p (pathAt c.nodes i).length ((pathAt c.nodes i).flatMap encI)) B (fun W W' hb h => h.below hb) (fun W h => h.size) ?_ ?_ W h0).mono fun r w' h => ⟨h.1, h.2.1, h.2.2.1, fun e => ?_⟩
  · intro W hJ
    obtain ⟨hb, o, p, y, hv, ho, hp⟩ := hJ
    obtain rfl := hp (Nat.le_refl _)
    refine (vNodes hv (cor_at hC hB hb)).mono fun r w' h => ?_
    obtain ⟨h1, rfl⟩ := h
    exact ⟨h1, Below.refl _ _, KeepP.refl _, fun _ => ⟨hb, o, _, y, hv, World.ownsRow_nil _ _ _ _⟩⟩
  · intro k W hk hpr hJ
    obtain ⟨hb, o, p, y, hv, hop⟩ := hJ
    refine (vNode hv (cor_at hC hB hb) (by have := hF.x; unfold maxLen; omega) hT k hk hF.n hF.n2 hop).mono fun r w' h => ?_
    refine ⟨h.1, h.2.1, h.2.2.1, fun e => ?_⟩
    obtain ⟨pv', h1, h2⟩ := h.2.2.2 e
    exact ⟨hb.trans h.2.1, o, pv', y, h1, h2⟩
  · obtain ⟨hb, o, p, y, hv, _⟩ := h.2.2.2 e
    exact ⟨hb, o, _, y, hv, fun h => by omega, fun h => by omega⟩
theorem part5 (W : World) (h0 : JV w0 B s 5 W) :
    Calls Tryz.prog 8 #[partAgg 6 c.heads.length 29 30 B] W (PartV w0 B s 5 (partE (headsE c) (headE c) c.heads.length) W) := by
  by_cases hn2 : c.rels.length = c.heads.length ∧ (c.heads.length = 0 ∨ c.heads.length = c.toks.length)
  · obtain ⟨hne, h6⟩ := hn2
    have hF6 : c.heads.length ≤ 1000000 := by have := hF.t; omega
    refine (check_any 6 c.heads.length hF.h _ _ _ (enters_of Tryz.func29 (by kernel_rfl) rfl) (enters_of Tryz.func30 (by kernel_rfl) rfl) (headsE c) (headE c) (JV w0 B s 5) (fun i W => Below B w0 W ∧ ∃ o p y, VAt W B s o p y ∧ CycAt W (B + 1) y (cycL c.heads)) B (fun W W' hb h => h.below hb) (fun W h => h.size) ?_ ?_ W h0).mono fun r w' h => ⟨h.1, h.2.1, h.2.2.1, fun e => ?_⟩
    · intro W hJ
      obtain ⟨hb, o, p, y, hv, ho, hp⟩ := hJ
      refine (vHeads hv (cor_at hC hB hb) hF.h hF.l hF.t).mono fun r w' h => ?_
      refine ⟨h.1, h.2.1, h.2.2.1, fun e => ?_⟩
      obtain ⟨yv, h1, h2⟩ := h.2.2.2 e
      exact ⟨hb.trans h.2.1, o, p, yv, h1, h2⟩
    · intro k W hk hpr hJ
      obtain ⟨hb, o, p, y, hv, hcy⟩ := hJ
      refine (vHead hv (cor_at hC hB hb) (by have := hF.x; unfold maxLen; omega) hF6 hne hF.l2 k hk (B + 1) hcy).mono fun r w' h => ?_
      exact ⟨h.1, h.2.mono (Nat.le_of_lt hv.lt), keep_below h.2, fun _ => ⟨hb.trans (h.2.mono (Nat.le_of_lt hv.lt)), o, p, y, hv.below h.2, hcy.below h.2⟩⟩
    · obtain ⟨hb, o, p, y, hv, _⟩ := h.2.2.2 e
      exact ⟨hb, o, _, y, hv, fun h => by omega, fun h => by omega⟩
  · -- the lists' lengths differ: no element is looked at
    have h15 : headsE c = 15 := by
      unfold headsE
      by_cases e : c.heads.length ≠ c.rels.length
      · rw [if_pos e]
      · rw [if_neg e, if_pos ⟨fun e0 => hn2 ⟨by omega, .inl e0⟩, fun e0 => hn2 ⟨by omega, .inr e0⟩⟩]
    refine (check_any 6 c.heads.length hF.h _ _ _ (enters_of Tryz.func29 (by kernel_rfl) rfl) (enters_of Tryz.func30 (by kernel_rfl) rfl) (headsE c) (headE c) (JV w0 B s 5) (fun _ _ => False) B (fun W W' hb h => h.below hb) (fun W h => h.size) ?_ (fun _ _ _ _ h => h.elim) W h0).mono fun r w' h => ⟨h.1, h.2.1, h.2.2.1, fun e => (h.2.2.2 e).elim⟩
    intro W hJ
    obtain ⟨hb, o, p, y, hv, ho, hp⟩ := hJ
    refine (vHeads hv (cor_at hC hB hb) hF.h hF.l hF.t).mono fun r w' h => ?_
    exact ⟨h.1, h.2.1, h.2.2.1, fun e => by rw [h15] at e; cases e⟩
end
end Go.Proofs.YtmjmidgfdjcbfaaGreatDoor
