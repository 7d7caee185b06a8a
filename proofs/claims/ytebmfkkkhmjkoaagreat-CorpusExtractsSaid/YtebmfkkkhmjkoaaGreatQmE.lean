/-
 MATHEMATICS of valid corpora: the numbers in them are small; regions and nodes ascend by their begins.
 MATHEMATICS of valid corpora: what document asks of them.
 WALKS over package corpus: Extract.
 WALKS over the laws of package corpus: awake.
-/
import Derived.Test.YtebmfkkkhmjkoaaGreatQaZ
import Derived.Test.YtebmfkkkhmjkoaaGreatQdY
import Derived.Test.YtebmfkkkhmjkoaaGreatQeE
import Derived.Test.YtebmfkkkhmjkoaaGreatQhC
import Derived.Test.YtebmfkkkhmjkoaaGreatQeG
namespace Go.Proofs.YtebmfkkkhmjkoaaGreat
open Go.RowKit Go.Shelf Go.Lib

theorem within_range {c : Cor} (h2 : ∀ i, i < c.texts.length → textE c i = 0) {b e : Int} (h : within c b e = true) : 0 ≤ b ∧ b < e ∧ e ≤ c.toks.length := by
 unfold within at h
 obtain ⟨t, ht, hq⟩ := List.any_eq_true.1 h
 simp only [Bool.and_eq_true, decide_eq_true_eq] at hq
 obtain ⟨i, hi, rfl⟩ := List.getElem_of_mem ht
 have hx := List.getElem?_eq_getElem hi
 have h3 := begin_pos h2 hx
 have h4 := (text_facts h2 hx).2.2.2.2.1
 omega
theorem aboveN_spec (path : List Int) (p : Int) : (aboveN path p = 0) ∨ ∃ k, path[k]? = some p ∧ aboveN path p = k + 1 := by
 unfold aboveN
 cases h : path.findIdx? (fun k => decide (k = p)) with
 | none => exact .inl rfl
 | some i =>
   obtain ⟨hi, hp, _⟩ := List.findIdx?_eq_some_iff_getElem.1 h
   refine .inr ⟨i, ?_, rfl⟩
   rw [List.getElem?_eq_getElem hi]
   simpa using hp
theorem node_facts {c : Cor} {i : Nat} {x : Nd} (hi : c.nodes[i]? = some x) (h : nodeE c i = 0) : within c x.b x.e = true ∧ nodeP c.nodes (pathAt c.nodes i) x = 0 := by
 unfold nodeE at h
 rw [hi] at h
 simp only at h
 by_cases h1 : nameB x.label = false
 · rw [if_pos h1] at h; cases h
 rw [if_neg h1] at h
 by_cases h2 : within c x.b x.e = false
 · rw [if_pos h2] at h; cases h
 rw [if_neg h2] at h
 exact ⟨by simpa using h2, h⟩
theorem nodeP_facts {l : List Nd} {path : List Int} {x : Nd} (h : nodeP l path x = 0) :
 (aboveN path x.parent = 0 → x.parent = -1) ∧ (0 < aboveN path x.parent → (ndAt l x.parent).b ≤ x.b ∧ x.e ≤ (ndAt l x.parent).e) ∧ (aboveN path x.parent < path.length → (ndAt l (path.getD (aboveN path x.parent) 0)).e ≤ x.b) := by
 unfold nodeP at h
 by_cases h1 : aboveN path x.parent = 0 ∧ x.parent ≠ -1
 · rw [if_pos h1] at h; cases h
 rw [if_neg h1] at h
 by_cases h2 : 0 < aboveN path x.parent ∧ ¬ ((ndAt l x.parent).b ≤ x.b ∧ x.e ≤ (ndAt l x.parent).e)
 · rw [if_pos h2] at h; cases h
 rw [if_neg h2] at h
 by_cases h3 : aboveN path x.parent < path.length ∧ x.b < (ndAt l (path.getD (aboveN path x.parent) 0)).e
 · rw [if_pos h3] at h; cases h
 refine ⟨fun h4 => ?_, fun h4 => ?_, fun h4 => ?_⟩
 · by_cases e : x.parent = -1
   · exact e
   exact absurd ⟨h4, e⟩ h1
 · by_cases e : (ndAt l x.parent).b ≤ x.b ∧ x.e ≤ (ndAt l x.parent).e
   · exact e
   exact absurd ⟨h4, e⟩ h2
 by_cases e : x.b < (ndAt l (path.getD (aboveN path x.parent) 0)).e
 · exact absurd ⟨h4, e⟩ h3
 omega
/-- Each node on the way holds the next one. -/
def Nest (l : List Nd) (path : List Int) : Prop := ∀ (j : Nat) (a b : Int), path[j]? = some a → path[j + 1]? = some b → (ndAt l b).e ≤ (ndAt l a).e
theorem nest_chain {l : List Nd} {path : List Int} (h : Nest l path) : ∀ (d j : Nat) (a b : Int), path[j]? = some a → path[j + d]? = some b → (ndAt l b).e ≤ (ndAt l a).e
 | 0, j, a, b, h1, h2 => by
   rw [Nat.add_zero, h1] at h2
   cases h2
   exact Int.le_refl _
 | d + 1, j, a, b, h1, h2 => by
   have hl := (List.getElem?_eq_some_iff.1 h2).1
   obtain ⟨m, hm⟩ : ∃ m, path[j + d]? = some m := ⟨_, List.getElem?_eq_getElem (by omega)⟩
   have h3 := nest_chain h d j a m h1 hm
   have h4 := h (j + d) m b hm h2
   omega
theorem ndAt_nat {l : List Nd} {i : Nat} {x : Nd} (h : l[i]? = some x) : ndAt l (i : Int) = x := by
 unfold ndAt
 rw [Int.toNat_natCast, List.getD_eq_getElem?_getD, h]
 rfl
theorem nest_path {c : Cor} (hv : ∀ i, i < c.nodes.length → nodeE c i = 0) : ∀ i, i ≤ c.nodes.length → Nest c.nodes (pathAt c.nodes i)
 | 0, _ => fun j a b h => by simp [pathAt] at h
 | i + 1, hi => by
   have ih := nest_path hv i (by omega)
   obtain ⟨x, hx⟩ : ∃ x, c.nodes[i]? = some x := ⟨_, List.getElem?_eq_getElem (by omega)⟩
   obtain ⟨-, hp⟩ := node_facts hx (hv i (by omega))
   obtain ⟨-, f2, -⟩ := nodeP_facts hp
   rw [pathAt, hx]
   simp only
   obtain ⟨P, hP⟩ : ∃ P, pathAt c.nodes i = P := ⟨_, rfl⟩
   rw [hP] at ih f2 ⊢
   rcases aboveN_spec P x.parent with h0 | ⟨k, hk, hk1⟩
   · rw [h0]
     intro j a b h1 h2
     simp at h2
   have hkl := (List.getElem?_eq_some_iff.1 hk).1
   intro j a b h1 h2
   have hl2 := (List.getElem?_eq_some_iff.1 h2).1
   rw [List.length_append, List.length_take, List.length_singleton, hk1, Nat.min_eq_left (by omega)] at hl2
   rw [hk1] at h1 h2
   by_cases hj : j + 1 < k + 1
   · rw [List.getElem?_append_left (by rw [List.length_take]; omega), List.getElem?_take, if_pos (by omega)] at h1 h2
     exact ih j a b h1 h2
   have hjk : j = k := by omega
   subst hjk
   rw [List.getElem?_append_left (by rw [List.length_take]; omega), List.getElem?_take, if_pos (by omega), hk] at h1
   rw [List.getElem?_append_right (by rw [List.length_take]; omega)] at h2
   have e : j + 1 - (P.take (j + 1)).length = 0 := by rw [List.length_take]; omega
   rw [e] at h2
   simp at h2
   cases h1
   subst h2
   rw [ndAt_nat hx]
   exact (f2 (by omega)).2
/-- Nodes ascend by their begins. -/
theorem nodes_step {c : Cor} (h2 : ∀ i, i < c.texts.length → textE c i = 0) (hv : ∀ i, i < c.nodes.length → nodeE c i = 0) {i : Nat} {x y : Nd} (hx : c.nodes[i]? = some x) (hy : c.nodes[i + 1]? = some y) : x.b ≤ y.b := by
 have hyl := (List.getElem?_eq_some_iff.1 hy).1
 obtain ⟨-, hp⟩ := node_facts hy (hv _ hyl)
 obtain ⟨f1, f2, f3⟩ := nodeP_facts hp
 have hn := nest_path hv (i + 1) (by omega)
 have hw := within_range h2 (node_facts hx (hv i (by omega))).1
 have hpath : pathAt c.nodes (i + 1) = (pathAt c.nodes i).take (aboveN (pathAt c.nodes i) x.parent) ++ [(i : Int)] := by rw [pathAt, hx]
 have hlast : ∃ L, (pathAt c.nodes (i + 1)).length = L + 1 ∧ (pathAt c.nodes (i + 1))[L]? = some (i : Int) := by
  rw [hpath]
  exact ⟨_, by rw [List.length_append, List.length_singleton], by rw [List.getElem?_append_right (Nat.le_refl _)]; simp⟩
 clear hpath
 obtain ⟨P, hP⟩ : ∃ P, pathAt c.nodes (i + 1) = P := ⟨_, rfl⟩
 rw [hP] at f1 f2 f3 hn hlast
 obtain ⟨L, hL, hLi⟩ := hlast
 have hin := ndAt_nat hx
 rcases aboveN_spec P y.parent with h0 | ⟨k, hk, hk1⟩
 ·
  rw [h0] at f3
  have h4 := f3 (by omega)
  obtain ⟨a, ha⟩ : ∃ a, P[0]? = some a := ⟨_, List.getElem?_eq_getElem (by omega)⟩
  have h5 := nest_chain hn L 0 a _ ha (by rw [Nat.zero_add]; exact hLi)
  have h6 : P.getD 0 0 = a := by rw [List.getD_eq_getElem?_getD, ha]; rfl
  rw [h6] at h4
  rw [hin] at h5
  omega
 have hkl := (List.getElem?_eq_some_iff.1 hk).1
 by_cases hkL : k = L
 ·
  subst hkL
  rw [hLi] at hk
  have hk2 : (i : Int) = y.parent := by simpa using hk
  have h4 := f2 (by omega)
  rw [← hk2, hin] at h4
  exact h4.1
 have h4 := f3 (by omega)
 obtain ⟨a, ha⟩ : ∃ a, P[k + 1]? = some a := ⟨_, List.getElem?_eq_getElem (by omega)⟩
 have h5 := nest_chain hn (L - (k + 1)) (k + 1) a _ ha (by rw [show k + 1 + (L - (k + 1)) = L by omega]; exact hLi)
 have h6 : P.getD (aboveN P y.parent) 0 = a := by rw [hk1, List.getD_eq_getElem?_getD, ha]; rfl
 rw [h6] at h4
 rw [hin] at h5
 omega
theorem asc_of_step {α : Type} {f : α → Int} {l : List α} (h : ∀ (i : Nat) (x y : α), l[i]? = some x → l[i + 1]? = some y → f x ≤ f y) : ∀ (d i : Nat) (x y : α), l[i]? = some x → l[i + d]? = some y → f x ≤ f y
 | 0, i, x, y, h1, h2 => by
   rw [Nat.add_zero, h1] at h2
   cases h2
   exact Int.le_refl _
 | d + 1, i, x, y, h1, h2 => by
   have hl := (List.getElem?_eq_some_iff.1 h2).1
   obtain ⟨m, hm⟩ : ∃ m, l[i + d]? = some m := ⟨_, List.getElem?_eq_getElem (by omega)⟩
   have h3 := asc_of_step h d i x m h1 hm
   have h4 := h (i + d) m y hm h2
   omega
theorem nodes_asc {c : Cor} (h : Valid c) (i j : Nat) (x y : Nd) (hij : i < j) (hx : c.nodes[i]? = some x) (hy : c.nodes[j]? = some y) : x.b ≤ y.b :=
 asc_of_step (f := fun z : Nd => z.b) (fun _ _ _ h1 h2 => nodes_step h.text h.node h1 h2) (j - i) i x y hx (by rw [show i + (j - i) = j by omega]; exact hy)
theorem regs_asc {c : Cor} (h : Valid c) (i j : Nat) (x y : Ex) (hij : i < j) (hx : c.regs[i]? = some x) (hy : c.regs[j]? = some y) : x.b ≤ y.b := by
 have hp := sorted_upto (l := c.regs) c.regs.length (Nat.le_refl _) (fun k z hk hz => (reg_facts hz (h.reg k hk)).2.2.2.1)
 rw [List.take_length] at hp
 obtain ⟨hi, rfl⟩ := List.getElem?_eq_some_iff.1 hx
 obtain ⟨hj, rfl⟩ := List.getElem?_eq_some_iff.1 hy
 exact cmpR_b (List.pairwise_iff_getElem.1 hp i j hi hj hij)
theorem pairs_small {l : List (Bs × Bs)} (h : pairsE l = 0) : l.length ≤ 8 := by
 unfold pairsE at h
 by_cases h1 : 8 < l.length
 · rw [if_pos h1] at h; cases h
 omega
end Go.Proofs.YtebmfkkkhmjkoaaGreat
namespace Go.Proofs.YtebmfkkkhmjkoaaGreat
open Go.RowKit Go.Shelf Go.Lib

theorem valid_len {c : Cor} (h : Valid c) : c.attrs.length ≤ 8 ∧ c.toks.length ≤ 4096 ∧ c.texts.length ≤ 64 ∧ c.regs.length ≤ 1024 ∧ c.nodes.length ≤ 2048 := by
 have h1 := h.attrs
 have h2 := h.toks
 have h3 := h.texts
 have h4 := h.regs
 have h5 := h.nodes
 unfold attrsE at h1
 unfold toksE at h2
 unfold textsE at h3
 unfold regsE at h4
 unfold nodesE at h5
 refine ⟨?_, ?_, ?_, ?_, ?_⟩
 ·
  by_cases e : c.attrs.length = 0
  · omega
  rw [if_neg e] at h1
  by_cases e2 : 8 < c.attrs.length
  · rw [if_pos e2] at h1; cases h1
  omega
 · by_cases e : 4096 < c.toks.length
   · rw [if_pos e] at h2; cases h2
   omega
 · by_cases e : 64 < c.texts.length
   · rw [if_pos e] at h3; cases h3
   omega
 · by_cases e : 1024 < c.regs.length
   · rw [if_pos e] at h4; cases h4
   omega
 by_cases e : 2048 < c.nodes.length
 · rw [if_pos e] at h5; cases h5
 omega
theorem valid_tok {c : Cor} (h : Valid c) : ∀ t ∈ c.toks, t.length = c.attrs.length := by
 intro t ht
 obtain ⟨i, hi, rfl⟩ := List.getElem_of_mem ht
 have h1 := h.tok i hi
 unfold tokE at h1
 rw [List.getElem?_eq_getElem hi] at h1
 simp only at h1
 by_cases e : c.toks[i].length ≠ c.attrs.length
 · rw [if_pos e] at h1; cases h1
 omega
theorem valid_heads {c : Cor} (h : Valid c) : c.rels.length = c.heads.length ∧ (c.heads.length = 0 ∨ c.heads.length = c.toks.length) := by
 have h1 := h.heads
 unfold headsE at h1
 by_cases e : c.heads.length ≠ c.rels.length
 · rw [if_pos e] at h1; cases h1
 rw [if_neg e] at h1
 by_cases e2 : c.heads.length ≠ 0 ∧ c.heads.length ≠ c.toks.length
 · rw [if_pos e2] at h1; cases h1
 exact ⟨by omega, by omega⟩
theorem valid_head {c : Cor} (h : Valid c) {i : Nat} {x : Int} (hx : c.heads[i]? = some x) : x = -1 ∨ (0 ≤ x ∧ x < c.toks.length ∧ textAt c x = textAt c i) := by
 have hi := (List.getElem?_eq_some_iff.1 hx).1
 obtain ⟨h1, h2⟩ := valid_heads h
 have h3 := h.head i hi
 unfold headE at h3
 obtain ⟨r, hr⟩ : ∃ r, c.rels[i]? = some r := ⟨_, List.getElem?_eq_getElem (by omega)⟩
 rw [hx, hr] at h3
 simp only at h3
 by_cases e : x ≠ -1 ∧ textAt c x ≠ textAt c i
 · rw [if_pos e] at h3; cases h3
 by_cases e1 : x = -1
 · exact .inl e1
 have e2 : textAt c x = textAt c i := by
  by_cases e3 : textAt c x = textAt c i
  · exact e3
  exact absurd ⟨e1, e3⟩ e
 have h4 := (textAt_tok h.texts h.text (i : Int)).1 ⟨by omega, by omega⟩
 have h5 := (textAt_tok h.texts h.text x).2 (by rw [e2]; exact h4)
 exact .inr ⟨h5.1, h5.2, e2⟩
theorem valid_parent {c : Cor} (h : Valid c) {i : Nat} {x : Nd} (hx : c.nodes[i]? = some x) : -1 ≤ x.parent ∧ x.parent < (i : Int) := by
 have hi := (List.getElem?_eq_some_iff.1 hx).1
 obtain ⟨f1, -, -⟩ := nodeP_facts (node_facts hx (h.node i hi)).2
 rcases aboveN_spec (pathAt c.nodes i) x.parent with h0 | ⟨k, hk, _⟩
 · have := f1 h0
   omega
 have := (pathAt_range c.nodes i).1 _ (List.mem_of_getElem? hk)
 omega
theorem valid_mid {c : Cor} (h : Valid c) : MidC c := by
 obtain ⟨l1, l2, l3, l4, l5⟩ := valid_len h
 obtain ⟨h1, h2⟩ := valid_heads h
 refine ⟨by omega, ⟨by omega, fun t ht => by rw [valid_tok h t ht]; omega⟩, ⟨by omega, fun x hx => ?_⟩, ⟨by omega, fun x hx => ?_⟩, ⟨by omega, fun x hx => ?_⟩, ⟨by omega, fun x hx => ?_⟩, by omega⟩
 ·
  obtain ⟨i, hi, rfl⟩ := List.getElem_of_mem hx
  have hx := List.getElem?_eq_getElem hi
  have f := text_facts h.text hx
  have f1 := begin_pos h.text hx
  have f2 := pairs_small f.2.2.2.2.2.2
  have f3 := f.2.2.2.1
  have f4 := f.2.2.2.2.1
  exact ⟨⟨by omega, by omega⟩, ⟨by omega, by omega⟩, by omega⟩
 ·
  obtain ⟨i, hi, rfl⟩ := List.getElem_of_mem hx
  have f := reg_facts (List.getElem?_eq_getElem hi) (h.reg i hi)
  have f1 := within_range h.text f.2.1
  have f2 := pairs_small f.2.2.1
  exact ⟨⟨by omega, by omega⟩, ⟨by omega, by omega⟩, by omega⟩
 ·
  obtain ⟨i, hi, rfl⟩ := List.getElem_of_mem hx
  have hx := List.getElem?_eq_getElem hi
  have f1 := within_range h.text (node_facts hx (h.node i hi)).1
  have f2 := valid_parent h hx
  exact ⟨⟨by omega, by omega⟩, ⟨by omega, by omega⟩, ⟨by omega, by omega⟩⟩
 obtain ⟨i, hi, rfl⟩ := List.getElem_of_mem hx
 rcases valid_head h (List.getElem?_eq_getElem hi) with e | e
 · exact ⟨by omega, by omega⟩
 exact ⟨by omega, by omega⟩

set_option maxRecDepth 100000 in
set_option maxHeartbeats 2000000 in
theorem validC_any {w : World} (s : Sv) {c : Cor} (hC : CorAt w s c) (hF : Fits c) :
 Calls Tryz.prog 28 #[.agg s.arr] w fun e w' => e = .returned (.bool (validC c)) ∧ Below w.heap.size w w' := by
 have hv := validate_any s (hC.below (below_box w (.cells s.arr 30))) hF
 unfold validC
 obtain ⟨V, hV⟩ : ∃ V, validate c = V := ⟨_, rfl⟩
 rw [hV] at hv ⊢
 obtain ⟨v1, v2, v3⟩ := V
 simp only at hv ⊢
 obtain ⟨A0, k0, h0, -⟩ := hC.a.form
 obtain ⟨A1, k1, h1, -⟩ := hC.t.form
 obtain ⟨A2, k2, h2, -⟩ := hC.x.form
 obtain ⟨A3, k3, h3, -⟩ := hC.r.form
 obtain ⟨A4, k4, h4, -⟩ := hC.n.form
 obtain ⟨A5, k5, h5, -⟩ := hC.h.form
 obtain ⟨A6, k6, h6, -⟩ := hC.l.form
 obtain ⟨va, vt, vx, vr, vn, vh, vl⟩ := s
 simp only at h0 h1 h2 h3 h4 h5 h6
 subst h0 h1 h2 h3 h4 h5 h6
 obtain ⟨n0, e0⟩ : ∃ n, c.attrs.length = n := ⟨_, rfl⟩
 obtain ⟨n1, e1⟩ : ∃ n, c.toks.length = n := ⟨_, rfl⟩
 obtain ⟨n2, e2⟩ : ∃ n, c.texts.length = n := ⟨_, rfl⟩
 obtain ⟨n3, e3⟩ : ∃ n, c.regs.length = n := ⟨_, rfl⟩
 obtain ⟨n4, e4⟩ : ∃ n, c.nodes.length = n := ⟨_, rfl⟩
 obtain ⟨n5, e5⟩ : ∃ n, c.heads.length = n := ⟨_, rfl⟩
 obtain ⟨n6, e6⟩ : ∃ n, c.rels.length = n := ⟨_, rfl⟩
 simp only [e0, e1, e2, e3, e4, e5, e6, Sv.arr] at hv ⊢
 have HV := Lib.hid hv
 clear hv hC hF hV e0 e1 e2 e3 e4 e5 e6
 by_cases hz : v3 = 0
 ·
  subst hz
  go_enter Tryz.func28, Tryz.ntmps28
  go_wp2_with fail
  refine HV.out.mono ?_
  rintro e w2 ⟨rfl, hb2⟩
  have HB := Lib.hid hb2
  clear hb2
  go_wp2_with fail
  go_ret
  exact ⟨rfl, (below_box w _).trans (HB.out.mono (below_box w _).size)⟩
 have hz1 : ((v3 : Int) == 0) = false := by simp; omega
 have hz2 : decide (v3 = 0) = false := by simpa using hz
 rw [hz2]
 clear hz2
 go_enter Tryz.func28, Tryz.ntmps28
 go_wp2_with fail
 refine HV.out.mono ?_
 rintro e w2 ⟨rfl, hb2⟩
 have HB := Lib.hid hb2
 clear hb2
 go_wp2_with fail
 go_ret
 exact ⟨rfl, (below_box w _).trans (HB.out.mono (below_box w _).size)⟩
end Go.Proofs.YtebmfkkkhmjkoaaGreat
namespace Go.Proofs.YtebmfkkkhmjkoaaGreat
open Go.RowKit Go.Shelf Go.Lib
set_option linter.unusedVariables false

theorem ownF_nil {β : Type} (base : Nat) (T : TypeId) (sz : Nat) (E : World → List Value → β → Prop) (w : World) : OwnF base T sz E w (.slice none 0 0) ([] : List β) :=
 ⟨[], rfl, World.ownsRow_nil _ _ _ _, fun j y c h => by simp at h⟩
def Sv.nil : Sv := ⟨.slice none 0 0, .slice none 0 0, .slice none 0 0, .slice none 0 0, .slice none 0 0, .slice none 0 0, .slice none 0 0⟩
theorem corF_none (base : Nat) (w : World) : CorF base w Sv.nil Cor.none := ⟨ownF_nil _ _ _ _ _, ownF_nil _ _ _ _ _, ownF_nil _ _ _ _ _, ownF_nil _ _ _ _ _, ownF_nil _ _ _ _ _, ownF_nil _ _ _ _ _, ownF_nil _ _ _ _ _⟩
theorem full_nil : FullC Sv.nil := ⟨⟨none, 0, rfl⟩, ⟨none, 0, rfl⟩, ⟨none, 0, rfl⟩, ⟨none, 0, rfl⟩, ⟨none, 0, rfl⟩⟩
/-- What Extract answers. -/
def extractC (c : Cor) (i : Int) : Cor × Nat :=
 if validC c = false then (Cor.none, 1) else if i < 0 ∨ (c.texts.length : Int) ≤ i then (Cor.none, 8) else
  match c.texts[i.toNat]? with
  | none => (Cor.none, 8)
  | some t => (docC c t t.b.toNat t.e.toNat, 0)
def ExV (w : World) (r : Cor × Nat) (e : Ending) (w' : World) : Prop :=
 ∃ s' : Sv, e = .returned (.tuple #[.agg s'.arr, .int .i64 (r.2 : Nat)]) ∧ CorF w.heap.size w' s' r.1 ∧ FullC s' ∧ Below w.heap.size w w'
theorem results_two {fn : Func} {p u : Tmp} (h : fn.results = #[.cell p 30, .tmp u]) (tmps : Array Value) (w : World) (g : Nat) (cs : Array Value)
 (hp : tmps.getD p undef = .pointer (some ⟨g, 0, none⟩)) (hg : w.heap[g]? = some (.cells cs 30 (0, 0))) (hs : cs.size = 7) :
 (results fn tmps).run Tryz.prog w = .ok (.tuple #[.agg cs, tmps.getD u undef]) w := by
 have hp' : (asAddr (tmps.getD p undef)).run Tryz.prog w = .ok ⟨g, 0, none⟩ w := by rw [hp]; simp [asAddr]
 have hl := run_loadVar_row (P := Tryz.prog) w g 30 30 cs (0, 0) _ hg Tryz.underlying30 rfl (by rw [hs]; exact Tryz.sizeCor)
 rw [results_cell_tmp h, hp', Result.andThen_ok, hl, Result.andThen_ok]

set_option maxRecDepth 1000000 in
set_option maxHeartbeats 8000000 in
theorem extract_bad {w : World} (s : Sv) {c : Cor} (i : Int) (hC : CorAt w s c) (hF : Fits c) (hv : validC c = false) :
 Calls Tryz.prog 14 #[.agg s.arr, .int .i64 i] w (ExV w (Cor.none, 1)) := by
 obtain ⟨A0, k0, h0, -⟩ := hC.a.form
 obtain ⟨A1, k1, h1, -⟩ := hC.t.form
 obtain ⟨A2, k2, h2, -⟩ := hC.x.form
 obtain ⟨A3, k3, h3, -⟩ := hC.r.form
 obtain ⟨A4, k4, h4, -⟩ := hC.n.form
 obtain ⟨A5, k5, h5, -⟩ := hC.h.form
 obtain ⟨A6, k6, h6, -⟩ := hC.l.form
 obtain ⟨va, vt, vx, vr, vn, vh, vl⟩ := s
 simp only at h0 h1 h2 h3 h4 h5 h6
 subst h0 h1 h2 h3 h4 h5 h6
 obtain ⟨n0, e0⟩ : ∃ n, c.attrs.length = n := ⟨_, rfl⟩
 obtain ⟨n1, e1⟩ : ∃ n, c.toks.length = n := ⟨_, rfl⟩
 obtain ⟨n2, e2⟩ : ∃ n, c.texts.length = n := ⟨_, rfl⟩
 obtain ⟨n3, e3⟩ : ∃ n, c.regs.length = n := ⟨_, rfl⟩
 obtain ⟨n4, e4⟩ : ∃ n, c.nodes.length = n := ⟨_, rfl⟩
 obtain ⟨n5, e5⟩ : ∃ n, c.heads.length = n := ⟨_, rfl⟩
 obtain ⟨n6, e6⟩ : ∃ n, c.rels.length = n := ⟨_, rfl⟩
 simp only [e0, e1, e2, e3, e4, e5, e6, Sv.arr] at hC  ⊢
 obtain ⟨N0, hN0⟩ : ∃ N0, w.heap.size = N0 := ⟨_, rfl⟩
 obtain ⟨X, hX⟩ : ∃ X, (w.alloc (.cells #[.slice A0 n0 k0, .slice A1 n1 k1, .slice A2 n2 k2, .slice A3 n3 k3, .slice A4 n4 k4, .slice A5 n5 k5, .slice A6 n6 k6] 30)).alloc (.cells #[.slice none 0 0, .slice none 0 0, .slice none 0 0, .slice none 0 0, .slice none 0 0, .slice none 0 0, .slice none 0 0] 30) = X := ⟨_, rfl⟩
 have hbX : Below w.heap.size w X := by rw [← hX]; exact (below_box w _).trans ((below_box _ _).mono (by simp))
 have hXs : X.heap.size = N0 + 1 + 1 := by rw [← hX, ← hN0]; simp
 have x1 : X.heap[N0]? = some (.cells #[.slice A0 n0 k0, .slice A1 n1 k1, .slice A2 n2 k2, .slice A3 n3 k3, .slice A4 n4 k4, .slice A5 n5 k5, .slice A6 n6 k6] 30 (0, 0)) := by rw [← hX, ← hN0]; exact block_alloc _ (block_new w _)
 have x2 : X.heap[N0 + 1]? = some (.cells #[.slice none 0 0, .slice none 0 0, .slice none 0 0, .slice none 0 0, .slice none 0 0, .slice none 0 0, .slice none 0 0] 30 (0, 0)) := by
  have := block_new (w.alloc (.cells #[.slice A0 n0 k0, .slice A1 n1 k1, .slice A2 n2 k2, .slice A3 n3 k3, .slice A4 n4 k4, .slice A5 n5 k5, .slice A6 n6 k6] 30)) (.cells #[.slice none 0 0, .slice none 0 0, .slice none 0 0, .slice none 0 0, .slice none 0 0, .slice none 0 0, .slice none 0 0] 30)
  rw [alloc_sz, hN0] at this
  rw [← hX]
  exact this
 have hva := validC_any ⟨.slice A0 n0 k0, .slice A1 n1 k1, .slice A2 n2 k2, .slice A3 n3 k3, .slice A4 n4 k4, .slice A5 n5 k5, .slice A6 n6 k6⟩ (hC.below hbX) hF
 simp only [Sv.arr] at hva
 obtain ⟨vb, hvb⟩ : ∃ b, validC c = b := ⟨_, rfl⟩
 rw [hvb] at hva
 have HVA := Lib.hid hva
 have HX := Lib.hid hX
 have HXS := Lib.hid hXs
 have HN0 := Lib.hid hN0
 have HBX := Lib.hid hbX
 have HX12 := Lib.hid (And.intro x1 x2)
 have HC := Lib.hid hC
 have hvf : vb = false := by rw [← hvb]; exact hv
 subst hvf
 clear hva hX hXs hN0 hbX x1 x2 hC hF hv hvb e0 e1 e2 e3 e4 e5 e6
 go_enter Tryz.func14, Tryz.ntmps14
 go_wp2_with fail
 rw [HX.out, HN0.out]
 refine HVA.out.mono ?_
 rintro e w2 ⟨rfl, hb2⟩
 have HC2 := Lib.hid (HC.out.below (HBX.out.trans (hb2.mono HBX.out.size)))
 have hy2 := block_below HX12.out.2 hb2 (lt_blk HX12.out.2)
 have hy1 := block_below HX12.out.1 hb2 (lt_blk HX12.out.1)
 have HY2 := Lib.hid hy2
 have HB2 := Lib.hid (HBX.out.trans (hb2.mono HBX.out.size))
 have HS2 := Lib.hid hb2.size
 have c0 : w2.cell? ⟨N0, 0, none⟩ = some (.slice A0 n0 k0) := cell_of hy1 rfl
 have c1 : w2.cell? ⟨N0, 1, none⟩ = some (.slice A1 n1 k1) := cell_of hy1 rfl
 have c2 : w2.cell? ⟨N0, 2, none⟩ = some (.slice A2 n2 k2) := cell_of hy1 rfl
 have c3 : w2.cell? ⟨N0, 3, none⟩ = some (.slice A3 n3 k3) := cell_of hy1 rfl
 have c4 : w2.cell? ⟨N0, 4, none⟩ = some (.slice A4 n4 k4) := cell_of hy1 rfl
 have c5 : w2.cell? ⟨N0, 5, none⟩ = some (.slice A5 n5 k5) := cell_of hy1 rfl
 have c6 : w2.cell? ⟨N0, 6, none⟩ = some (.slice A6 n6 k6) := cell_of hy1 rfl
 have o0 : w2.cell? ⟨N0 + 1, 0, none⟩ = some (.slice none 0 0) := cell_of hy2 rfl
 have fo0 : w2.frozen? ⟨N0 + 1, 0, none⟩ = false := frozen_of hy2
 have o1 : w2.cell? ⟨N0 + 1, 1, none⟩ = some (.slice none 0 0) := cell_of hy2 rfl
 have fo1 : w2.frozen? ⟨N0 + 1, 1, none⟩ = false := frozen_of hy2
 have o2 : w2.cell? ⟨N0 + 1, 2, none⟩ = some (.slice none 0 0) := cell_of hy2 rfl
 have fo2 : w2.frozen? ⟨N0 + 1, 2, none⟩ = false := frozen_of hy2
 have o3 : w2.cell? ⟨N0 + 1, 3, none⟩ = some (.slice none 0 0) := cell_of hy2 rfl
 have fo3 : w2.frozen? ⟨N0 + 1, 3, none⟩ = false := frozen_of hy2
 have o4 : w2.cell? ⟨N0 + 1, 4, none⟩ = some (.slice none 0 0) := cell_of hy2 rfl
 have fo4 : w2.frozen? ⟨N0 + 1, 4, none⟩ = false := frozen_of hy2
 have o5 : w2.cell? ⟨N0 + 1, 5, none⟩ = some (.slice none 0 0) := cell_of hy2 rfl
 have fo5 : w2.frozen? ⟨N0 + 1, 5, none⟩ = false := frozen_of hy2
 have o6 : w2.cell? ⟨N0 + 1, 6, none⟩ = some (.slice none 0 0) := cell_of hy2 rfl
 have fo6 : w2.frozen? ⟨N0 + 1, 6, none⟩ = false := frozen_of hy2
 clear hb2 hy1 hy2
 go_wp2_with fail
 have hz : (((((((w2.setCell ⟨N0 + 1, 0, none⟩ (.slice none 0 0)).setCell ⟨N0 + 1, 1, none⟩ (.slice none 0 0)).setCell ⟨N0 + 1, 2, none⟩ (.slice none 0 0)).setCell ⟨N0 + 1, 3, none⟩ (.slice none 0 0)).setCell ⟨N0 + 1, 4, none⟩ (.slice none 0 0)).setCell ⟨N0 + 1, 5, none⟩ (.slice none 0 0)).setCell ⟨N0 + 1, 6, none⟩ (.slice none 0 0)).heap[N0 + 1]? = some (.cells #[.slice none 0 0, .slice none 0 0, .slice none 0 0, .slice none 0 0, .slice none 0 0, .slice none 0 0, .slice none 0 0] 30 (0, 0)) := (set_of (set_of (set_of (set_of (set_of (set_of (set_of HY2.out _) _) _) _) _) _) _)
 have hbl : Below w.heap.size w (((((((w2.setCell ⟨N0 + 1, 0, none⟩ (.slice none 0 0)).setCell ⟨N0 + 1, 1, none⟩ (.slice none 0 0)).setCell ⟨N0 + 1, 2, none⟩ (.slice none 0 0)).setCell ⟨N0 + 1, 3, none⟩ (.slice none 0 0)).setCell ⟨N0 + 1, 4, none⟩ (.slice none 0 0)).setCell ⟨N0 + 1, 5, none⟩ (.slice none 0 0)).setCell ⟨N0 + 1, 6, none⟩ (.slice none 0 0)) := (((((((HB2.out.setCell (by rw [HN0.out]; exact Nat.le_succ _) _).setCell (by rw [HN0.out]; exact Nat.le_succ _) _).setCell (by rw [HN0.out]; exact Nat.le_succ _) _).setCell (by rw [HN0.out]; exact Nat.le_succ _) _).setCell (by rw [HN0.out]; exact Nat.le_succ _) _).setCell (by rw [HN0.out]; exact Nat.le_succ _) _).setCell (by rw [HN0.out]; exact Nat.le_succ _) _)
 exact bodyPost_ret (v := .tuple #[.agg #[.slice none 0 0, .slice none 0 0, .slice none 0 0, .slice none 0 0, .slice none 0 0, .slice none 0 0, .slice none 0 0], .int .i64 (1 : Int)]) (results_two Tryz.results14 _ _ (N0 + 1) _ rfl hz rfl) rfl ⟨Sv.nil, rfl, corF_none _ _, full_nil, hbl⟩

set_option maxRecDepth 1000000 in
set_option maxHeartbeats 8000000 in
theorem extract_range {w : World} (s : Sv) {c : Cor} (i : Int) (hC : CorAt w s c) (hF : Fits c) (hv : validC c = true) (hi : i < 0 ∨ (c.texts.length : Int) ≤ i) :
 Calls Tryz.prog 14 #[.agg s.arr, .int .i64 i] w (ExV w (Cor.none, 8)) := by
 obtain ⟨A0, k0, h0, -⟩ := hC.a.form
 obtain ⟨A1, k1, h1, -⟩ := hC.t.form
 obtain ⟨A2, k2, h2, -⟩ := hC.x.form
 obtain ⟨A3, k3, h3, -⟩ := hC.r.form
 obtain ⟨A4, k4, h4, -⟩ := hC.n.form
 obtain ⟨A5, k5, h5, -⟩ := hC.h.form
 obtain ⟨A6, k6, h6, -⟩ := hC.l.form
 obtain ⟨va, vt, vx, vr, vn, vh, vl⟩ := s
 simp only at h0 h1 h2 h3 h4 h5 h6
 subst h0 h1 h2 h3 h4 h5 h6
 obtain ⟨n0, e0⟩ : ∃ n, c.attrs.length = n := ⟨_, rfl⟩
 obtain ⟨n1, e1⟩ : ∃ n, c.toks.length = n := ⟨_, rfl⟩
 obtain ⟨n2, e2⟩ : ∃ n, c.texts.length = n := ⟨_, rfl⟩
 obtain ⟨n3, e3⟩ : ∃ n, c.regs.length = n := ⟨_, rfl⟩
 obtain ⟨n4, e4⟩ : ∃ n, c.nodes.length = n := ⟨_, rfl⟩
 obtain ⟨n5, e5⟩ : ∃ n, c.heads.length = n := ⟨_, rfl⟩
 obtain ⟨n6, e6⟩ : ∃ n, c.rels.length = n := ⟨_, rfl⟩
 simp only [e0, e1, e2, e3, e4, e5, e6, Sv.arr] at hC hi ⊢
 obtain ⟨N0, hN0⟩ : ∃ N0, w.heap.size = N0 := ⟨_, rfl⟩
 obtain ⟨X, hX⟩ : ∃ X, (w.alloc (.cells #[.slice A0 n0 k0, .slice A1 n1 k1, .slice A2 n2 k2, .slice A3 n3 k3, .slice A4 n4 k4, .slice A5 n5 k5, .slice A6 n6 k6] 30)).alloc (.cells #[.slice none 0 0, .slice none 0 0, .slice none 0 0, .slice none 0 0, .slice none 0 0, .slice none 0 0, .slice none 0 0] 30) = X := ⟨_, rfl⟩
 have hbX : Below w.heap.size w X := by rw [← hX]; exact (below_box w _).trans ((below_box _ _).mono (by simp))
 have hXs : X.heap.size = N0 + 1 + 1 := by rw [← hX, ← hN0]; simp
 have x1 : X.heap[N0]? = some (.cells #[.slice A0 n0 k0, .slice A1 n1 k1, .slice A2 n2 k2, .slice A3 n3 k3, .slice A4 n4 k4, .slice A5 n5 k5, .slice A6 n6 k6] 30 (0, 0)) := by rw [← hX, ← hN0]; exact block_alloc _ (block_new w _)
 have x2 : X.heap[N0 + 1]? = some (.cells #[.slice none 0 0, .slice none 0 0, .slice none 0 0, .slice none 0 0, .slice none 0 0, .slice none 0 0, .slice none 0 0] 30 (0, 0)) := by
  have := block_new (w.alloc (.cells #[.slice A0 n0 k0, .slice A1 n1 k1, .slice A2 n2 k2, .slice A3 n3 k3, .slice A4 n4 k4, .slice A5 n5 k5, .slice A6 n6 k6] 30)) (.cells #[.slice none 0 0, .slice none 0 0, .slice none 0 0, .slice none 0 0, .slice none 0 0, .slice none 0 0, .slice none 0 0] 30)
  rw [alloc_sz, hN0] at this
  rw [← hX]
  exact this
 have hva := validC_any ⟨.slice A0 n0 k0, .slice A1 n1 k1, .slice A2 n2 k2, .slice A3 n3 k3, .slice A4 n4 k4, .slice A5 n5 k5, .slice A6 n6 k6⟩ (hC.below hbX) hF
 simp only [Sv.arr] at hva
 obtain ⟨vb, hvb⟩ : ∃ b, validC c = b := ⟨_, rfl⟩
 rw [hvb] at hva
 have HVA := Lib.hid hva
 have HX := Lib.hid hX
 have HXS := Lib.hid hXs
 have HN0 := Lib.hid hN0
 have HBX := Lib.hid hbX
 have HX12 := Lib.hid (And.intro x1 x2)
 have HC := Lib.hid hC
 have hvf : vb = true := by rw [← hvb]; exact hv
 subst hvf
 clear hva hX hXs hN0 hbX x1 x2 hC hF hv hvb e0 e1 e2 e3 e4 e5 e6
 by_cases h0 : i < 0
 ·
  clear hi
  go_enter Tryz.func14, Tryz.ntmps14
  go_wp2_with fail
  rw [HX.out, HN0.out]
  refine HVA.out.mono ?_
  rintro e w2 ⟨rfl, hb2⟩
  have HC2 := Lib.hid (HC.out.below (HBX.out.trans (hb2.mono HBX.out.size)))
  have hy2 := block_below HX12.out.2 hb2 (lt_blk HX12.out.2)
  have hy1 := block_below HX12.out.1 hb2 (lt_blk HX12.out.1)
  have HY2 := Lib.hid hy2
  have HB2 := Lib.hid (HBX.out.trans (hb2.mono HBX.out.size))
  have HS2 := Lib.hid hb2.size
  have c0 : w2.cell? ⟨N0, 0, none⟩ = some (.slice A0 n0 k0) := cell_of hy1 rfl
  have c1 : w2.cell? ⟨N0, 1, none⟩ = some (.slice A1 n1 k1) := cell_of hy1 rfl
  have c2 : w2.cell? ⟨N0, 2, none⟩ = some (.slice A2 n2 k2) := cell_of hy1 rfl
  have c3 : w2.cell? ⟨N0, 3, none⟩ = some (.slice A3 n3 k3) := cell_of hy1 rfl
  have c4 : w2.cell? ⟨N0, 4, none⟩ = some (.slice A4 n4 k4) := cell_of hy1 rfl
  have c5 : w2.cell? ⟨N0, 5, none⟩ = some (.slice A5 n5 k5) := cell_of hy1 rfl
  have c6 : w2.cell? ⟨N0, 6, none⟩ = some (.slice A6 n6 k6) := cell_of hy1 rfl
  have o0 : w2.cell? ⟨N0 + 1, 0, none⟩ = some (.slice none 0 0) := cell_of hy2 rfl
  have fo0 : w2.frozen? ⟨N0 + 1, 0, none⟩ = false := frozen_of hy2
  have o1 : w2.cell? ⟨N0 + 1, 1, none⟩ = some (.slice none 0 0) := cell_of hy2 rfl
  have fo1 : w2.frozen? ⟨N0 + 1, 1, none⟩ = false := frozen_of hy2
  have o2 : w2.cell? ⟨N0 + 1, 2, none⟩ = some (.slice none 0 0) := cell_of hy2 rfl
  have fo2 : w2.frozen? ⟨N0 + 1, 2, none⟩ = false := frozen_of hy2
  have o3 : w2.cell? ⟨N0 + 1, 3, none⟩ = some (.slice none 0 0) := cell_of hy2 rfl
  have fo3 : w2.frozen? ⟨N0 + 1, 3, none⟩ = false := frozen_of hy2
  have o4 : w2.cell? ⟨N0 + 1, 4, none⟩ = some (.slice none 0 0) := cell_of hy2 rfl
  have fo4 : w2.frozen? ⟨N0 + 1, 4, none⟩ = false := frozen_of hy2
  have o5 : w2.cell? ⟨N0 + 1, 5, none⟩ = some (.slice none 0 0) := cell_of hy2 rfl
  have fo5 : w2.frozen? ⟨N0 + 1, 5, none⟩ = false := frozen_of hy2
  have o6 : w2.cell? ⟨N0 + 1, 6, none⟩ = some (.slice none 0 0) := cell_of hy2 rfl
  have fo6 : w2.frozen? ⟨N0 + 1, 6, none⟩ = false := frozen_of hy2
  clear hb2 hy1 hy2
  go_wp2_with fail
  have hz : (((((((w2.setCell ⟨N0 + 1, 0, none⟩ (.slice none 0 0)).setCell ⟨N0 + 1, 1, none⟩ (.slice none 0 0)).setCell ⟨N0 + 1, 2, none⟩ (.slice none 0 0)).setCell ⟨N0 + 1, 3, none⟩ (.slice none 0 0)).setCell ⟨N0 + 1, 4, none⟩ (.slice none 0 0)).setCell ⟨N0 + 1, 5, none⟩ (.slice none 0 0)).setCell ⟨N0 + 1, 6, none⟩ (.slice none 0 0)).heap[N0 + 1]? = some (.cells #[.slice none 0 0, .slice none 0 0, .slice none 0 0, .slice none 0 0, .slice none 0 0, .slice none 0 0, .slice none 0 0] 30 (0, 0)) := (set_of (set_of (set_of (set_of (set_of (set_of (set_of HY2.out _) _) _) _) _) _) _)
  have hbl : Below w.heap.size w (((((((w2.setCell ⟨N0 + 1, 0, none⟩ (.slice none 0 0)).setCell ⟨N0 + 1, 1, none⟩ (.slice none 0 0)).setCell ⟨N0 + 1, 2, none⟩ (.slice none 0 0)).setCell ⟨N0 + 1, 3, none⟩ (.slice none 0 0)).setCell ⟨N0 + 1, 4, none⟩ (.slice none 0 0)).setCell ⟨N0 + 1, 5, none⟩ (.slice none 0 0)).setCell ⟨N0 + 1, 6, none⟩ (.slice none 0 0)) := (((((((HB2.out.setCell (by rw [HN0.out]; exact Nat.le_succ _) _).setCell (by rw [HN0.out]; exact Nat.le_succ _) _).setCell (by rw [HN0.out]; exact Nat.le_succ _) _).setCell (by rw [HN0.out]; exact Nat.le_succ _) _).setCell (by rw [HN0.out]; exact Nat.le_succ _) _).setCell (by rw [HN0.out]; exact Nat.le_succ _) _).setCell (by rw [HN0.out]; exact Nat.le_succ _) _)
  exact bodyPost_ret (v := .tuple #[.agg #[.slice none 0 0, .slice none 0 0, .slice none 0 0, .slice none 0 0, .slice none 0 0, .slice none 0 0, .slice none 0 0], .int .i64 (8 : Int)]) (results_two Tryz.results14 _ _ (N0 + 1) _ rfl hz rfl) rfl ⟨Sv.nil, rfl, corF_none _ _, full_nil, hbl⟩
 have hi2 : (n2 : Int) ≤ i := by omega
 clear hi
 go_enter Tryz.func14, Tryz.ntmps14
 go_wp2_with fail
 rw [HX.out, HN0.out]
 refine HVA.out.mono ?_
 rintro e w2 ⟨rfl, hb2⟩
 have HC2 := Lib.hid (HC.out.below (HBX.out.trans (hb2.mono HBX.out.size)))
 have hy2 := block_below HX12.out.2 hb2 (lt_blk HX12.out.2)
 have hy1 := block_below HX12.out.1 hb2 (lt_blk HX12.out.1)
 have HY2 := Lib.hid hy2
 have HB2 := Lib.hid (HBX.out.trans (hb2.mono HBX.out.size))
 have HS2 := Lib.hid hb2.size
 have c0 : w2.cell? ⟨N0, 0, none⟩ = some (.slice A0 n0 k0) := cell_of hy1 rfl
 have c1 : w2.cell? ⟨N0, 1, none⟩ = some (.slice A1 n1 k1) := cell_of hy1 rfl
 have c2 : w2.cell? ⟨N0, 2, none⟩ = some (.slice A2 n2 k2) := cell_of hy1 rfl
 have c3 : w2.cell? ⟨N0, 3, none⟩ = some (.slice A3 n3 k3) := cell_of hy1 rfl
 have c4 : w2.cell? ⟨N0, 4, none⟩ = some (.slice A4 n4 k4) := cell_of hy1 rfl
 have c5 : w2.cell? ⟨N0, 5, none⟩ = some (.slice A5 n5 k5) := cell_of hy1 rfl
 have c6 : w2.cell? ⟨N0, 6, none⟩ = some (.slice A6 n6 k6) := cell_of hy1 rfl
 have o0 : w2.cell? ⟨N0 + 1, 0, none⟩ = some (.slice none 0 0) := cell_of hy2 rfl
 have fo0 : w2.frozen? ⟨N0 + 1, 0, none⟩ = false := frozen_of hy2
 have o1 : w2.cell? ⟨N0 + 1, 1, none⟩ = some (.slice none 0 0) := cell_of hy2 rfl
 have fo1 : w2.frozen? ⟨N0 + 1, 1, none⟩ = false := frozen_of hy2
 have o2 : w2.cell? ⟨N0 + 1, 2, none⟩ = some (.slice none 0 0) := cell_of hy2 rfl
 have fo2 : w2.frozen? ⟨N0 + 1, 2, none⟩ = false := frozen_of hy2
 have o3 : w2.cell? ⟨N0 + 1, 3, none⟩ = some (.slice none 0 0) := cell_of hy2 rfl
 have fo3 : w2.frozen? ⟨N0 + 1, 3, none⟩ = false := frozen_of hy2
 have o4 : w2.cell? ⟨N0 + 1, 4, none⟩ = some (.slice none 0 0) := cell_of hy2 rfl
 have fo4 : w2.frozen? ⟨N0 + 1, 4, none⟩ = false := frozen_of hy2
 have o5 : w2.cell? ⟨N0 + 1, 5, none⟩ = some (.slice none 0 0) := cell_of hy2 rfl
 have fo5 : w2.frozen? ⟨N0 + 1, 5, none⟩ = false := frozen_of hy2
 have o6 : w2.cell? ⟨N0 + 1, 6, none⟩ = some (.slice none 0 0) := cell_of hy2 rfl
 have fo6 : w2.frozen? ⟨N0 + 1, 6, none⟩ = false := frozen_of hy2
 clear hb2 hy1 hy2
 go_wp2_with fail
 have hz : (((((((w2.setCell ⟨N0 + 1, 0, none⟩ (.slice none 0 0)).setCell ⟨N0 + 1, 1, none⟩ (.slice none 0 0)).setCell ⟨N0 + 1, 2, none⟩ (.slice none 0 0)).setCell ⟨N0 + 1, 3, none⟩ (.slice none 0 0)).setCell ⟨N0 + 1, 4, none⟩ (.slice none 0 0)).setCell ⟨N0 + 1, 5, none⟩ (.slice none 0 0)).setCell ⟨N0 + 1, 6, none⟩ (.slice none 0 0)).heap[N0 + 1]? = some (.cells #[.slice none 0 0, .slice none 0 0, .slice none 0 0, .slice none 0 0, .slice none 0 0, .slice none 0 0, .slice none 0 0] 30 (0, 0)) := (set_of (set_of (set_of (set_of (set_of (set_of (set_of HY2.out _) _) _) _) _) _) _)
 have hbl : Below w.heap.size w (((((((w2.setCell ⟨N0 + 1, 0, none⟩ (.slice none 0 0)).setCell ⟨N0 + 1, 1, none⟩ (.slice none 0 0)).setCell ⟨N0 + 1, 2, none⟩ (.slice none 0 0)).setCell ⟨N0 + 1, 3, none⟩ (.slice none 0 0)).setCell ⟨N0 + 1, 4, none⟩ (.slice none 0 0)).setCell ⟨N0 + 1, 5, none⟩ (.slice none 0 0)).setCell ⟨N0 + 1, 6, none⟩ (.slice none 0 0)) := (((((((HB2.out.setCell (by rw [HN0.out]; exact Nat.le_succ _) _).setCell (by rw [HN0.out]; exact Nat.le_succ _) _).setCell (by rw [HN0.out]; exact Nat.le_succ _) _).setCell (by rw [HN0.out]; exact Nat.le_succ _) _).setCell (by rw [HN0.out]; exact Nat.le_succ _) _).setCell (by rw [HN0.out]; exact Nat.le_succ _) _).setCell (by rw [HN0.out]; exact Nat.le_succ _) _)
 exact bodyPost_ret (v := .tuple #[.agg #[.slice none 0 0, .slice none 0 0, .slice none 0 0, .slice none 0 0, .slice none 0 0, .slice none 0 0, .slice none 0 0], .int .i64 (8 : Int)]) (results_two Tryz.results14 _ _ (N0 + 1) _ rfl hz rfl) rfl ⟨Sv.nil, rfl, corF_none _ _, full_nil, hbl⟩

set_option maxRecDepth 1000000 in
set_option maxHeartbeats 8000000 in
theorem extract_doc {w : World} (s : Sv) {c : Cor} (i : Int) (hC : CorAt w s c) (hF : Fits c) (hv : validC c = true) (k : Nat) (hk : i = (k : Int)) {t : Ex} (ht : c.texts[k]? = some t) :
 Calls Tryz.prog 14 #[.agg s.arr, .int .i64 i] w (ExV w (docC c t t.b.toNat t.e.toNat, 0)) := by
 subst hk
 have hvv := (valid_iff c).1 hv
 have hf := text_facts hvv.text ht
 have hb0 := begin_pos hvv.text ht
 obtain ⟨hr, hh⟩ := valid_heads hvv
 have hdoc := fun (W : World) (hW : CorAt W s c) => document_any (w := W) s k t.b.toNat t.e.toNat hW (valid_mid hvv) ht (by omega) (by have := hf.2.2.2.1; omega) (by have := hf.2.2.2.1; omega) (by have := hf.2.2.2.2.1; omega) hh hr (regs_asc hvv) (nodes_asc hvv)
 have hkl : k < c.texts.length := (List.getElem?_eq_some_iff.1 ht).1
 obtain ⟨r, hr0⟩ : ∃ r, docC c t t.b.toNat t.e.toNat = r := ⟨_, rfl⟩
 rw [hr0] at hdoc ⊢
 clear hvv hf hb0 hr hh ht hr0
 obtain ⟨A0, k0, h0, -⟩ := hC.a.form
 obtain ⟨A1, k1, h1, -⟩ := hC.t.form
 obtain ⟨A2, k2, h2, -⟩ := hC.x.form
 obtain ⟨A3, k3, h3, -⟩ := hC.r.form
 obtain ⟨A4, k4, h4, -⟩ := hC.n.form
 obtain ⟨A5, k5, h5, -⟩ := hC.h.form
 obtain ⟨A6, k6, h6, -⟩ := hC.l.form
 obtain ⟨va, vt, vx, vr, vn, vh, vl⟩ := s
 simp only at h0 h1 h2 h3 h4 h5 h6
 subst h0 h1 h2 h3 h4 h5 h6
 obtain ⟨n0, e0⟩ : ∃ n, c.attrs.length = n := ⟨_, rfl⟩
 obtain ⟨n1, e1⟩ : ∃ n, c.toks.length = n := ⟨_, rfl⟩
 obtain ⟨n2, e2⟩ : ∃ n, c.texts.length = n := ⟨_, rfl⟩
 obtain ⟨n3, e3⟩ : ∃ n, c.regs.length = n := ⟨_, rfl⟩
 obtain ⟨n4, e4⟩ : ∃ n, c.nodes.length = n := ⟨_, rfl⟩
 obtain ⟨n5, e5⟩ : ∃ n, c.heads.length = n := ⟨_, rfl⟩
 obtain ⟨n6, e6⟩ : ∃ n, c.rels.length = n := ⟨_, rfl⟩
 simp only [e0, e1, e2, e3, e4, e5, e6, Sv.arr] at hC hdoc hkl ⊢
 obtain ⟨N0, hN0⟩ : ∃ N0, w.heap.size = N0 := ⟨_, rfl⟩
 obtain ⟨X, hX⟩ : ∃ X, (w.alloc (.cells #[.slice A0 n0 k0, .slice A1 n1 k1, .slice A2 n2 k2, .slice A3 n3 k3, .slice A4 n4 k4, .slice A5 n5 k5, .slice A6 n6 k6] 30)).alloc (.cells #[.slice none 0 0, .slice none 0 0, .slice none 0 0, .slice none 0 0, .slice none 0 0, .slice none 0 0, .slice none 0 0] 30) = X := ⟨_, rfl⟩
 have hbX : Below w.heap.size w X := by rw [← hX]; exact (below_box w _).trans ((below_box _ _).mono (by simp))
 have hXs : X.heap.size = N0 + 1 + 1 := by rw [← hX, ← hN0]; simp
 have x1 : X.heap[N0]? = some (.cells #[.slice A0 n0 k0, .slice A1 n1 k1, .slice A2 n2 k2, .slice A3 n3 k3, .slice A4 n4 k4, .slice A5 n5 k5, .slice A6 n6 k6] 30 (0, 0)) := by rw [← hX, ← hN0]; exact block_alloc _ (block_new w _)
 have x2 : X.heap[N0 + 1]? = some (.cells #[.slice none 0 0, .slice none 0 0, .slice none 0 0, .slice none 0 0, .slice none 0 0, .slice none 0 0, .slice none 0 0] 30 (0, 0)) := by
  have := block_new (w.alloc (.cells #[.slice A0 n0 k0, .slice A1 n1 k1, .slice A2 n2 k2, .slice A3 n3 k3, .slice A4 n4 k4, .slice A5 n5 k5, .slice A6 n6 k6] 30)) (.cells #[.slice none 0 0, .slice none 0 0, .slice none 0 0, .slice none 0 0, .slice none 0 0, .slice none 0 0, .slice none 0 0] 30)
  rw [alloc_sz, hN0] at this
  rw [← hX]
  exact this
 have hva := validC_any ⟨.slice A0 n0 k0, .slice A1 n1 k1, .slice A2 n2 k2, .slice A3 n3 k3, .slice A4 n4 k4, .slice A5 n5 k5, .slice A6 n6 k6⟩ (hC.below hbX) hF
 simp only [Sv.arr] at hva
 obtain ⟨vb, hvb⟩ : ∃ b, validC c = b := ⟨_, rfl⟩
 rw [hvb] at hva
 have HVA := Lib.hid hva
 have HX := Lib.hid hX
 have HXS := Lib.hid hXs
 have HN0 := Lib.hid hN0
 have HBX := Lib.hid hbX
 have HX12 := Lib.hid (And.intro x1 x2)
 have HC := Lib.hid hC
 have hvf : vb = true := by rw [← hvb]; exact hv
 subst hvf
 have HDOC := Lib.hid hdoc
 have hk1 : ¬ (k : Int) < 0 := by omega
 have hk2 : ¬ (n2 : Int) ≤ (k : Int) := by omega
 clear hva hX hXs hN0 hbX x1 x2 hC hF hv hvb hdoc hkl e0 e1 e2 e3 e4 e5 e6
 go_enter Tryz.func14, Tryz.ntmps14
 go_wp2_with fail
 rw [HX.out, HN0.out]
 refine HVA.out.mono ?_
 rintro e w2 ⟨rfl, hb2⟩
 have HC2 := Lib.hid (HC.out.below (HBX.out.trans (hb2.mono HBX.out.size)))
 have hy2 := block_below HX12.out.2 hb2 (lt_blk HX12.out.2)
 have hy1 := block_below HX12.out.1 hb2 (lt_blk HX12.out.1)
 have HY2 := Lib.hid hy2
 have HB2 := Lib.hid (HBX.out.trans (hb2.mono HBX.out.size))
 have HS2 := Lib.hid hb2.size
 have c0 : w2.cell? ⟨N0, 0, none⟩ = some (.slice A0 n0 k0) := cell_of hy1 rfl
 have c1 : w2.cell? ⟨N0, 1, none⟩ = some (.slice A1 n1 k1) := cell_of hy1 rfl
 have c2 : w2.cell? ⟨N0, 2, none⟩ = some (.slice A2 n2 k2) := cell_of hy1 rfl
 have c3 : w2.cell? ⟨N0, 3, none⟩ = some (.slice A3 n3 k3) := cell_of hy1 rfl
 have c4 : w2.cell? ⟨N0, 4, none⟩ = some (.slice A4 n4 k4) := cell_of hy1 rfl
 have c5 : w2.cell? ⟨N0, 5, none⟩ = some (.slice A5 n5 k5) := cell_of hy1 rfl
 have c6 : w2.cell? ⟨N0, 6, none⟩ = some (.slice A6 n6 k6) := cell_of hy1 rfl
 have o0 : w2.cell? ⟨N0 + 1, 0, none⟩ = some (.slice none 0 0) := cell_of hy2 rfl
 have fo0 : w2.frozen? ⟨N0 + 1, 0, none⟩ = false := frozen_of hy2
 have o1 : w2.cell? ⟨N0 + 1, 1, none⟩ = some (.slice none 0 0) := cell_of hy2 rfl
 have fo1 : w2.frozen? ⟨N0 + 1, 1, none⟩ = false := frozen_of hy2
 have o2 : w2.cell? ⟨N0 + 1, 2, none⟩ = some (.slice none 0 0) := cell_of hy2 rfl
 have fo2 : w2.frozen? ⟨N0 + 1, 2, none⟩ = false := frozen_of hy2
 have o3 : w2.cell? ⟨N0 + 1, 3, none⟩ = some (.slice none 0 0) := cell_of hy2 rfl
 have fo3 : w2.frozen? ⟨N0 + 1, 3, none⟩ = false := frozen_of hy2
 have o4 : w2.cell? ⟨N0 + 1, 4, none⟩ = some (.slice none 0 0) := cell_of hy2 rfl
 have fo4 : w2.frozen? ⟨N0 + 1, 4, none⟩ = false := frozen_of hy2
 have o5 : w2.cell? ⟨N0 + 1, 5, none⟩ = some (.slice none 0 0) := cell_of hy2 rfl
 have fo5 : w2.frozen? ⟨N0 + 1, 5, none⟩ = false := frozen_of hy2
 have o6 : w2.cell? ⟨N0 + 1, 6, none⟩ = some (.slice none 0 0) := cell_of hy2 rfl
 have fo6 : w2.frozen? ⟨N0 + 1, 6, none⟩ = false := frozen_of hy2
 clear hb2 hy1 hy2
 go_wp2_with fail
 refine (HDOC.out w2 HC2.out).mono ?_
 rintro e w11 ⟨s3, he, hF, hfull, hb11⟩
 obtain ⟨B0, j0, f0, -⟩ := hF.at'.a.form
 obtain ⟨B1, j1, f1, -⟩ := hF.at'.t.form
 obtain ⟨B2, j2, f2, -⟩ := hF.at'.x.form
 obtain ⟨B3, j3, f3, -⟩ := hF.at'.r.form
 obtain ⟨B4, j4, f4, -⟩ := hF.at'.n.form
 obtain ⟨B5, j5, f5, -⟩ := hF.at'.h.form
 obtain ⟨B6, j6, f6, -⟩ := hF.at'.l.form
 obtain ⟨v0, v1, v2, v3, v4, v5, v6⟩ := s3
 simp only at f0 f1 f2 f3 f4 f5 f6
 obtain ⟨l0, el0⟩ : ∃ l, r.attrs.length = l := ⟨_, rfl⟩
 obtain ⟨l1, el1⟩ : ∃ l, r.toks.length = l := ⟨_, rfl⟩
 obtain ⟨l2, el2⟩ : ∃ l, r.texts.length = l := ⟨_, rfl⟩
 obtain ⟨l3, el3⟩ : ∃ l, r.regs.length = l := ⟨_, rfl⟩
 obtain ⟨l4, el4⟩ : ∃ l, r.nodes.length = l := ⟨_, rfl⟩
 obtain ⟨l5, el5⟩ : ∃ l, r.heads.length = l := ⟨_, rfl⟩
 obtain ⟨l6, el6⟩ : ∃ l, r.rels.length = l := ⟨_, rfl⟩
 rw [el0] at f0
 rw [el1] at f1
 rw [el2] at f2
 rw [el3] at f3
 rw [el4] at f4
 rw [el5] at f5
 rw [el6] at f6
 subst f0 f1 f2 f3 f4 f5 f6
 have he : e = .returned (.agg #[.slice B0 l0 j0, .slice B1 l1 j1, .slice B2 l2 j2, .slice B3 l3 j3, .slice B4 l4 j4, .slice B5 l5 j5, .slice B6 l6 j6]) := he
 subst he
 have hy11 : w11.heap[N0 + 1]? = some (.cells #[.slice none 0 0, .slice none 0 0, .slice none 0 0, .slice none 0 0, .slice none 0 0, .slice none 0 0, .slice none 0 0] 30 (0, 0)) := block_below HY2.out hb11 (lt_blk HY2.out)
 have HF := Lib.hid hF
 have HFU := Lib.hid hfull
 have HY11 := Lib.hid hy11
 have HB11 := Lib.hid (HB2.out.trans (hb11.mono HB2.out.size))
 have HK2 := Lib.hid (show N0 + 1 + 1 ≤ w2.heap.size by have := HS2.out; have := HXS.out; omega)
 have p0 : w11.cell? ⟨N0 + 1, 0, none⟩ = some (.slice none 0 0) := cell_of hy11 rfl
 have fp0 : w11.frozen? ⟨N0 + 1, 0, none⟩ = false := frozen_of hy11
 have p1 : w11.cell? ⟨N0 + 1, 1, none⟩ = some (.slice none 0 0) := cell_of hy11 rfl
 have fp1 : w11.frozen? ⟨N0 + 1, 1, none⟩ = false := frozen_of hy11
 have p2 : w11.cell? ⟨N0 + 1, 2, none⟩ = some (.slice none 0 0) := cell_of hy11 rfl
 have fp2 : w11.frozen? ⟨N0 + 1, 2, none⟩ = false := frozen_of hy11
 have p3 : w11.cell? ⟨N0 + 1, 3, none⟩ = some (.slice none 0 0) := cell_of hy11 rfl
 have fp3 : w11.frozen? ⟨N0 + 1, 3, none⟩ = false := frozen_of hy11
 have p4 : w11.cell? ⟨N0 + 1, 4, none⟩ = some (.slice none 0 0) := cell_of hy11 rfl
 have fp4 : w11.frozen? ⟨N0 + 1, 4, none⟩ = false := frozen_of hy11
 have p5 : w11.cell? ⟨N0 + 1, 5, none⟩ = some (.slice none 0 0) := cell_of hy11 rfl
 have fp5 : w11.frozen? ⟨N0 + 1, 5, none⟩ = false := frozen_of hy11
 have p6 : w11.cell? ⟨N0 + 1, 6, none⟩ = some (.slice none 0 0) := cell_of hy11 rfl
 have fp6 : w11.frozen? ⟨N0 + 1, 6, none⟩ = false := frozen_of hy11
 clear o0 o1 o2 o3 o4 o5 o6 fo0 fo1 fo2 fo3 fo4 fo5 fo6 c0 c1 c2 c3 c4 c5 c6
 clear hF hfull hb11 hy11 el0 el1 el2 el3 el4 el5 el6
 go_wp2_with fail
 have hz : (((((((w11.setCell ⟨N0 + 1, 0, none⟩ (.slice B0 l0 j0)).setCell ⟨N0 + 1, 1, none⟩ (.slice B1 l1 j1)).setCell ⟨N0 + 1, 2, none⟩ (.slice B2 l2 j2)).setCell ⟨N0 + 1, 3, none⟩ (.slice B3 l3 j3)).setCell ⟨N0 + 1, 4, none⟩ (.slice B4 l4 j4)).setCell ⟨N0 + 1, 5, none⟩ (.slice B5 l5 j5)).setCell ⟨N0 + 1, 6, none⟩ (.slice B6 l6 j6)).heap[N0 + 1]? = some (.cells #[.slice B0 l0 j0, .slice B1 l1 j1, .slice B2 l2 j2, .slice B3 l3 j3, .slice B4 l4 j4, .slice B5 l5 j5, .slice B6 l6 j6] 30 (0, 0)) := (set_of (set_of (set_of (set_of (set_of (set_of (set_of HY11.out _) _) _) _) _) _) _)
 have hbl : Below w.heap.size w (((((((w11.setCell ⟨N0 + 1, 0, none⟩ (.slice B0 l0 j0)).setCell ⟨N0 + 1, 1, none⟩ (.slice B1 l1 j1)).setCell ⟨N0 + 1, 2, none⟩ (.slice B2 l2 j2)).setCell ⟨N0 + 1, 3, none⟩ (.slice B3 l3 j3)).setCell ⟨N0 + 1, 4, none⟩ (.slice B4 l4 j4)).setCell ⟨N0 + 1, 5, none⟩ (.slice B5 l5 j5)).setCell ⟨N0 + 1, 6, none⟩ (.slice B6 l6 j6)) := (((((((HB11.out.setCell (by rw [HN0.out]; exact Nat.le_succ _) _).setCell (by rw [HN0.out]; exact Nat.le_succ _) _).setCell (by rw [HN0.out]; exact Nat.le_succ _) _).setCell (by rw [HN0.out]; exact Nat.le_succ _) _).setCell (by rw [HN0.out]; exact Nat.le_succ _) _).setCell (by rw [HN0.out]; exact Nat.le_succ _) _).setCell (by rw [HN0.out]; exact Nat.le_succ _) _)
 have hk : Kept (N0 + 1 + 1) w11 (((((((w11.setCell ⟨N0 + 1, 0, none⟩ (.slice B0 l0 j0)).setCell ⟨N0 + 1, 1, none⟩ (.slice B1 l1 j1)).setCell ⟨N0 + 1, 2, none⟩ (.slice B2 l2 j2)).setCell ⟨N0 + 1, 3, none⟩ (.slice B3 l3 j3)).setCell ⟨N0 + 1, 4, none⟩ (.slice B4 l4 j4)).setCell ⟨N0 + 1, 5, none⟩ (.slice B5 l5 j5)).setCell ⟨N0 + 1, 6, none⟩ (.slice B6 l6 j6)) := ⟨by simp [World.setCell], fun k h1 h2 => by rw [Below.heap_setCell _ _ _ k (by show k ≠ N0 + 1; omega), Below.heap_setCell _ _ _ k (by show k ≠ N0 + 1; omega), Below.heap_setCell _ _ _ k (by show k ≠ N0 + 1; omega), Below.heap_setCell _ _ _ k (by show k ≠ N0 + 1; omega), Below.heap_setCell _ _ _ k (by show k ≠ N0 + 1; omega), Below.heap_setCell _ _ _ k (by show k ≠ N0 + 1; omega), Below.heap_setCell _ _ _ k (by show k ≠ N0 + 1; omega)]⟩
 obtain ⟨W8, hW8⟩ : ∃ W8, (((((((w11.setCell ⟨N0 + 1, 0, none⟩ (.slice B0 l0 j0)).setCell ⟨N0 + 1, 1, none⟩ (.slice B1 l1 j1)).setCell ⟨N0 + 1, 2, none⟩ (.slice B2 l2 j2)).setCell ⟨N0 + 1, 3, none⟩ (.slice B3 l3 j3)).setCell ⟨N0 + 1, 4, none⟩ (.slice B4 l4 j4)).setCell ⟨N0 + 1, 5, none⟩ (.slice B5 l5 j5)).setCell ⟨N0 + 1, 6, none⟩ (.slice B6 l6 j6)) = W8 := ⟨_, rfl⟩
 rw [hW8] at hz hbl hk ⊢
 clear hW8
 have hkk := HF.out.kept (hk.mono (by have := HK2.out; omega))
 have hm0 : w.heap.size ≤ w2.heap.size := by rw [HN0.out]; have := HK2.out; omega
 exact bodyPost_ret (v := .tuple #[.agg #[.slice B0 l0 j0, .slice B1 l1 j1, .slice B2 l2 j2, .slice B3 l3 j3, .slice B4 l4 j4, .slice B5 l5 j5, .slice B6 l6 j6], .int .i64 (0 : Int)]) (results_two Tryz.results14 _ _ (N0 + 1) _ rfl hz rfl) rfl ⟨⟨.slice B0 l0 j0, .slice B1 l1 j1, .slice B2 l2 j2, .slice B3 l3 j3, .slice B4 l4 j4, .slice B5 l5 j5, .slice B6 l6 j6⟩, rfl, hkk.mono hm0, HFU.out, hbl⟩

theorem extract_any {w : World} (s : Sv) {c : Cor} (i : Int) (hC : CorAt w s c) (hF : Fits c) :
 Calls Tryz.prog 14 #[.agg s.arr, .int .i64 i] w (ExV w (extractC c i)) := by
 unfold extractC
 by_cases hv : validC c = false
 · rw [if_pos hv]
   exact extract_bad s i hC hF hv
 rw [if_neg hv]
 have hv' : validC c = true := by simpa using hv
 by_cases hi : i < 0 ∨ (c.texts.length : Int) ≤ i
 · rw [if_pos hi]
   exact extract_range s i hC hF hv' hi
 rw [if_neg hi]
 have hk : i = ((i.toNat : Nat) : Int) := by omega
 obtain ⟨t, ht⟩ : ∃ t, c.texts[i.toNat]? = some t := ⟨_, List.getElem?_eq_getElem (by omega)⟩
 rw [ht]
 exact extract_doc s i hC hF hv' i.toNat hk ht
end Go.Proofs.YtebmfkkkhmjkoaaGreat
namespace Go.Proofs.YtebmfkkkhmjkoaaGreat
open Go.RowKit Go.Shelf Go.Lib
set_option linter.unusedVariables false

theorem cells_part {cells : Array Value} {p sz : Nat} {cs : List Value} (h : (cells.toList.drop p).take sz = cs) {i : Nat} {u : Value} (hu : cs[i]? = some u) : cells[p + i]? = some u := by
 rw [← h, List.getElem?_take] at hu
 split at hu
 · rw [List.getElem?_drop] at hu
   simpa using hu
 cases hu
theorem rows_block {α : Type} {sz : Nat} {E : World → List Value → α → Prop} {W : World} {b : Nat} {cells : Array Value} {T : TypeId} (hb : W.heap[b]? = some (.cells cells T (0, 0))) (xs : List α) (n : Nat) (hn : n = xs.length)
 (h : ∀ (j : Nat) (x : α), xs[j]? = some x → ∃ cs : List Value, cs.length = sz ∧ E W cs x ∧ (cells.toList.drop (j * sz)).take sz = cs) : Rows sz E W (.slice (some ⟨b, 0, none⟩) n n) xs := by
 subst hn
 refine ⟨_, _, rfl, Nat.le_refl _, fun _ => ⟨b, 0, rfl, lt_blk hb, fun j x hx => ?_⟩⟩
 obtain ⟨cs, h1, h2, h3⟩ := h j x hx
 exact ⟨cs, h1, h2, fun i u hu => by rw [Nat.zero_add]; exact cell_of hb (cells_part h3 hu)⟩
/-- The corpus of the example; its one region's begin and end. -/
def awC (rb re : Int) : Cor := ⟨[([119, 111, 114, 100], false)], [[[97]], [[98]], [[99]]], [⟨[120], 0, 2, []⟩, ⟨[121], 2, 3, []⟩], [⟨[115], rb, re, []⟩], [], [], []⟩
def awS (N : Nat) : Sv := ⟨.slice (some ⟨N, 0, none⟩) 1 1, .slice (some ⟨N + 1 + 1 + 1 + 1, 0, none⟩) 3 3, .slice (some ⟨N + 1 + 1 + 1 + 1 + 1, 0, none⟩) 2 2, .slice (some ⟨N + 1 + 1 + 1 + 1 + 1 + 1, 0, none⟩) 1 1, .slice none 0 0, .slice none 0 0, .slice none 0 0⟩
structure Awk (N : Nat) (rb re : Int) (W : World) : Prop where
 b0 : W.heap[N]? = some (.cells #[.string ⟨#[119, 111, 114, 100]⟩, .bool false] 61 (0, 0))
 b1 : W.heap[N + 1]? = some (.cells #[.string ⟨#[97]⟩] 9 (0, 0))
 b2 : W.heap[N + 1 + 1]? = some (.cells #[.string ⟨#[98]⟩] 9 (0, 0))
 b3 : W.heap[N + 1 + 1 + 1]? = some (.cells #[.string ⟨#[99]⟩] 9 (0, 0))
 b4 : W.heap[N + 1 + 1 + 1 + 1]? = some (.cells #[.slice (some ⟨N + 1, 0, none⟩) 1 1, .slice (some ⟨N + 1 + 1, 0, none⟩) 1 1, .slice (some ⟨N + 1 + 1 + 1, 0, none⟩) 1 1] 28 (0, 0))
 b5 : W.heap[N + 1 + 1 + 1 + 1 + 1]? = some (.cells #[.string ⟨#[120]⟩, .int .i64 0, .int .i64 2, .slice none 0 0, .string ⟨#[121]⟩, .int .i64 2, .int .i64 3, .slice none 0 0] 51 (0, 0))
 b6 : W.heap[N + 1 + 1 + 1 + 1 + 1 + 1]? = some (.cells #[.string ⟨#[115]⟩, .int .i64 rb, .int .i64 re, .slice none 0 0] 54 (0, 0))
 b7 : W.heap[N + 1 + 1 + 1 + 1 + 1 + 1 + 1]? = some (.cells #[.slice (some ⟨N, 0, none⟩) 1 1, .slice (some ⟨N + 1 + 1 + 1 + 1, 0, none⟩) 3 3, .slice (some ⟨N + 1 + 1 + 1 + 1 + 1, 0, none⟩) 2 2, .slice (some ⟨N + 1 + 1 + 1 + 1 + 1 + 1, 0, none⟩) 1 1, .slice none 0 0, .slice none 0 0, .slice none 0 0] 30 (0, 0))
theorem Awk.below {N : Nat} {rb re : Int} {W W' : World} (h : Awk N rb re W) (hb : Below W.heap.size W W') : Awk N rb re W' :=
 ⟨block_below h.b0 hb (lt_blk h.b0), block_below h.b1 hb (lt_blk h.b1), block_below h.b2 hb (lt_blk h.b2), block_below h.b3 hb (lt_blk h.b3), block_below h.b4 hb (lt_blk h.b4), block_below h.b5 hb (lt_blk h.b5), block_below h.b6 hb (lt_blk h.b6), block_below h.b7 hb (lt_blk h.b7)⟩
theorem row1 {W : World} {b : Nat} {c : UInt8} (h : W.heap[b]? = some (.cells #[.string ⟨#[c]⟩] 9 (0, 0))) : Rows 1 EStr W (.slice (some ⟨b, 0, none⟩) 1 1) [[c]] :=
 rows_block h _ _ rfl fun j x hx => by
  match j, hx with
  | 0, hx => cases hx; exact ⟨_, rfl, rfl, rfl⟩
theorem Awk.cor {N : Nat} {rb re : Int} {W : World} (h : Awk N rb re W) : CorAt W (awS N) (awC rb re) := by
 refine ⟨rows_block h.b0 _ _ rfl fun j x hx => ?_, rows_block h.b4 _ _ rfl fun j x hx => ?_, rows_block h.b5 _ _ rfl fun j x hx => ?_, rows_block h.b6 _ _ rfl fun j x hx => ?_, Rows.nil _, Rows.nil _, Rows.nil _⟩
 · match j, hx with
   | 0, hx => cases hx; exact ⟨_, rfl, rfl, rfl⟩
 ·
  match j, hx with
  | 0, hx => cases hx; exact ⟨_, rfl, ⟨_, rfl, row1 h.b1⟩, rfl⟩
  | 1, hx => cases hx; exact ⟨_, rfl, ⟨_, rfl, row1 h.b2⟩, rfl⟩
  | 2, hx => cases hx; exact ⟨_, rfl, ⟨_, rfl, row1 h.b3⟩, rfl⟩
 · match j, hx with
   | 0, hx => cases hx; exact ⟨_, rfl, ⟨_, rfl, Rows.nil _⟩, rfl⟩
   | 1, hx => cases hx; exact ⟨_, rfl, ⟨_, rfl, Rows.nil _⟩, rfl⟩
 match j, hx with
 | 0, hx => cases hx; exact ⟨_, rfl, ⟨_, rfl, Rows.nil _⟩, rfl⟩
theorem awC_fits (rb re : Int) : Fits (awC rb re) := by
 unfold awC
 refine ⟨by simp, ?_, by simp, ?_, by simp, ?_, by simp, ?_, by simp, ?_, by simp, by simp, ?_⟩ <;> simp [maxLen]
theorem aw1 : validate (awC 1 3) = (4, 0, 8) := by decide +kernel
theorem aw2 : validate (awC 0 2) = (0, 0, 0) := by decide +kernel
theorem aw3 : (extractC (awC 0 2) 1).2 = 0 ∧ (extractC (awC 0 2) 1).1.toks.length = 1 ∧ (extractC (awC 0 2) 1).1.regs.length = 0 := by decide +kernel

set_option maxRecDepth 1000000 in
set_option maxHeartbeats 8000000 in
theorem awake_any (w : World) :
 Calls Tryz.prog 12 #[] w fun e w' => e = .returned (.bool true) ∧ Below w.heap.size w w' := by
 obtain ⟨x0, hx0⟩ : ∃ x, World.alloc w (.cells #[.string ⟨#[119, 111, 114, 100]⟩, .bool false] 61) = x := ⟨_, rfl⟩
 have hb0 : Below w.heap.size w x0 := by rw [← hx0]; exact below_box _ _
 have hs0 : x0.heap.size = w.heap.size + 1 := by rw [← hx0, alloc_sz]
 have hk0 : x0.heap[w.heap.size]? = some (.cells #[.string ⟨#[119, 111, 114, 100]⟩, .bool false] 61 (0, 0)) := by
  have := block_new w (.cells #[.string ⟨#[119, 111, 114, 100]⟩, .bool false] 61)
  rw [← hx0]
  exact this
 obtain ⟨x1, hx1⟩ : ∃ x, World.alloc x0 (.cells #[.string ⟨#[97]⟩] 9) = x := ⟨_, rfl⟩
 have hb1 : Below x0.heap.size x0 x1 := by rw [← hx1]; exact below_box _ _
 have hs1 : x1.heap.size = w.heap.size + 1 + 1 := by rw [← hx1, alloc_sz, hs0]
 have hk1 : x1.heap[w.heap.size + 1]? = some (.cells #[.string ⟨#[97]⟩] 9 (0, 0)) := by
  have := block_new x0 (.cells #[.string ⟨#[97]⟩] 9)
  rw [hs0] at this
  rw [← hx1]
  exact this
 obtain ⟨x2, hx2⟩ : ∃ x, World.alloc x1 (.cells #[.string ⟨#[98]⟩] 9) = x := ⟨_, rfl⟩
 have hb2 : Below x1.heap.size x1 x2 := by rw [← hx2]; exact below_box _ _
 have hs2 : x2.heap.size = w.heap.size + 1 + 1 + 1 := by rw [← hx2, alloc_sz, hs1]
 have hk2 : x2.heap[w.heap.size + 1 + 1]? = some (.cells #[.string ⟨#[98]⟩] 9 (0, 0)) := by
  have := block_new x1 (.cells #[.string ⟨#[98]⟩] 9)
  rw [hs1] at this
  rw [← hx2]
  exact this
 obtain ⟨x3, hx3⟩ : ∃ x, World.alloc x2 (.cells #[.string ⟨#[99]⟩] 9) = x := ⟨_, rfl⟩
 have hb3 : Below x2.heap.size x2 x3 := by rw [← hx3]; exact below_box _ _
 have hs3 : x3.heap.size = w.heap.size + 1 + 1 + 1 + 1 := by rw [← hx3, alloc_sz, hs2]
 have hk3 : x3.heap[w.heap.size + 1 + 1 + 1]? = some (.cells #[.string ⟨#[99]⟩] 9 (0, 0)) := by
  have := block_new x2 (.cells #[.string ⟨#[99]⟩] 9)
  rw [hs2] at this
  rw [← hx3]
  exact this
 obtain ⟨x4, hx4⟩ : ∃ x, World.alloc x3 (.cells #[.slice (some ⟨w.heap.size + 1, 0, none⟩) 1 1, .slice (some ⟨w.heap.size + 1 + 1, 0, none⟩) 1 1, .slice (some ⟨w.heap.size + 1 + 1 + 1, 0, none⟩) 1 1] 28) = x := ⟨_, rfl⟩
 have hb4 : Below x3.heap.size x3 x4 := by rw [← hx4]; exact below_box _ _
 have hs4 : x4.heap.size = w.heap.size + 1 + 1 + 1 + 1 + 1 := by rw [← hx4, alloc_sz, hs3]
 have hk4 : x4.heap[w.heap.size + 1 + 1 + 1 + 1]? = some (.cells #[.slice (some ⟨w.heap.size + 1, 0, none⟩) 1 1, .slice (some ⟨w.heap.size + 1 + 1, 0, none⟩) 1 1, .slice (some ⟨w.heap.size + 1 + 1 + 1, 0, none⟩) 1 1] 28 (0, 0)) := by
  have := block_new x3 (.cells #[.slice (some ⟨w.heap.size + 1, 0, none⟩) 1 1, .slice (some ⟨w.heap.size + 1 + 1, 0, none⟩) 1 1, .slice (some ⟨w.heap.size + 1 + 1 + 1, 0, none⟩) 1 1] 28)
  rw [hs3] at this
  rw [← hx4]
  exact this
 obtain ⟨x5, hx5⟩ : ∃ x, World.alloc x4 (.cells #[.string ⟨#[120]⟩, .int .i64 0, .int .i64 2, .slice none 0 0, .string ⟨#[121]⟩, .int .i64 2, .int .i64 3, .slice none 0 0] 51) = x := ⟨_, rfl⟩
 have hb5 : Below x4.heap.size x4 x5 := by rw [← hx5]; exact below_box _ _
 have hs5 : x5.heap.size = w.heap.size + 1 + 1 + 1 + 1 + 1 + 1 := by rw [← hx5, alloc_sz, hs4]
 have hk5 : x5.heap[w.heap.size + 1 + 1 + 1 + 1 + 1]? = some (.cells #[.string ⟨#[120]⟩, .int .i64 0, .int .i64 2, .slice none 0 0, .string ⟨#[121]⟩, .int .i64 2, .int .i64 3, .slice none 0 0] 51 (0, 0)) := by
  have := block_new x4 (.cells #[.string ⟨#[120]⟩, .int .i64 0, .int .i64 2, .slice none 0 0, .string ⟨#[121]⟩, .int .i64 2, .int .i64 3, .slice none 0 0] 51)
  rw [hs4] at this
  rw [← hx5]
  exact this
 obtain ⟨x6, hx6⟩ : ∃ x, World.alloc x5 (.cells #[.string ⟨#[115]⟩, .int .i64 1, .int .i64 3, .slice none 0 0] 54) = x := ⟨_, rfl⟩
 have hb6 : Below x5.heap.size x5 x6 := by rw [← hx6]; exact below_box _ _
 have hs6 : x6.heap.size = w.heap.size + 1 + 1 + 1 + 1 + 1 + 1 + 1 := by rw [← hx6, alloc_sz, hs5]
 have hk6 : x6.heap[w.heap.size + 1 + 1 + 1 + 1 + 1 + 1]? = some (.cells #[.string ⟨#[115]⟩, .int .i64 1, .int .i64 3, .slice none 0 0] 54 (0, 0)) := by
  have := block_new x5 (.cells #[.string ⟨#[115]⟩, .int .i64 1, .int .i64 3, .slice none 0 0] 54)
  rw [hs5] at this
  rw [← hx6]
  exact this
 obtain ⟨x7, hx7⟩ : ∃ x, World.alloc x6 (.cells #[.slice (some ⟨w.heap.size, 0, none⟩) 1 1, .slice (some ⟨w.heap.size + 1 + 1 + 1 + 1, 0, none⟩) 3 3, .slice (some ⟨w.heap.size + 1 + 1 + 1 + 1 + 1, 0, none⟩) 2 2, .slice (some ⟨w.heap.size + 1 + 1 + 1 + 1 + 1 + 1, 0, none⟩) 1 1, .slice none 0 0, .slice none 0 0, .slice none 0 0] 30) = x := ⟨_, rfl⟩
 have hb7 : Below x6.heap.size x6 x7 := by rw [← hx7]; exact below_box _ _
 have hs7 : x7.heap.size = w.heap.size + 1 + 1 + 1 + 1 + 1 + 1 + 1 + 1 := by rw [← hx7, alloc_sz, hs6]
 have hk7 : x7.heap[w.heap.size + 1 + 1 + 1 + 1 + 1 + 1 + 1]? = some (.cells #[.slice (some ⟨w.heap.size, 0, none⟩) 1 1, .slice (some ⟨w.heap.size + 1 + 1 + 1 + 1, 0, none⟩) 3 3, .slice (some ⟨w.heap.size + 1 + 1 + 1 + 1 + 1, 0, none⟩) 2 2, .slice (some ⟨w.heap.size + 1 + 1 + 1 + 1 + 1 + 1, 0, none⟩) 1 1, .slice none 0 0, .slice none 0 0, .slice none 0 0] 30 (0, 0)) := by
  have := block_new x6 (.cells #[.slice (some ⟨w.heap.size, 0, none⟩) 1 1, .slice (some ⟨w.heap.size + 1 + 1 + 1 + 1, 0, none⟩) 3 3, .slice (some ⟨w.heap.size + 1 + 1 + 1 + 1 + 1, 0, none⟩) 2 2, .slice (some ⟨w.heap.size + 1 + 1 + 1 + 1 + 1 + 1, 0, none⟩) 1 1, .slice none 0 0, .slice none 0 0, .slice none 0 0] 30)
  rw [hs6] at this
  rw [← hx7]
  exact this
 have hf0 := (block_below (block_below (block_below (block_below (block_below (block_below (block_below hk0 hb1 (lt_blk hk0)) hb2 (lt_blk (block_below hk0 hb1 (lt_blk hk0)))) hb3 (lt_blk (block_below (block_below hk0 hb1 (lt_blk hk0)) hb2 (lt_blk (block_below hk0 hb1 (lt_blk hk0)))))) hb4 (lt_blk (block_below (block_below (block_below hk0 hb1 (lt_blk hk0)) hb2 (lt_blk (block_below hk0 hb1 (lt_blk hk0)))) hb3 (lt_blk (block_below (block_below hk0 hb1 (lt_blk hk0)) hb2 (lt_blk (block_below hk0 hb1 (lt_blk hk0)))))))) hb5 (lt_blk (block_below (block_below (block_below (block_below hk0 hb1 (lt_blk hk0)) hb2 (lt_blk (block_below hk0 hb1 (lt_blk hk0)))) hb3 (lt_blk (block_below (block_below hk0 hb1 (lt_blk hk0)) hb2 (lt_blk (block_below hk0 hb1 (lt_blk hk0)))))) hb4 (lt_blk (block_below (block_below (block_below hk0 hb1 (lt_blk hk0)) hb2 (lt_blk (block_below hk0 hb1 (lt_blk hk0)))) hb3 (lt_blk (block_below (block_below hk0 hb1 (lt_blk hk0)) hb2 (lt_blk (block_below hk0 hb1 (lt_blk hk0)))))))))) hb6 (lt_blk (block_below (block_below (block_below (block_below (block_below hk0 hb1 (lt_blk hk0)) hb2 (lt_blk (block_below hk0 hb1 (lt_blk hk0)))) hb3 (lt_blk (block_below (block_below hk0 hb1 (lt_blk hk0)) hb2 (lt_blk (block_below hk0 hb1 (lt_blk hk0)))))) hb4 (lt_blk (block_below (block_below (block_below hk0 hb1 (lt_blk hk0)) hb2 (lt_blk (block_below hk0 hb1 (lt_blk hk0)))) hb3 (lt_blk (block_below (block_below hk0 hb1 (lt_blk hk0)) hb2 (lt_blk (block_below hk0 hb1 (lt_blk hk0)))))))) hb5 (lt_blk (block_below (block_below (block_below (block_below hk0 hb1 (lt_blk hk0)) hb2 (lt_blk (block_below hk0 hb1 (lt_blk hk0)))) hb3 (lt_blk (block_below (block_below hk0 hb1 (lt_blk hk0)) hb2 (lt_blk (block_below hk0 hb1 (lt_blk hk0)))))) hb4 (lt_blk (block_below (block_below (block_below hk0 hb1 (lt_blk hk0)) hb2 (lt_blk (block_below hk0 hb1 (lt_blk hk0)))) hb3 (lt_blk (block_below (block_below hk0 hb1 (lt_blk hk0)) hb2 (lt_blk (block_below hk0 hb1 (lt_blk hk0)))))))))))) hb7 (lt_blk (block_below (block_below (block_below (block_below (block_below (block_below hk0 hb1 (lt_blk hk0)) hb2 (lt_blk (block_below hk0 hb1 (lt_blk hk0)))) hb3 (lt_blk (block_below (block_below hk0 hb1 (lt_blk hk0)) hb2 (lt_blk (block_below hk0 hb1 (lt_blk hk0)))))) hb4 (lt_blk (block_below (block_below (block_below hk0 hb1 (lt_blk hk0)) hb2 (lt_blk (block_below hk0 hb1 (lt_blk hk0)))) hb3 (lt_blk (block_below (block_below hk0 hb1 (lt_blk hk0)) hb2 (lt_blk (block_below hk0 hb1 (lt_blk hk0)))))))) hb5 (lt_blk (block_below (block_below (block_below (block_below hk0 hb1 (lt_blk hk0)) hb2 (lt_blk (block_below hk0 hb1 (lt_blk hk0)))) hb3 (lt_blk (block_below (block_below hk0 hb1 (lt_blk hk0)) hb2 (lt_blk (block_below hk0 hb1 (lt_blk hk0)))))) hb4 (lt_blk (block_below (block_below (block_below hk0 hb1 (lt_blk hk0)) hb2 (lt_blk (block_below hk0 hb1 (lt_blk hk0)))) hb3 (lt_blk (block_below (block_below hk0 hb1 (lt_blk hk0)) hb2 (lt_blk (block_below hk0 hb1 (lt_blk hk0)))))))))) hb6 (lt_blk (block_below (block_below (block_below (block_below (block_below hk0 hb1 (lt_blk hk0)) hb2 (lt_blk (block_below hk0 hb1 (lt_blk hk0)))) hb3 (lt_blk (block_below (block_below hk0 hb1 (lt_blk hk0)) hb2 (lt_blk (block_below hk0 hb1 (lt_blk hk0)))))) hb4 (lt_blk (block_below (block_below (block_below hk0 hb1 (lt_blk hk0)) hb2 (lt_blk (block_below hk0 hb1 (lt_blk hk0)))) hb3 (lt_blk (block_below (block_below hk0 hb1 (lt_blk hk0)) hb2 (lt_blk (block_below hk0 hb1 (lt_blk hk0)))))))) hb5 (lt_blk (block_below (block_below (block_below (block_below hk0 hb1 (lt_blk hk0)) hb2 (lt_blk (block_below hk0 hb1 (lt_blk hk0)))) hb3 (lt_blk (block_below (block_below hk0 hb1 (lt_blk hk0)) hb2 (lt_blk (block_below hk0 hb1 (lt_blk hk0)))))) hb4 (lt_blk (block_below (block_below (block_below hk0 hb1 (lt_blk hk0)) hb2 (lt_blk (block_below hk0 hb1 (lt_blk hk0)))) hb3 (lt_blk (block_below (block_below hk0 hb1 (lt_blk hk0)) hb2 (lt_blk (block_below hk0 hb1 (lt_blk hk0))))))))))))))
 have hf1 := (block_below (block_below (block_below (block_below (block_below (block_below hk1 hb2 (lt_blk hk1)) hb3 (lt_blk (block_below hk1 hb2 (lt_blk hk1)))) hb4 (lt_blk (block_below (block_below hk1 hb2 (lt_blk hk1)) hb3 (lt_blk (block_below hk1 hb2 (lt_blk hk1)))))) hb5 (lt_blk (block_below (block_below (block_below hk1 hb2 (lt_blk hk1)) hb3 (lt_blk (block_below hk1 hb2 (lt_blk hk1)))) hb4 (lt_blk (block_below (block_below hk1 hb2 (lt_blk hk1)) hb3 (lt_blk (block_below hk1 hb2 (lt_blk hk1)))))))) hb6 (lt_blk (block_below (block_below (block_below (block_below hk1 hb2 (lt_blk hk1)) hb3 (lt_blk (block_below hk1 hb2 (lt_blk hk1)))) hb4 (lt_blk (block_below (block_below hk1 hb2 (lt_blk hk1)) hb3 (lt_blk (block_below hk1 hb2 (lt_blk hk1)))))) hb5 (lt_blk (block_below (block_below (block_below hk1 hb2 (lt_blk hk1)) hb3 (lt_blk (block_below hk1 hb2 (lt_blk hk1)))) hb4 (lt_blk (block_below (block_below hk1 hb2 (lt_blk hk1)) hb3 (lt_blk (block_below hk1 hb2 (lt_blk hk1)))))))))) hb7 (lt_blk (block_below (block_below (block_below (block_below (block_below hk1 hb2 (lt_blk hk1)) hb3 (lt_blk (block_below hk1 hb2 (lt_blk hk1)))) hb4 (lt_blk (block_below (block_below hk1 hb2 (lt_blk hk1)) hb3 (lt_blk (block_below hk1 hb2 (lt_blk hk1)))))) hb5 (lt_blk (block_below (block_below (block_below hk1 hb2 (lt_blk hk1)) hb3 (lt_blk (block_below hk1 hb2 (lt_blk hk1)))) hb4 (lt_blk (block_below (block_below hk1 hb2 (lt_blk hk1)) hb3 (lt_blk (block_below hk1 hb2 (lt_blk hk1)))))))) hb6 (lt_blk (block_below (block_below (block_below (block_below hk1 hb2 (lt_blk hk1)) hb3 (lt_blk (block_below hk1 hb2 (lt_blk hk1)))) hb4 (lt_blk (block_below (block_below hk1 hb2 (lt_blk hk1)) hb3 (lt_blk (block_below hk1 hb2 (lt_blk hk1)))))) hb5 (lt_blk (block_below (block_below (block_below hk1 hb2 (lt_blk hk1)) hb3 (lt_blk (block_below hk1 hb2 (lt_blk hk1)))) hb4 (lt_blk (block_below (block_below hk1 hb2 (lt_blk hk1)) hb3 (lt_blk (block_below hk1 hb2 (lt_blk hk1))))))))))))
 have hf2 := (block_below (block_below (block_below (block_below (block_below hk2 hb3 (lt_blk hk2)) hb4 (lt_blk (block_below hk2 hb3 (lt_blk hk2)))) hb5 (lt_blk (block_below (block_below hk2 hb3 (lt_blk hk2)) hb4 (lt_blk (block_below hk2 hb3 (lt_blk hk2)))))) hb6 (lt_blk (block_below (block_below (block_below hk2 hb3 (lt_blk hk2)) hb4 (lt_blk (block_below hk2 hb3 (lt_blk hk2)))) hb5 (lt_blk (block_below (block_below hk2 hb3 (lt_blk hk2)) hb4 (lt_blk (block_below hk2 hb3 (lt_blk hk2)))))))) hb7 (lt_blk (block_below (block_below (block_below (block_below hk2 hb3 (lt_blk hk2)) hb4 (lt_blk (block_below hk2 hb3 (lt_blk hk2)))) hb5 (lt_blk (block_below (block_below hk2 hb3 (lt_blk hk2)) hb4 (lt_blk (block_below hk2 hb3 (lt_blk hk2)))))) hb6 (lt_blk (block_below (block_below (block_below hk2 hb3 (lt_blk hk2)) hb4 (lt_blk (block_below hk2 hb3 (lt_blk hk2)))) hb5 (lt_blk (block_below (block_below hk2 hb3 (lt_blk hk2)) hb4 (lt_blk (block_below hk2 hb3 (lt_blk hk2))))))))))
 have hf3 := (block_below (block_below (block_below (block_below hk3 hb4 (lt_blk hk3)) hb5 (lt_blk (block_below hk3 hb4 (lt_blk hk3)))) hb6 (lt_blk (block_below (block_below hk3 hb4 (lt_blk hk3)) hb5 (lt_blk (block_below hk3 hb4 (lt_blk hk3)))))) hb7 (lt_blk (block_below (block_below (block_below hk3 hb4 (lt_blk hk3)) hb5 (lt_blk (block_below hk3 hb4 (lt_blk hk3)))) hb6 (lt_blk (block_below (block_below hk3 hb4 (lt_blk hk3)) hb5 (lt_blk (block_below hk3 hb4 (lt_blk hk3))))))))
 have hf4 := (block_below (block_below (block_below hk4 hb5 (lt_blk hk4)) hb6 (lt_blk (block_below hk4 hb5 (lt_blk hk4)))) hb7 (lt_blk (block_below (block_below hk4 hb5 (lt_blk hk4)) hb6 (lt_blk (block_below hk4 hb5 (lt_blk hk4))))))
 have hf5 := (block_below (block_below hk5 hb6 (lt_blk hk5)) hb7 (lt_blk (block_below hk5 hb6 (lt_blk hk5))))
 have hf6 := (block_below hk6 hb7 (lt_blk hk6))
 have hA : Awk w.heap.size 1 3 x7 := ⟨hf0, hf1, hf2, hf3, hf4, hf5, hf6, hk7⟩
 have hbX : Below w.heap.size w x7 := (((((((hb0.trans (hb1.mono (hb0).size)).trans (hb2.mono ((hb0.trans (hb1.mono (hb0).size))).size)).trans (hb3.mono (((hb0.trans (hb1.mono (hb0).size)).trans (hb2.mono ((hb0.trans (hb1.mono (hb0).size))).size))).size)).trans (hb4.mono ((((hb0.trans (hb1.mono (hb0).size)).trans (hb2.mono ((hb0.trans (hb1.mono (hb0).size))).size)).trans (hb3.mono (((hb0.trans (hb1.mono (hb0).size)).trans (hb2.mono ((hb0.trans (hb1.mono (hb0).size))).size))).size))).size)).trans (hb5.mono (((((hb0.trans (hb1.mono (hb0).size)).trans (hb2.mono ((hb0.trans (hb1.mono (hb0).size))).size)).trans (hb3.mono (((hb0.trans (hb1.mono (hb0).size)).trans (hb2.mono ((hb0.trans (hb1.mono (hb0).size))).size))).size)).trans (hb4.mono ((((hb0.trans (hb1.mono (hb0).size)).trans (hb2.mono ((hb0.trans (hb1.mono (hb0).size))).size)).trans (hb3.mono (((hb0.trans (hb1.mono (hb0).size)).trans (hb2.mono ((hb0.trans (hb1.mono (hb0).size))).size))).size))).size))).size)).trans (hb6.mono ((((((hb0.trans (hb1.mono (hb0).size)).trans (hb2.mono ((hb0.trans (hb1.mono (hb0).size))).size)).trans (hb3.mono (((hb0.trans (hb1.mono (hb0).size)).trans (hb2.mono ((hb0.trans (hb1.mono (hb0).size))).size))).size)).trans (hb4.mono ((((hb0.trans (hb1.mono (hb0).size)).trans (hb2.mono ((hb0.trans (hb1.mono (hb0).size))).size)).trans (hb3.mono (((hb0.trans (hb1.mono (hb0).size)).trans (hb2.mono ((hb0.trans (hb1.mono (hb0).size))).size))).size))).size)).trans (hb5.mono (((((hb0.trans (hb1.mono (hb0).size)).trans (hb2.mono ((hb0.trans (hb1.mono (hb0).size))).size)).trans (hb3.mono (((hb0.trans (hb1.mono (hb0).size)).trans (hb2.mono ((hb0.trans (hb1.mono (hb0).size))).size))).size)).trans (hb4.mono ((((hb0.trans (hb1.mono (hb0).size)).trans (hb2.mono ((hb0.trans (hb1.mono (hb0).size))).size)).trans (hb3.mono (((hb0.trans (hb1.mono (hb0).size)).trans (hb2.mono ((hb0.trans (hb1.mono (hb0).size))).size))).size))).size))).size))).size)).trans (hb7.mono (((((((hb0.trans (hb1.mono (hb0).size)).trans (hb2.mono ((hb0.trans (hb1.mono (hb0).size))).size)).trans (hb3.mono (((hb0.trans (hb1.mono (hb0).size)).trans (hb2.mono ((hb0.trans (hb1.mono (hb0).size))).size))).size)).trans (hb4.mono ((((hb0.trans (hb1.mono (hb0).size)).trans (hb2.mono ((hb0.trans (hb1.mono (hb0).size))).size)).trans (hb3.mono (((hb0.trans (hb1.mono (hb0).size)).trans (hb2.mono ((hb0.trans (hb1.mono (hb0).size))).size))).size))).size)).trans (hb5.mono (((((hb0.trans (hb1.mono (hb0).size)).trans (hb2.mono ((hb0.trans (hb1.mono (hb0).size))).size)).trans (hb3.mono (((hb0.trans (hb1.mono (hb0).size)).trans (hb2.mono ((hb0.trans (hb1.mono (hb0).size))).size))).size)).trans (hb4.mono ((((hb0.trans (hb1.mono (hb0).size)).trans (hb2.mono ((hb0.trans (hb1.mono (hb0).size))).size)).trans (hb3.mono (((hb0.trans (hb1.mono (hb0).size)).trans (hb2.mono ((hb0.trans (hb1.mono (hb0).size))).size))).size))).size))).size)).trans (hb6.mono ((((((hb0.trans (hb1.mono (hb0).size)).trans (hb2.mono ((hb0.trans (hb1.mono (hb0).size))).size)).trans (hb3.mono (((hb0.trans (hb1.mono (hb0).size)).trans (hb2.mono ((hb0.trans (hb1.mono (hb0).size))).size))).size)).trans (hb4.mono ((((hb0.trans (hb1.mono (hb0).size)).trans (hb2.mono ((hb0.trans (hb1.mono (hb0).size))).size)).trans (hb3.mono (((hb0.trans (hb1.mono (hb0).size)).trans (hb2.mono ((hb0.trans (hb1.mono (hb0).size))).size))).size))).size)).trans (hb5.mono (((((hb0.trans (hb1.mono (hb0).size)).trans (hb2.mono ((hb0.trans (hb1.mono (hb0).size))).size)).trans (hb3.mono (((hb0.trans (hb1.mono (hb0).size)).trans (hb2.mono ((hb0.trans (hb1.mono (hb0).size))).size))).size)).trans (hb4.mono ((((hb0.trans (hb1.mono (hb0).size)).trans (hb2.mono ((hb0.trans (hb1.mono (hb0).size))).size)).trans (hb3.mono (((hb0.trans (hb1.mono (hb0).size)).trans (hb2.mono ((hb0.trans (hb1.mono (hb0).size))).size))).size))).size))).size))).size))).size))
 have hv1 := validate_any (w := x7) (awS w.heap.size) hA.cor (awC_fits _ _)
 rw [aw1] at hv1
 obtain ⟨N, hN⟩ : ∃ N, w.heap.size = N := ⟨_, rfl⟩
 have HR := Lib.hid (And.intro hx0 (And.intro hx1 (And.intro hx2 (And.intro hx3 (And.intro hx4 (And.intro hx5 (And.intro hx6 hx7)))))))
 rw [hN] at hA hv1
 have HA := Lib.hid hA
 have HV1 := Lib.hid hv1
 have HN := Lib.hid hN
 have HBX := Lib.hid hbX
 clear hx0 hb0 hs0 hk0 hx1 hb1 hs1 hk1 hx2 hb2 hs2 hk2 hx3 hb3 hs3 hk3 hx4 hb4 hs4 hk4 hx5 hb5 hs5 hk5 hx6 hb6 hs6 hk6 hx7 hb7 hs7 hk7 hf0 hf1 hf2 hf3 hf4 hf5 hf6 hA hv1 hbX hN
 go_enter Tryz.func12, Tryz.ntmps12
 go_wp2_with fail
 obtain ⟨r0, r1, r2, r3, r4, r5, r6, r7⟩ := HR.out
 rw [r0, r1, r2, r3, r4, r5, r6, r7]
 clear r0 r1 r2 r3 r4 r5 r6 r7
 rw [HN.out]
 refine HV1.out.mono ?_
 rintro e w1 ⟨rfl, hb1⟩
 have HA1 := Lib.hid (HA.out.below hb1)
 have HB1 := Lib.hid (HBX.out.trans (hb1.mono HBX.out.size))
 have hA1 := HA.out.below hb1
 have c0 : w1.cell? ⟨N + 1 + 1 + 1 + 1 + 1 + 1 + 1, 0, none⟩ = some (.slice (some ⟨N, 0, none⟩) 1 1) := cell_of hA1.b7 rfl
 have c1 : w1.cell? ⟨N + 1 + 1 + 1 + 1 + 1 + 1 + 1, 1, none⟩ = some (.slice (some ⟨N + 1 + 1 + 1 + 1, 0, none⟩) 3 3) := cell_of hA1.b7 rfl
 have c2 : w1.cell? ⟨N + 1 + 1 + 1 + 1 + 1 + 1 + 1, 2, none⟩ = some (.slice (some ⟨N + 1 + 1 + 1 + 1 + 1, 0, none⟩) 2 2) := cell_of hA1.b7 rfl
 have c3 : w1.cell? ⟨N + 1 + 1 + 1 + 1 + 1 + 1 + 1, 3, none⟩ = some (.slice (some ⟨N + 1 + 1 + 1 + 1 + 1 + 1, 0, none⟩) 1 1) := cell_of hA1.b7 rfl
 have c4 : w1.cell? ⟨N + 1 + 1 + 1 + 1 + 1 + 1 + 1, 4, none⟩ = some (.slice none 0 0) := cell_of hA1.b7 rfl
 have c5 : w1.cell? ⟨N + 1 + 1 + 1 + 1 + 1 + 1 + 1, 5, none⟩ = some (.slice none 0 0) := cell_of hA1.b7 rfl
 have c6 : w1.cell? ⟨N + 1 + 1 + 1 + 1 + 1 + 1 + 1, 6, none⟩ = some (.slice none 0 0) := cell_of hA1.b7 rfl
 have d0 : w1.cell? ⟨N + 1 + 1 + 1 + 1 + 1 + 1, 0, none⟩ = some (.string ⟨#[115]⟩) := cell_of hA1.b6 rfl
 have fd0 : w1.frozen? ⟨N + 1 + 1 + 1 + 1 + 1 + 1, 0, none⟩ = false := frozen_of hA1.b6
 have d1 : w1.cell? ⟨N + 1 + 1 + 1 + 1 + 1 + 1, 1, none⟩ = some (.int .i64 1) := cell_of hA1.b6 rfl
 have fd1 : w1.frozen? ⟨N + 1 + 1 + 1 + 1 + 1 + 1, 1, none⟩ = false := frozen_of hA1.b6
 have d2 : w1.cell? ⟨N + 1 + 1 + 1 + 1 + 1 + 1, 2, none⟩ = some (.int .i64 3) := cell_of hA1.b6 rfl
 have fd2 : w1.frozen? ⟨N + 1 + 1 + 1 + 1 + 1 + 1, 2, none⟩ = false := frozen_of hA1.b6
 have d3 : w1.cell? ⟨N + 1 + 1 + 1 + 1 + 1 + 1, 3, none⟩ = some (.slice none 0 0) := cell_of hA1.b6 rfl
 have fd3 : w1.frozen? ⟨N + 1 + 1 + 1 + 1 + 1 + 1, 3, none⟩ = false := frozen_of hA1.b6
 clear hb1 hA1
 go_wp2_with fail
 obtain ⟨w2, hw2⟩ : ∃ w2, (((w1.setCell ⟨N + 1 + 1 + 1 + 1 + 1 + 1, 0, none⟩ (.string ⟨#[115]⟩)).setCell ⟨N + 1 + 1 + 1 + 1 + 1 + 1, 1, none⟩ (.int .i64 0)).setCell ⟨N + 1 + 1 + 1 + 1 + 1 + 1, 2, none⟩ (.int .i64 2)).setCell ⟨N + 1 + 1 + 1 + 1 + 1 + 1, 3, none⟩ (.slice none 0 0) = w2 := ⟨_, rfl⟩
 have ho : ∀ k, k ≠ N + 1 + 1 + 1 + 1 + 1 + 1 → w2.heap[k]? = w1.heap[k]? := fun k h => by rw [← hw2, Below.heap_setCell _ _ _ k h, Below.heap_setCell _ _ _ k h, Below.heap_setCell _ _ _ k h, Below.heap_setCell _ _ _ k h]
 have hA2 : Awk N 0 2 w2 := by
  have h := HA1.out
  exact ⟨(ho _ (by omega)).trans h.b0, (ho _ (by omega)).trans h.b1, (ho _ (by omega)).trans h.b2, (ho _ (by omega)).trans h.b3, (ho _ (by omega)).trans h.b4, (ho _ (by omega)).trans h.b5, by rw [← hw2]; exact set_of (set_of (set_of (set_of h.b6 _) _) _) _, (ho _ (by omega)).trans h.b7⟩
 have hb2 : Below w.heap.size w w2 := by
  rw [← hw2]
  have hle : w.heap.size ≤ N + 1 + 1 + 1 + 1 + 1 + 1 := by rw [HN.out]; omega
  exact ((((HB1.out.setCell hle _).setCell hle _).setCell hle _).setCell hle _)
 rw [hw2]
 have hv2 := validate_any (w := w2) (awS N) hA2.cor (awC_fits _ _)
 rw [aw2] at hv2
 have HV2 := Lib.hid hv2
 have HA2 := Lib.hid hA2
 have HB2 := Lib.hid hb2
 clear hw2 ho hA2 hb2 hv2 c0 c1 c2 c3 c4 c5 c6 d0 d1 d2 d3 fd0 fd1 fd2 fd3
 refine HV2.out.mono ?_
 rintro e w3 ⟨rfl, hb3⟩
 have hA3 := HA2.out.below hb3
 have hex := extract_any (w := w3) (awS N) 1 hA3.cor (awC_fits _ _)
 obtain ⟨q1, q2, q3⟩ := aw3
 obtain ⟨R, hR⟩ : ∃ R, extractC (awC 0 2) 1 = R := ⟨_, rfl⟩
 rw [hR] at hex q1 q2 q3
 obtain ⟨rc, rn⟩ := R
 simp only at q1 q2 q3
 subst q1
 have HB3 := Lib.hid (HB2.out.trans (hb3.mono HB2.out.size))
 have HEX := Lib.hid hex
 have c0 : w3.cell? ⟨N + 1 + 1 + 1 + 1 + 1 + 1 + 1, 0, none⟩ = some (.slice (some ⟨N, 0, none⟩) 1 1) := cell_of hA3.b7 rfl
 have c1 : w3.cell? ⟨N + 1 + 1 + 1 + 1 + 1 + 1 + 1, 1, none⟩ = some (.slice (some ⟨N + 1 + 1 + 1 + 1, 0, none⟩) 3 3) := cell_of hA3.b7 rfl
 have c2 : w3.cell? ⟨N + 1 + 1 + 1 + 1 + 1 + 1 + 1, 2, none⟩ = some (.slice (some ⟨N + 1 + 1 + 1 + 1 + 1, 0, none⟩) 2 2) := cell_of hA3.b7 rfl
 have c3 : w3.cell? ⟨N + 1 + 1 + 1 + 1 + 1 + 1 + 1, 3, none⟩ = some (.slice (some ⟨N + 1 + 1 + 1 + 1 + 1 + 1, 0, none⟩) 1 1) := cell_of hA3.b7 rfl
 have c4 : w3.cell? ⟨N + 1 + 1 + 1 + 1 + 1 + 1 + 1, 4, none⟩ = some (.slice none 0 0) := cell_of hA3.b7 rfl
 have c5 : w3.cell? ⟨N + 1 + 1 + 1 + 1 + 1 + 1 + 1, 5, none⟩ = some (.slice none 0 0) := cell_of hA3.b7 rfl
 have c6 : w3.cell? ⟨N + 1 + 1 + 1 + 1 + 1 + 1 + 1, 6, none⟩ = some (.slice none 0 0) := cell_of hA3.b7 rfl
 clear hb3 hA3 hex hR
 go_wp2_with fail
 refine HEX.out.mono ?_
 rintro e w4 ⟨s3, he, hF, hfull, hb4⟩
 obtain ⟨B0, j0, f0, -⟩ := hF.at'.a.form
 obtain ⟨B1, j1, f1, -⟩ := hF.at'.t.form
 obtain ⟨B2, j2, f2, -⟩ := hF.at'.x.form
 obtain ⟨B3, j3, f3, -⟩ := hF.at'.r.form
 obtain ⟨B4, j4, f4, -⟩ := hF.at'.n.form
 obtain ⟨B5, j5, f5, -⟩ := hF.at'.h.form
 obtain ⟨B6, j6, f6, -⟩ := hF.at'.l.form
 obtain ⟨v0, v1, v2, v3, v4, v5, v6⟩ := s3
 simp only at f0 f1 f2 f3 f4 f5 f6 q2 q3
 rw [q2] at f1
 rw [q3] at f3
 obtain ⟨l0, el0⟩ : ∃ l, rc.attrs.length = l := ⟨_, rfl⟩
 obtain ⟨l2, el2⟩ : ∃ l, rc.texts.length = l := ⟨_, rfl⟩
 obtain ⟨l4, el4⟩ : ∃ l, rc.nodes.length = l := ⟨_, rfl⟩
 obtain ⟨l5, el5⟩ : ∃ l, rc.heads.length = l := ⟨_, rfl⟩
 obtain ⟨l6, el6⟩ : ∃ l, rc.rels.length = l := ⟨_, rfl⟩
 rw [el0] at f0
 rw [el2] at f2
 rw [el4] at f4
 rw [el5] at f5
 rw [el6] at f6
 subst f0 f1 f2 f3 f4 f5 f6
 have he : e = .returned (.tuple #[.agg #[.slice B0 l0 j0, .slice B1 1 j1, .slice B2 l2 j2, .slice B3 0 j3, .slice B4 l4 j4, .slice B5 l5 j5, .slice B6 l6 j6], .int .i64 0]) := he
 subst he
 have HB4 := Lib.hid (HB3.out.trans (hb4.mono HB3.out.size))
 clear hF hfull hb4 el0 el2 el4 el5 el6 q2 q3 c0 c1 c2 c3 c4 c5 c6
 go_wp2_with fail
 go_ret
 exact ⟨rfl, HB4.out.trans ((below_box w4 _).mono HB4.out.size)⟩
end Go.Proofs.YtebmfkkkhmjkoaaGreat
