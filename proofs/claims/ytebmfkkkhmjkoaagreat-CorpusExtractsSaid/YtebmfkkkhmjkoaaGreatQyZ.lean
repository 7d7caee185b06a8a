/-
  MATHEMATICS of valid corpora: what Extract's document is, as the reference builds it.
  MEMORY: rows of the call's own whose elements are read in the old memory; append to them, of any list, of any element type.
-/
import Derived.Test.YtebmfkkkhmjkoaaGreatQmE
import Derived.Test.YtebmfkkkhmjkoaaGreatQeE
import Derived.Laws.OwnMore
namespace Go.Proofs.YtebmfkkkhmjkoaaGreat
open Go.RowKit Go.Shelf Go.Lib

theorem cutL_cons {α : Type} (a b : Nat) (x : α) (l : List α) : cutL (a + 1) (b + 1) (x :: l) = cutL a b l := by
 unfold cutL
 rw [List.take_succ_cons, List.drop_succ_cons]
theorem cutL_head {α : Type} (b : Nat) (x : α) (l : List α) : cutL 0 (b + 1) (x :: l) = x :: cutL 0 b l := by
 unfold cutL
 rw [List.take_succ_cons, List.drop_zero, List.drop_zero]
/-- What lies between two counts of an ascending row is what begins between. -/
theorem cut_filter {α : Type} {f : α → Int} (lo hi : Int) (hlh : lo ≤ hi) : ∀ {l : List α}, (∀ (i j : Nat) (x y : α), i < j → l[i]? = some x → l[j]? = some y → f x ≤ f y) →
 cutL (cntL (fun x => decide (f x < lo)) l) (cntL (fun x => decide (f x < hi)) l) l = l.filter (fun x => decide (lo ≤ f x) && decide (f x < hi))
 | [], _ => by simp [cutL]
 | x :: l, h => by
   have hl : ∀ (i j : Nat) (y z : α), i < j → l[i]? = some y → l[j]? = some z → f y ≤ f z := fun i j y z hij hy hz => h (i + 1) (j + 1) y z (by omega) (by simpa using hy) (by simpa using hz)
   have hx : ∀ y ∈ l, f x ≤ f y := fun y hy => by
    obtain ⟨j, hj⟩ := List.getElem?_of_mem hy
    exact h 0 (j + 1) x y (by omega) rfl (by simpa using hj)
   have ih := cut_filter lo hi hlh hl
   have hc : ∀ z : Int, cntL (fun x => decide (f x < z)) (x :: l) = if f x < z then cntL (fun x => decide (f x < z)) l + 1 else 0 := fun z => by
    unfold cntL
    by_cases hz : f x < z
    · rw [if_pos hz, List.takeWhile_cons_of_pos (by simpa using hz), List.length_cons]
    rw [if_neg hz, List.takeWhile_cons_of_neg (by simpa using hz)]
    rfl
   have h0 : ¬ f x < lo → cntL (fun x => decide (f x < lo)) l = 0 := fun hz => by
    unfold cntL
    cases l with
    | nil => rfl
    | cons y l =>
      have := hx y (List.mem_cons_self ..)
      rw [List.takeWhile_cons_of_neg (by simp; omega)]
      rfl
   rw [hc, hc]
   by_cases h1 : f x < lo
   · rw [if_pos h1, if_pos (by omega), cutL_cons, ih, List.filter_cons_of_neg (by simp; omega)]
   rw [if_neg h1]
   by_cases h2 : f x < hi
   · rw [if_pos h2, cutL_head, List.filter_cons_of_pos (by simp; omega), ← ih, h0 h1]
   rw [if_neg h2]
   have : (x :: l).filter (fun x => decide (lo ≤ f x) && decide (f x < hi)) = [] := List.filter_eq_nil_iff.2 fun y hy => by
    rcases List.mem_cons.1 hy with rfl | hy
    · simp; omega
    have := hx y hy
    simp; omega
   rw [this]
   simp [cutL]
/-- A stretch that lies within a text lies in t as soon as it begins there. -/
theorem in_text {c : Cor} (h : Valid c) {k : Nat} {t : Ex} (ht : c.texts[k]? = some t) {b e : Int} (hw : within c b e = true) : (t.b ≤ b ∧ b < t.e) ↔ (t.b ≤ b ∧ e ≤ t.e) := by
 unfold within at hw
 obtain ⟨u, hu, hq⟩ := List.any_eq_true.1 hw
 simp only [Bool.and_eq_true, decide_eq_true_eq] at hq
 obtain ⟨⟨q1, q2⟩, q3⟩ := hq
 refine ⟨fun ⟨h1, h2⟩ => ⟨h1, ?_⟩, fun ⟨h1, h2⟩ => ⟨h1, by omega⟩⟩
 obtain ⟨j, hj⟩ := List.getElem?_of_mem hu
 have e1 := textAt_of (pos := b) h.text ht h1 h2
 have e2 := textAt_of (pos := b) h.text hj q1 (by omega)
 have : j = k := by omega
 subst this
 rw [ht] at hj
 cases hj
 exact q3
def inT (t : Ex) (b e : Int) : Bool := decide (t.b ≤ b) && decide (e ≤ t.e)
theorem cut_in {α : Type} {f g : α → Int} {c : Cor} (h : Valid c) {k : Nat} {t : Ex} (ht : c.texts[k]? = some t) {l : List α} (ha : ∀ (i j : Nat) (x y : α), i < j → l[i]? = some x → l[j]? = some y → f x ≤ f y) (hw : ∀ x ∈ l, within c (f x) (g x) = true) :
 cutL (cntL (fun x => decide (f x < (t.b.toNat : Int))) l) (cntL (fun x => decide (f x < (t.e.toNat : Int))) l) l = l.filter (fun x => inT t (f x) (g x)) := by
 have hf := (text_facts h.text ht).2.2.2.1
 have hb := begin_pos h.text ht
 rw [show (t.b.toNat : Int) = t.b by omega, show (t.e.toNat : Int) = t.e by omega, cut_filter t.b t.e (by omega) ha]
 refine List.filter_congr fun x hx => ?_
 unfold inT
 have := in_text h ht (hw x hx)
 rw [Bool.eq_iff_iff]
 simp only [Bool.and_eq_true, decide_eq_true_eq]
 exact this
theorem regs_in {c : Cor} (h : Valid c) : ∀ x ∈ c.regs, within c x.b x.e = true := fun x hx => by
 obtain ⟨j, hj⟩ := List.getElem?_of_mem hx
 have hl := (List.getElem?_eq_some_iff.1 hj).1
 have := (reg_facts hj (h.reg j hl))
 exact this.2.1
theorem nodes_in {c : Cor} (h : Valid c) : ∀ x ∈ c.nodes, within c x.b x.e = true := fun x hx => by
 obtain ⟨j, hj⟩ := List.getElem?_of_mem hx
 have hl := (List.getElem?_eq_some_iff.1 hj).1
 exact (node_facts hj (h.node j hl)).1
theorem head_in {c : Cor} (h : Valid c) {k : Nat} {t : Ex} (ht : c.texts[k]? = some t) {x : Int} (hx : x ∈ cutL t.b.toNat t.e.toNat c.heads) : x = -1 ∨ t.b ≤ x := by
 have hf := (text_facts h.text ht)
 have hb := begin_pos h.text ht
 obtain ⟨j, hj⟩ := List.getElem?_of_mem hx
 unfold cutL at hj
 rw [List.getElem?_drop, List.getElem?_take] at hj
 by_cases hlt : t.b.toNat + j < t.e.toNat
 ·
  rw [if_pos hlt] at hj
  rcases valid_head h hj with e | ⟨e1, e2, e3⟩
  · exact .inl e
  refine .inr ?_
  have e4 := textAt_of (pos := ((t.b.toNat + j : Nat) : Int)) h.text ht (by omega) (by omega)
  rw [e4] at e3
  rcases textAt_spec c x with e5 | ⟨i, u, e5, e6, e7, e8⟩
  · omega
  have : i = k := by omega
  subst this
  rw [ht] at e5
  cases e5
  exact e6
 rw [if_neg hlt] at hj
 cases hj
/-- The index of the first node that begins in t or behind it. -/
def firstN (c : Cor) (t : Ex) : Nat := cntL (fun x : Nd => decide (x.b < (t.b.toNat : Int))) c.nodes
/-- One text as a corpus of its own, as the reference builds it. -/
def refDoc (c : Cor) (t : Ex) : Cor :=
 ⟨c.attrs, cutL t.b.toNat t.e.toNat c.toks, [⟨t.name, 0, t.e - t.b, t.ps⟩], (c.regs.filter fun x => inT t x.b x.e).map (mvEx (-t.b)), (c.nodes.filter fun x => inT t x.b x.e).map (mvNd (-t.b) (-(firstN c t : Int))),
  if bare (cutL t.b.toNat t.e.toNat c.heads) (cutL t.b.toNat t.e.toNat c.rels) then [] else (cutL t.b.toNat t.e.toNat c.heads).map fun x => max (x - t.b) (-1),
  if bare (cutL t.b.toNat t.e.toNat c.heads) (cutL t.b.toNat t.e.toNat c.rels) then [] else cutL t.b.toNat t.e.toNat c.rels⟩
theorem docC_ref {c : Cor} (h : Valid c) {k : Nat} {t : Ex} (ht : c.texts[k]? = some t) : docC c t t.b.toNat t.e.toNat = refDoc c t := by
 have hb := begin_pos h.text ht
 have hr := cut_in (f := fun x : Ex => x.b) (g := fun x : Ex => x.e) h ht (regs_asc h) (regs_in h)
 have hn := cut_in (f := fun x : Nd => x.b) (g := fun x : Nd => x.e) h ht (nodes_asc h) (nodes_in h)
 have hh : (cutL t.b.toNat t.e.toNat c.heads).map (incZ (-t.b)) = (cutL t.b.toNat t.e.toNat c.heads).map fun x => max (x - t.b) (-1) := by
  refine List.map_congr_left fun x hx => ?_
  unfold incZ
  rcases head_in h ht hx with e | e
  · rw [if_pos e]
    omega
  rw [if_neg (by omega)]
  omega
 have ht0 : (t.b.toNat : Int) = t.b := by omega
 unfold docC bareC docD refDoc firstN
 simp only at hr hn ⊢
 rw [hr, hn]
 by_cases hq : bare (cutL t.b.toNat t.e.toNat c.heads) (cutL t.b.toNat t.e.toNat c.rels) = true
 ·
  rw [if_pos hq, if_pos hq, if_pos hq]
  unfold mvC
  rw [ht0]
  simp [mvEx]
  omega
 rw [if_neg hq, if_neg hq, if_neg hq]
 unfold mvC
 rw [ht0]
 simp only [hh]
 simp [mvEx]
 omega
/-- The first node that lies in t. -/
theorem first_kept {c : Cor} (h : Valid c) {k : Nat} {t : Ex} (ht : c.texts[k]? = some t) {i : Nat} {x : Nd} (hx : c.nodes[i]? = some x) (hq : inT t x.b x.e = true) (hno : ∀ (j : Nat) (y : Nd), j < i → c.nodes[j]? = some y → inT t y.b y.e = false) : i = firstN c t := by
 have hb := begin_pos h.text ht
 have hin := fun (j : Nat) (y : Nd) (hy : c.nodes[j]? = some y) => in_text h ht (nodes_in h y (List.mem_of_getElem? hy))
 unfold inT at hq hno
 simp only [Bool.and_eq_true, decide_eq_true_eq] at hq
 have hxq := (hin i x hx).2 hq
 have key : ∀ (l : List Nd) (i : Nat), (∀ (j : Nat) (y : Nd), j < i → l[j]? = some y → y.b < (t.b.toNat : Int)) → (∀ z, l[i]? = some z → ¬ z.b < (t.b.toNat : Int)) → i < l.length → i = cntL (fun x : Nd => decide (x.b < (t.b.toNat : Int))) l := by
  intro l
  induction l with
  | nil => intro i _ _ hl; simp at hl
  | cons a l ih =>
    intro i h1 h2 hl
    cases i with
    | zero =>
      have := h2 a rfl
      unfold cntL
      rw [List.takeWhile_cons_of_neg (by simpa using this)]
      rfl
    | succ i =>
      have h0 := h1 0 a (by omega) rfl
      have := ih i (fun j y hj hy => h1 (j + 1) y (by omega) (by simpa using hy)) (fun z hz => h2 z (by simpa using hz)) (by simpa using hl)
      unfold cntL at this ⊢
      rw [List.takeWhile_cons_of_pos (by simpa using h0), List.length_cons, ← this]
 refine key c.nodes i (fun j y hj hy => ?_) (fun z hz => ?_) (List.getElem?_eq_some_iff.1 hx).1
 ·
  have h1 := nodes_asc h j i y x hj hy hx
  have h2 := hno j y hj hy
  have h3 := hin j y hy
  simp only [Bool.and_eq_false_iff, decide_eq_false_iff_not] at h2
  omega
 rw [hx] at hz
 cases hz
 omega
theorem filter_step {α β : Type} {l : List α} {k : Nat} {x : α} (hx : l[k]? = some x) (p : α → Bool) (f : α → β) : ((l.take (k + 1)).filter p).map f = if p x = true then ((l.take k).filter p).map f ++ [f x] else ((l.take k).filter p).map f := by
 rw [List.take_add_one, hx, List.filter_append]
 by_cases hp : p x = true
 · rw [if_pos hp]
   simp [hp]
 rw [if_neg hp]
 simp [hp]
end Go.Proofs.YtebmfkkkhmjkoaaGreat
namespace Go.Proofs.YtebmfkkkhmjkoaaGreat
open Go.RowKit Go.Shelf Go.Lib
set_option linter.unusedVariables false
set_option linter.unusedSimpArgs false

/-- A row of the call's own, in blocks from base on, whose elements, read in the memory w0, are ys. -/
def OwnO {β : Type} (base : Nat) (T : TypeId) (sz : Nat) (E : World → List Value → β → Prop) (w0 w : World) (v : Value) (ys : List β) : Prop :=
 ∃ css : List (Cs sz), css.length = ys.length ∧ w.ownsRow base T sz v ys.length (css.flatMap fun c => c.1) ∧ ∀ (j : Nat) (y : β) (c : Cs sz), ys[j]? = some y → css[j]? = some c → E w0 c.1 y
theorem OwnO.nil {β : Type} (base : Nat) (T : TypeId) (sz : Nat) (E : World → List Value → β → Prop) (w0 w : World) : OwnO base T sz E w0 w (.slice none 0 0) ([] : List β) :=
 ⟨[], rfl, World.ownsRow_nil _ _ _ _, fun j y c h => by simp at h⟩
theorem OwnO.keep {β : Type} {base : Nat} {T : TypeId} {sz : Nat} {E : World → List Value → β → Prop} {w0 w w' : World} {v : Value} {ys : List β} (h : OwnO base T sz E w0 w v ys) (hk : ∀ k, v.ownBlock = some k → w'.heap[k]? = w.heap[k]?) : OwnO base T sz E w0 w' v ys := by
 obtain ⟨css, hl, ho, hE⟩ := h
 exact ⟨css, hl, own_below ho hk, hE⟩
theorem OwnO.below {β : Type} {base : Nat} {T : TypeId} {sz : Nat} {E : World → List Value → β → Prop} {w0 w w' : World} {v : Value} {ys : List β} (h : OwnO base T sz E w0 w v ys) (hb : Below w.heap.size w w') : OwnO base T sz E w0 w' v ys := by
 obtain ⟨css, hl, ho, hE⟩ := h
 exact ⟨css, hl, own_after ho hb, hE⟩
theorem OwnO.form {β : Type} {base : Nat} {T : TypeId} {sz : Nat} {E : World → List Value → β → Prop} {w0 w : World} {v : Value} {ys : List β} (h : OwnO base T sz E w0 w v ys) : ∃ A cap, v = .slice A ys.length cap ∧ ys.length ≤ cap := by
 obtain ⟨css, hl, ho, hE⟩ := h
 exact own_form ho
/-- Its block: one of cells of its type, from base on. -/
theorem OwnO.block {β : Type} {base : Nat} {T : TypeId} {sz : Nat} {E : World → List Value → β → Prop} {w0 w : World} {v : Value} {ys : List β} (h : OwnO base T sz E w0 w v ys) : ∀ k, v.ownBlock = some k → base ≤ k ∧ ∃ cur, w.heap[k]? = some (.cells cur T (0, 0)) := by
 obtain ⟨css, hl, ho, hE⟩ := h
 intro k hk
 rcases ho.2 with ⟨rfl, _⟩ | ⟨g, cap, cur, rfl, hb, hh, _⟩
 · cases hk
 simp only [Value.ownBlock, Option.some.injEq] at hk
 subst hk
 exact ⟨hb, cur, hh⟩
/-- A block of another type is not its block. -/
theorem OwnO.apart {β : Type} {base : Nat} {T : TypeId} {sz : Nat} {E : World → List Value → β → Prop} {w0 w : World} {v : Value} {ys : List β} (h : OwnO base T sz E w0 w v ys) {k : Nat} {cs : Array Value} {T' : TypeId} {f : Nat × Nat} (hk : w.heap[k]? = some (.cells cs T' f)) (ht : T' ≠ T) : v.ownBlock ≠ some k := by
 intro e
 obtain ⟨_, cur, hc⟩ := h.block k e
 rw [hk] at hc
 injection hc with hc
 injection hc with _ hc _
 exact ht hc
theorem OwnO.rows {β : Type} {base : Nat} {T : TypeId} {sz : Nat} {E : World → List Value → β → Prop} {w0 w : World} {v : Value} {ys : List β} (h : OwnO base T sz E w0 w v ys) (hS : Stays E) (hb : Below w0.heap.size w0 w) : Rows sz E w v ys := by
 obtain ⟨css, hl, ho, hE⟩ := h
 rw [← hl] at ho
 obtain ⟨A, cap, hv, hc, hr⟩ := rows_of_own (enc := fun c : Cs sz => c.1) cs_len ho
 rw [hl] at hv hc hr
 refine ⟨A, cap, hv, hc, fun h0 => ?_⟩
 obtain ⟨b, off, hA, hb', hj⟩ := hr h0
 refine ⟨b, off, hA, hb', fun j y hy => ?_⟩
 have hjl : j < css.length := by rw [hl]; exact (List.getElem?_eq_some_iff.1 hy).1
 obtain ⟨cs, h1, h2, h3⟩ := hj j css[j] (List.getElem?_eq_getElem hjl)
 exact ⟨cs, h1, by rw [h2]; exact hS w0 w _ _ hb (hE j y _ hy (List.getElem?_eq_getElem hjl)), h3⟩
/-- A list that may be appended: its cells lie in w, its elements are read in w0. -/
def AddX {β : Type} (sz : Nat) (E : World → List Value → β → Prop) (w0 w : World) (vx : Value) (zs : List β) : Prop :=
 ∃ (A : Option Addr) (cap : Nat) (css : List (Cs sz)), vx = .slice A zs.length cap ∧ css.length = zs.length ∧ (zs.length ≠ 0 → ∃ ad, A = some ad ∧ ∀ (j : Nat) (u : Value), (css.flatMap fun c => c.1)[j]? = some u → w.cell? (ad.add j) = some u) ∧ ∀ (j : Nat) (z : β) (c : Cs sz), zs[j]? = some z → css[j]? = some c → E w0 c.1 z
/-- Lists pick their cells. -/
theorem pick_css {β : Type} {sz : Nat} {Q : Nat → Cs sz → Prop} : ∀ n : Nat, (∀ j, j < n → ∃ c, Q j c) → ∃ css : List (Cs sz), css.length = n ∧ ∀ (j : Nat) (c : Cs sz), css[j]? = some c → Q j c
 | 0, _ => ⟨[], rfl, fun j c h => by simp at h⟩
 | n + 1, h => by
   obtain ⟨css, hl, hc⟩ := pick_css (β := β) n (fun j hj => h j (by omega))
   obtain ⟨c, hq⟩ := h n (by omega)
   refine ⟨css ++ [c], by simp [hl], fun j d hd => ?_⟩
   by_cases hj : j < css.length
   · rw [List.getElem?_append_left hj] at hd
     exact hc j d hd
   rw [List.getElem?_append_right (by omega)] at hd
   by_cases e : j - css.length = 0
   ·
    rw [e] at hd
    simp only [List.getElem?_cons_zero, Option.some.injEq] at hd
    subst hd
    have : j = n := by omega
    rw [this]
    exact hq
   rw [show j - css.length = (j - css.length - 1) + 1 by omega] at hd
   simp at hd
/-- What reads as a list in the old memory may be appended. -/
theorem Rows.addX {β : Type} {sz : Nat} {E : World → List Value → β → Prop} {w0 w : World} {vx : Value} {zs : List β} (h : Rows sz E w0 vx zs) (hp : 0 < sz) (hb : Below w0.heap.size w0 w) : AddX sz E w0 w vx zs := by
 obtain ⟨A, cap, hv, hc, hr⟩ := h
 by_cases h0 : 0 < zs.length
 ·
  obtain ⟨b, off, hA, hlt, hj⟩ := hr h0
  obtain ⟨css, hl, hq⟩ := pick_css (β := β) (sz := sz) (Q := fun j c => ∀ z, zs[j]? = some z → E w0 c.1 z ∧ ∀ (i : Nat) (u : Value), c.1[i]? = some u → w0.cell? ⟨b, off + j * sz + i, none⟩ = some u) zs.length (fun j hjl => by
   obtain ⟨cs, h1, h2, h3⟩ := hj j zs[j] (List.getElem?_eq_getElem hjl)
   refine ⟨⟨cs, h1⟩, fun z hz => ?_⟩
   rw [List.getElem?_eq_getElem hjl] at hz
   cases hz
   exact ⟨h2, h3⟩)
  refine ⟨A, cap, css, hv, hl, fun _ => ⟨⟨b, off, none⟩, hA, fun j u hu => ?_⟩, fun j z c hz hc => (hq j c hc z hz).1⟩
  have hjl : j < css.length * sz := by
   have := (List.getElem?_eq_some_iff.1 hu).1
   rwa [flatM_len cs_len] at this
  have hdm := Nat.div_add_mod j sz
  have hml := Nat.mod_lt j hp
  have hdl : j / sz < css.length := (Nat.div_lt_iff_lt_mul hp).2 hjl
  have hcd := List.getElem?_eq_getElem hdl
  have hg := flatM_get (enc := fun c : Cs sz => c.1) cs_len css (j / sz) css[j / sz] (j % sz) hcd hml
  have hj2 : j / sz * sz + j % sz = j := by rw [Nat.mul_comm]; exact hdm
  rw [hj2, hu] at hg
  have hzd := List.getElem?_eq_getElem (show j / sz < zs.length by omega)
  have := (hq _ _ hcd _ hzd).2 (j % sz) u hg.symm
  rw [add_plain]
  rw [show off + j / sz * sz + j % sz = off + j by omega] at this
  exact (hb.cell (p := ⟨b, off + j, none⟩) hlt).trans this
 have hz : zs = [] := List.length_eq_zero_iff.1 (by omega)
 subst hz
 exact ⟨A, cap, [], hv, rfl, fun h => absurd rfl h, fun j z c h => by simp at h⟩
/-- One element that lies in a block of its own. -/
theorem AddX.one {β : Type} {sz : Nat} {E : World → List Value → β → Prop} {w0 w : World} {g : Nat} {c : Cs sz} {T : TypeId} {f : Nat × Nat} {z : β} (hg : w.heap[g]? = some (.cells c.1.toArray T f)) (hE : E w0 c.1 z) (m : Nat) : AddX sz E w0 w (.slice (some ⟨g, 0, none⟩) 1 m) [z] := by
 refine ⟨_, m, [c], rfl, rfl, fun _ => ⟨_, rfl, fun j u hu => ?_⟩, fun j y d h1 h2 => ?_⟩
 · rw [add_plain, Nat.zero_add]
   refine cell_of hg ?_
   simpa using hu
 cases j with
 | zero => cases h1; cases h2; exact hE
 | succ j => simp at h1
theorem run_append_void {P : Program} {w : World} (base : Nat) (t ty e : TypeId) (i : TypeInfo) (size : Nat) (ht : P.underlying t = some (.slice e)) (hi : P.info? e = some i)
 (v : Value) (n : Nat) (xs : List Value) (hown : w.ownsRow base e size v n xs) (c : Nat) :
 (Builtin.append_ #[t, t] ty #[v, .slice none 0 c]).run P w = .ok v w := by
 rcases hown.2 with ⟨rfl, rfl⟩ | ⟨g, cap, cur, rfl, _, _, hnc, _⟩
 · simp [Builtin.append_, run_underlying ht, sizeOf, typeInfo, hi, Builtin.lenOf, Builtin.firstCells]
 simp [Builtin.append_, run_underlying ht, sizeOf, typeInfo, hi, Builtin.lenOf, Builtin.firstCells, hnc, storeCells]
/-- append to a row of the call's own. -/
theorem run_addO {β : Type} {base : Nat} {T : TypeId} {sz : Nat} {E : World → List Value → β → Prop} {w0 w : World} {z : Value} {bytes : Nat} (hinf : (Tryz.prog.info? T).map (fun i => (i.zero, i.size, i.bytes)) = some (some z, sz, bytes)) (hzs : z.cells.size = sz) (hsz : 0 < sz)
 (t ty : TypeId) (ht : Tryz.prog.underlying t = some (.slice T)) {v vx : Value} {ys zs : List β} (hown : OwnO base T sz E w0 w v ys) (hx : AddX sz E w0 w vx zs) (h1 : ∀ (w : World) (cs : List Value) (y : β), E w cs y → ∀ u ∈ cs, u.oneCell' = true)
 (h63 : ys.length + zs.length ≤ maxLen) (hbytes : (ys.length + zs.length) * bytes ≤ 140737488355328) (hbase : base ≤ w.heap.size) :
 ∃ v' w', (Builtin.append_ #[t, t] ty #[v, vx]).run Tryz.prog w = .ok v' w' ∧ OwnO base T sz E w0 w' v' (ys ++ zs) ∧ w.grownBy w' v.ownBlock := by
 obtain ⟨i0, hi, hz0, hz1, hz2⟩ := info_parts' hinf
 obtain ⟨css, hl, ho, hE⟩ := hown
 obtain ⟨A, cap, css2, rfl, hl2, hA, hE2⟩ := hx
 have hEE : ∀ (j : Nat) (y : β) (c : Cs sz), (ys ++ zs)[j]? = some y → (css ++ css2)[j]? = some c → E w0 c.1 y := fun j y c hy hc => by
  by_cases hj : j < ys.length
  · rw [List.getElem?_append_left hj] at hy
    rw [List.getElem?_append_left (by omega)] at hc
    exact hE j y c hy hc
  rw [List.getElem?_append_right (by omega)] at hy
  rw [List.getElem?_append_right (by omega), hl] at hc
  exact hE2 _ y c hy hc
 by_cases h0 : zs.length = 0
 ·
  have hz : zs = [] := List.length_eq_zero_iff.1 h0
  subst hz
  have hc2 : css2 = [] := List.length_eq_zero_iff.1 (by rw [hl2]; rfl)
  subst hc2
  simp only [List.append_nil] at hEE ⊢
  cases A with
  | none =>
    exact ⟨v, w, run_append_void base t ty T i0 sz ht hi v _ _ ho cap, ⟨css, hl, ho, hEE⟩, World.grownBy.refl w _⟩
  | some ad =>
    obtain ⟨v', w', hr, h2, h3, _⟩ := run_append_own (P := Tryz.prog) w base t ty T i0 z sz bytes ht hi hz0 hz1 hz2 hzs hsz v ys.length _ ho ad 0 cap [] (by simp) (fun j u h => by simp at h) (fun u h => by simp at h) (by simpa using h63) (by simpa using hbytes) hbase
    simp only [List.append_nil, Nat.add_zero] at h2
    exact ⟨v', w', hr, ⟨css, hl, h2, hEE⟩, h3⟩
 obtain ⟨ad, rfl, hnews⟩ := hA h0
 have hone : ∀ u ∈ css2.flatMap (fun c => c.1), u.oneCell' = true := fun u hu => by
  obtain ⟨c, hc, hcu⟩ := List.mem_flatMap.1 hu
  obtain ⟨j, hj⟩ := List.getElem?_of_mem hc
  have hjl : j < zs.length := by rw [← hl2]; exact (List.getElem?_eq_some_iff.1 hj).1
  exact h1 w0 c.1 zs[j] (hE2 j _ c (List.getElem?_eq_getElem hjl) hj) u hcu
 obtain ⟨v', w', hr, h2, h3, _⟩ := run_append_own (P := Tryz.prog) w base t ty T i0 z sz bytes ht hi hz0 hz1 hz2 hzs hsz v ys.length _ ho ad zs.length cap (css2.flatMap fun c => c.1) (by rw [flatM_len cs_len, hl2]) hnews hone h63 hbytes hbase
 refine ⟨v', w', hr, ⟨css ++ css2, by rw [List.length_append, List.length_append, hl, hl2], ?_, hEE⟩, h3⟩
 rw [List.length_append, List.flatMap_append]
 exact h2
/-- What append leaves as it was: each block of another type. -/
def KeptT (T : TypeId) (w w' : World) : Prop := ∀ (k : Nat) (cs : Array Value) (T' : TypeId) (f : Nat × Nat), w.heap[k]? = some (.cells cs T' f) → T' ≠ T → w'.heap[k]? = some (.cells cs T' f)
theorem kept_grown {β : Type} {base : Nat} {T : TypeId} {sz : Nat} {E : World → List Value → β → Prop} {w0 w w' : World} {v : Value} {ys : List β} (h : OwnO base T sz E w0 w v ys) (hg : w.grownBy w' v.ownBlock) : KeptT T w w' := fun k cs T' f hk ht => by
 rw [hg.block k (Array.getElem?_eq_some_iff.1 hk).1 (fun e => h.apart hk ht e.symm)]
 exact hk
/-- A row of another type stays. -/
theorem OwnO.keptT {β : Type} {base : Nat} {T T' : TypeId} {sz : Nat} {E : World → List Value → β → Prop} {w0 w w' : World} {v : Value} {ys : List β} (h : OwnO base T sz E w0 w v ys) (hk : KeptT T' w w') (ht : T ≠ T') : OwnO base T sz E w0 w' v ys :=
 h.keep fun k e => by
  obtain ⟨_, cur, hc⟩ := h.block k e
  rw [hk k cur T (0, 0) hc ht, hc]
theorem below_addO {β : Type} {base : Nat} {T : TypeId} {sz : Nat} {E : World → List Value → β → Prop} {w0 w w' : World} {v : Value} {ys : List β} (h : OwnO base T sz E w0 w v ys) (hg : w.grownBy w' v.ownBlock) : ∀ B W, Below B W w → B ≤ base → B ≤ w.heap.size → Below B W w' := fun B W hb hB hs =>
 hb.grown hg hs (fun k e => Nat.le_trans hB (h.block k e).1)
theorem wpList_addO {β : Type} {base : Nat} {T : TypeId} {sz : Nat} {E : World → List Value → β → Prop} {w0 : World} {z : Value} {bytes : Nat} (hinf : (Tryz.prog.info? T).map (fun i => (i.zero, i.size, i.bytes)) = some (some z, sz, bytes)) (hzs : z.cells.size = sz) (hsz : 0 < sz)
 (h1 : ∀ (w : World) (cs : List Value) (y : β), E w cs y → ∀ u ∈ cs, u.oneCell' = true) (t : TypeId) (ht : Tryz.prog.underlying t = some (.slice T))
 {w : World} {ops : Array Oper} {rest : List Oper} {o : Oper} {a : Act} {Q : Exit → Act → World → Prop} (hgd : o.guard = none) (s x : Operand) (ho : o.op = .call { callee := .builtin .append, args := #[s, x], argTypes := #[t, t] })
 (v vx : Value) (ys zs : List β) (hs : a.eval s = v) (hx : a.eval x = vx) (hown : OwnO base T sz E w0 w v ys) (hadd : AddX sz E w0 w vx zs)
 (h63 : ys.length + zs.length ≤ maxLen) (hbytes : (ys.length + zs.length) * bytes ≤ 140737488355328) (hbase : base ≤ w.heap.size)
 (h : ∀ v' w', Hid (OwnO base T sz E w0 w' v' (ys ++ zs)) → Hid (KeptT T w w') → Hid (∀ B W, Below B W w → B ≤ base → Below B W w') → wpList Tryz.prog ops Q rest (a.put o.dst v') w') : wpList Tryz.prog ops Q (o :: rest) a w := by
 refine wpList_plain hgd fun K hK => ?_
 obtain ⟨v', w', hr, h2, h3⟩ := run_addO hinf hzs hsz t o.type ht hown hadd h1 h63 hbytes hbase
 unfold Oper.wp execOp
 simp only [ho, resolve, invoke, builtin, Sem.run_bind, Sem.run_pure, Result.andThen_ok, List.map_toArray, List.map_cons, List.map_nil, hs, hx, hr]
 exact hK _ _ (h v' w' (Lib.hid h2) (Lib.hid (kept_grown hown h3)) (Lib.hid fun B W hb hB => below_addO hown h3 B W hb hB (Nat.le_trans hB hbase)))
theorem step_addO {β : Type} {base : Nat} {T : TypeId} {sz : Nat} {E : World → List Value → β → Prop} {w0 : World} {z : Value} {bytes : Nat} (hinf : (Tryz.prog.info? T).map (fun i => (i.zero, i.size, i.bytes)) = some (some z, sz, bytes)) (hzs : z.cells.size = sz) (hsz : 0 < sz)
 (h1 : ∀ (w : World) (cs : List Value) (y : β), E w cs y → ∀ u ∈ cs, u.oneCell' = true) (t : TypeId) (ht : Tryz.prog.underlying t = some (.slice T))
 {w : World} {ops : Array Oper} {o : Oper} {a : Act} {K : Act → World → Prop} {Q : Exit → Act → World → Prop} {X : Prop} (hgd : o.guard = none) (s x : Operand) (ho : o.op = .call { callee := .builtin .append, args := #[s, x], argTypes := #[t, t] })
 (v vx : Value) (ys zs : List β) (hs : a.eval s = v) (hx : a.eval x = vx) (hown : OwnO base T sz E w0 w v ys) (hadd : AddX sz E w0 w vx zs)
 (h63 : ys.length + zs.length ≤ maxLen) (hbytes : (ys.length + zs.length) * bytes ≤ 140737488355328) (hbase : base ≤ w.heap.size)
 (h : ∀ v' w', Hid (OwnO base T sz E w0 w' v' (ys ++ zs)) → Hid (KeptT T w w') → Hid (∀ B W, Below B W w → B ≤ base → Below B W w') → K (a.put o.dst v') w') :
 if Region.wanted o (yielded ops a.tmps) = true then Oper.wp Tryz.prog o a w K Q else X := by
 have hw : Region.wanted o (yielded ops a.tmps) = true := by simp [Region.wanted, hgd]
 rw [if_pos hw]
 obtain ⟨v', w', hr, h2, h3⟩ := run_addO hinf hzs hsz t o.type ht hown hadd h1 h63 hbytes hbase
 unfold Oper.wp execOp
 simp only [ho, resolve, invoke, builtin, Sem.run_bind, Sem.run_pure, Result.andThen_ok, List.map_toArray, List.map_cons, List.map_nil, hs, hx, hr]
 exact h v' w' (Lib.hid h2) (Lib.hid (kept_grown hown h3)) (Lib.hid fun B W hb hB => below_addO hown h3 B W hb hB (Nat.le_trans hB hbase))
end Go.Proofs.YtebmfkkkhmjkoaaGreat
