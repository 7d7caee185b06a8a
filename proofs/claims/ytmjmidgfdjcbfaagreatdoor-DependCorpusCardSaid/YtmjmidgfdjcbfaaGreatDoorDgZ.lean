/-
  MATHEMATICS of DependCorpus: a corpus of one text whose tokens are empty is valid exactly if its heads and relations have a text, unless all are roots without relations. (Depend's texts lie in the namespace Dep here.)
  MEMORY of DependCorpus: the corpus that the law makes, token by token, and that it reads as corH.
-/
import Derived.Test.YtmjmidgfdjcbfaaGreatDoorQaM
import Derived.Test.YtmjmidgfdjcbfaaGreatDoorDzH
import Derived.Test.YtmjmidgfdjcbfaaGreatDoorQhC
namespace Go.Proofs.YtmjmidgfdjcbfaaGreatDoor
open Go.Lib
set_option linter.unusedVariables false

abbrev wordB : Bs := [119, 111, 114, 100]
def corH (n : Nat) (H : List Int) (G : Fs) : Cor := ⟨[(wordB, false)], List.replicate n [[]], [⟨[116], 0, n, []⟩], [], [], H, G⟩
theorem step_eq (H : List Int) (i : Nat) : stepH H (i : Int) = (Dep.stN H i).map (fun j : Nat => (j : Int)) := by
  unfold stepH Dep.stN
  rw [Int.toNat_natCast]
  cases H[i]? with
  | none => rfl
  | some x =>
    simp only
    split
    · rename_i h
      simp only [Option.map_some, Option.some.injEq]
      omega
    · rfl
theorem iter_eq (H : List Int) : ∀ (k i : Nat), iterH H k (i : Int) = (Dep.itN H k i).map (fun j : Nat => (j : Int))
  | 0, i => rfl
  | k + 1, i => by
    show (stepH H i).bind (iterH H k) = ((Dep.stN H i).bind (Dep.itN H k)).map _
    rw [step_eq]
    cases Dep.stN H i with
    | none => rfl
    | some j => exact iter_eq H k j
theorem cyc_eq (H : List Int) (i : Nat) : cyc H (i : Int) = Dep.cyc H i := by
  unfold cyc Dep.cyc
  congr 1
  funext k
  rw [iter_eq]
  cases Dep.itN H (k + 1) i with
  | none => simp
  | some j => simp [Int.natCast_inj]
theorem textAt_cor (n : Nat) (H : List Int) (G : Fs) (p : Int) : textAt (corH n H G) p = if 0 ≤ p ∧ p < (n : Int) then 0 else -1 := by
  unfold textAt findZ corH
  by_cases h : 0 ≤ p ∧ p < (n : Int)
  · rw [if_pos h]
    simp [List.findIdx?_cons, h.1, h.2]
  · rw [if_neg h]
    have hb : (decide ((0 : Int) ≤ p) && decide (p < (n : Int))) = false := by
      rw [Bool.eq_false_iff]
      intro e
      rw [Bool.and_eq_true, decide_eq_true_iff, decide_eq_true_iff] at e
      exact h e
    simp [List.findIdx?_cons, hb]
theorem head_zero {n : Nat} {H : List Int} {G : Fs} {i : Nat} {h : Int} {r : Bs} (hi : i < n) (hh : H[i]? = some h) (hr : G[i]? = some r) :
    headE (corH n H G) i = 0 ↔ (h = -1 ∨ (0 ≤ h ∧ h < (n : Int))) ∧ Dep.relB r = true ∧ Dep.cyc H i = false := by
  have e1 : (corH n H G).heads[i]? = some h := hh
  have e2 : (corH n H G).rels[i]? = some r := hr
  have e3 : (corH n H G).heads = H := rfl
  unfold headE
  rw [e1, e2, e3]
  simp only
  rw [textAt_cor, textAt_cor, if_pos (show 0 ≤ (i : Int) ∧ (i : Int) < (n : Int) by omega), cyc_eq]
  have hrel : Dep.relB r = true ↔ ¬ (r ≠ [] ∧ nameB r = false) := by
    unfold Dep.relB
    by_cases h0 : r = []
    · simp [h0]
    · cases nameB r <;> simp [h0]
  by_cases c1 : h ≠ -1 ∧ (if 0 ≤ h ∧ h < (n : Int) then (0 : Int) else -1) ≠ 0
  · rw [if_pos c1]
    refine ⟨fun e => (by cases e), fun e => ?_⟩
    exfalso
    rcases e.1 with q | q
    · exact c1.1 q
    · exact c1.2 (if_pos q)
  · rw [if_neg c1]
    have g1 : h = -1 ∨ (0 ≤ h ∧ h < (n : Int)) := by
      by_cases q : h = -1
      · exact .inl q
      · right
        by_cases q2 : 0 ≤ h ∧ h < (n : Int)
        · exact q2
        · exact absurd ⟨q, by rw [if_neg q2]; decide⟩ c1
    by_cases c2 : r ≠ [] ∧ nameB r = false
    · rw [if_pos c2]
      exact ⟨fun e => (by cases e), fun e => absurd c2 (hrel.1 e.2.1)⟩
    · rw [if_neg c2]
      cases hc : Dep.cyc H i with
      | true =>
        rw [if_pos rfl]
        exact ⟨fun e => (by cases e), fun e => by cases e.2.2⟩
      | false =>
        rw [if_neg (by decide)]
        exact ⟨fun _ => ⟨g1, hrel.2 c2, rfl⟩, fun _ => rfl⟩
theorem heads_zero {n : Nat} {H : List Int} {G : Fs} (hn : H.length = n) (hg : G.length = n) (h4 : n ≤ 4096) :
    (∀ i, i < n → headE (corH n H G) i = 0) ↔ (Dep.checkH H).2 = 0 ∧ Dep.relsB G = true := by
  have hok : (Dep.checkH H).2 = 0 ↔ Dep.okH H = true := by unfold Dep.okH; rw [decide_eq_true_iff]
  rw [hok, Dep.okH_iff]
  unfold Dep.relsB
  rw [List.all_eq_true]
  constructor
  · intro hz
    have key : ∀ i h r, H[i]? = some h → G[i]? = some r → (h = -1 ∨ (0 ≤ h ∧ h < (n : Int))) ∧ Dep.relB r = true ∧ Dep.cyc H i = false := fun i h r q1 q2 =>
      (head_zero (by rw [← hn]; exact (List.getElem?_eq_some_iff.1 q1).1) q1 q2).1 (hz i (by rw [← hn]; exact (List.getElem?_eq_some_iff.1 q1).1))
    refine ⟨⟨by omega, fun x hx => ?_, fun i hi hc => ?_⟩, fun x hx => ?_⟩
    · obtain ⟨i, hi⟩ := List.getElem?_of_mem hx
      have hl := (List.getElem?_eq_some_iff.1 hi).1
      obtain ⟨r, hr⟩ : ∃ r, G[i]? = some r := ⟨_, List.getElem?_eq_getElem (by omega)⟩
      have := (key i x r hi hr).1
      rw [hn]
      exact this
    · obtain ⟨h, hh⟩ : ∃ h, H[i]? = some h := ⟨_, List.getElem?_eq_getElem hi⟩
      obtain ⟨r, hr⟩ : ∃ r, G[i]? = some r := ⟨_, List.getElem?_eq_getElem (by omega)⟩
      have := (key i h r hh hr).2.2
      rw [(Dep.cyc_iff H i).2 hc] at this
      cases this
    · obtain ⟨i, hi⟩ := List.getElem?_of_mem hx
      have hl := (List.getElem?_eq_some_iff.1 hi).1
      obtain ⟨h, hh⟩ : ∃ h, H[i]? = some h := ⟨_, List.getElem?_eq_getElem (by omega)⟩
      exact (key i h x hh hi).2.1
  · rintro ⟨⟨_, h2, h3⟩, h4'⟩ i hi
    obtain ⟨h, hh⟩ : ∃ h, H[i]? = some h := ⟨_, List.getElem?_eq_getElem (by omega)⟩
    obtain ⟨r, hr⟩ : ∃ r, G[i]? = some r := ⟨_, List.getElem?_eq_getElem (by omega)⟩
    refine (head_zero hi hh hr).2 ⟨?_, h4' r (List.mem_of_getElem? hr), ?_⟩
    · have := h2 h (List.mem_of_getElem? hh)
      rw [hn] at this
      exact this
    · rw [Bool.eq_false_iff]
      intro e
      exact h3 i (by omega) ((Dep.cyc_iff H i).1 e)
theorem parts_zero {n : Nat} {H : List Int} {G : Fs} (h1 : 1 ≤ n) (h4 : n ≤ 4096) :
    attrsE (corH n H G) = 0 ∧ (∀ i, i < (corH n H G).attrs.length → attrE (corH n H G) i = 0) ∧ toksE (corH n H G) = 0 ∧ (∀ i, i < (corH n H G).toks.length → tokE (corH n H G) i = 0) ∧
    textsE (corH n H G) = 0 ∧ (∀ i, i < (corH n H G).texts.length → textE (corH n H G) i = 0) ∧ regsE (corH n H G) = 0 ∧ (∀ i, i < (corH n H G).regs.length → regE (corH n H G) i = 0) ∧
    nodesE (corH n H G) = 0 ∧ (∀ i, i < (corH n H G).nodes.length → nodeE (corH n H G) i = 0) := by
  have ht : (corH n H G).toks.length = n := by simp [corH]
  refine ⟨rfl, fun i hi => ?_, ?_, fun i hi => ?_, ?_, fun i hi => ?_, rfl, fun i hi => absurd hi (Nat.not_lt_zero _), rfl, fun i hi => absurd hi (Nat.not_lt_zero _)⟩
  · obtain rfl : i = 0 := by have : (corH n H G).attrs.length = 1 := rfl; omega
    rfl
  · unfold toksE
    rw [if_neg (by omega)]
  · have e : (corH n H G).toks[i]? = some [[]] := by
      rw [ht] at hi
      show (List.replicate n [[]])[i]? = _
      rw [List.getElem?_replicate, if_pos hi]
    unfold tokE
    rw [e]
    rfl
  · unfold textsE
    have e : (corH n H G).texts.length = 1 := rfl
    rw [e, ht, if_neg (by omega), if_neg]
    have : ¬ n = 0 := by omega
    simp [this]
  · obtain rfl : i = 0 := by have : (corH n H G).texts.length = 1 := rfl; omega
    have e : (corH n H G).texts[0]? = some ⟨[116], 0, n, []⟩ := rfl
    have e2 : (corH n H G).texts.take 0 = [] := rfl
    unfold textE
    rw [e]
    simp only
    rw [if_neg (by decide), e2, if_neg (by simp), if_neg, if_neg]
    · rfl
    · rintro ⟨_, h⟩
      exact h (by rw [ht])
    · rintro (h | h | h)
      · exact h rfl
      · omega
      · rw [ht] at h; omega
theorem first_step {p : Nat} {x : Nat × Nat} {l : List (Nat × (Nat × Nat))} (h : x.2 = 0) : firstPart ((p, x) :: l) = firstPart l := by
  obtain ⟨i, e⟩ := x
  show (if e = 0 then firstPart l else (p, i, e)) = firstPart l
  exact if_pos h
/-- The first five parts are right. -/
theorem validate_cor {n : Nat} {H : List Int} {G : Fs} (h1 : 1 ≤ n) (h4 : n ≤ 4096) : validate (corH n H G) = firstPart [(6, partE (headsE (corH n H G)) (headE (corH n H G)) H.length)] := by
  obtain ⟨p1, p2, p3, p4, p5, p6, p7, p8, p9, p10⟩ := parts_zero (H := H) (G := G) h1 h4
  unfold validate partsE
  rw [first_step (partE_zero.2 ⟨p1, p2⟩), first_step (partE_zero.2 ⟨p3, p4⟩), first_step (partE_zero.2 ⟨p5, p6⟩), first_step (partE_zero.2 ⟨p7, p8⟩), first_step (partE_zero.2 ⟨p9, p10⟩)]
  rfl
/-- What the law calls bare. -/
def bareL (n : Nat) (H : List Int) (G : Fs) : Bool := decide (G.length = n) && bare H G
theorem validate_bare {n : Nat} {H : List Int} {G : Fs} (h1 : 1 ≤ n) (h4 : n ≤ 4096) (hn : H.length = n) (hb : bareL n H G = true) : (validate (corH n H G)).2.2 = 14 := by
  unfold bareL at hb
  rw [Bool.and_eq_true, decide_eq_true_iff] at hb
  have ht : (corH n H G).toks.length = n := by simp [corH]
  have hh : headsE (corH n H G) = 14 := by
    unfold headsE
    have e1 : (corH n H G).heads = H := rfl
    have e2 : (corH n H G).rels = G := rfl
    rw [e1, e2, ht, if_neg (by omega), if_neg (by omega), if_pos ⟨by omega, hb.2⟩]
  rw [validate_cor h1 h4, hh]
  rfl
theorem validate_zero {n : Nat} {H : List Int} {G : Fs} (h1 : 1 ≤ n) (h4 : n ≤ 4096) (hn : H.length = n) (hb : bareL n H G = false) : (validate (corH n H G)).2.2 = 0 ↔ (Dep.formatH H G).2 = 0 := by
  have ht : (corH n H G).toks.length = n := by simp [corH]
  have e1 : (corH n H G).heads = H := rfl
  have e2 : (corH n H G).rels = G := rfl
  rw [validate_cor h1 h4, firstPart_zero]
  simp only [List.mem_singleton, forall_eq]
  rw [partE_zero, hn]
  have hf : (Dep.formatH H G).2 = 0 ↔ (Dep.checkH H).2 = 0 ∧ H.length = G.length ∧ Dep.relsB G = true := by
    unfold Dep.formatH
    by_cases c1 : (Dep.checkH H).2 ≠ 0
    · rw [if_pos c1]
      exact ⟨fun e => absurd e c1, fun e => absurd e.1 c1⟩
    · rw [if_neg c1]
      by_cases c2 : H.length ≠ G.length
      · rw [if_pos c2]
        exact ⟨fun e => (by cases e), fun e => absurd e.2.1 c2⟩
      · rw [if_neg c2]
        by_cases c3 : Dep.relsB G = false
        · rw [if_pos c3]
          exact ⟨fun e => (by cases e), fun e => (by rw [c3] at e; cases e.2.2)⟩
        · rw [if_neg c3]
          exact ⟨fun _ => ⟨by omega, by omega, by simpa using c3⟩, fun _ => rfl⟩
  rw [hf]
  by_cases hg : G.length = n
  · have hb2 : bare H G = false := by
      unfold bareL at hb
      rw [decide_eq_true hg, Bool.true_and] at hb
      exact hb
    have hh : headsE (corH n H G) = 0 := by
      unfold headsE
      rw [e1, e2, ht, if_neg (by omega), if_neg (by omega), if_neg (by rw [hb2]; simp)]
    rw [heads_zero hn hg h4]
    exact ⟨fun e => ⟨e.2.1, by omega, e.2.2⟩, fun e => ⟨hh, e.1, e.2.2⟩⟩
  · have hh : headsE (corH n H G) = 15 := by
      unfold headsE
      rw [e1, e2, if_pos (by omega)]
    rw [hh]
    exact ⟨fun e => (by cases e.1), fun e => by omega⟩
theorem bare_format {n : Nat} {H : List Int} {G : Fs} (h4 : n ≤ 4096) (hn : H.length = n) (hb : bareL n H G = true) : (Dep.formatH H G).2 = 0 := by
  unfold bareL bare at hb
  rw [Bool.and_eq_true, Bool.and_eq_true, decide_eq_true_iff, List.all_eq_true, List.all_eq_true] at hb
  obtain ⟨hg, ha, hr⟩ := hb
  have hok : Dep.okH H = true := by
    rw [Dep.okH_iff]
    refine ⟨by omega, fun x hx => .inl (of_decide_eq_true (ha x hx)), fun i hi hc => ?_⟩
    obtain ⟨k, hk, e⟩ := hc
    obtain ⟨m, rfl⟩ : ∃ m, k = m + 1 := ⟨k - 1, by omega⟩
    have hs : Dep.stN H i = none := by
      cases hst : Dep.stN H i with
      | none => rfl
      | some j =>
        have h3 := (Dep.stN_lt hst).2.2
        have := of_decide_eq_true (ha _ (List.mem_of_getElem? h3))
        omega
    have e' : (Dep.stN H i).bind (Dep.itN H m) = some i := e
    rw [hs] at e'
    cases e'
  have hc0 : (Dep.checkH H).2 = 0 := by unfold Dep.okH at hok; exact of_decide_eq_true hok
  have hrl : Dep.relsB G = true := by
    unfold Dep.relsB
    rw [List.all_eq_true]
    intro x hx
    have := of_decide_eq_true (hr x hx)
    rw [this]
    rfl
  unfold Dep.formatH
  rw [if_neg (by omega), if_neg (by omega), if_neg (by rw [hrl]; decide)]
end Go.Proofs.YtmjmidgfdjcbfaaGreatDoor
namespace Go.Proofs.YtmjmidgfdjcbfaaGreatDoor
open Go Go.RowKit Go.Shelf Go.Lib
set_option linter.unusedVariables false

/-- append of one slice to a row of slices of the call's own. -/
theorem wpList_pushC {w : World} {ops : Array Oper} {rest : List Oper} {o : Oper} {a : Act} {Q : Exit → Act → World → Prop} (hgd : o.guard = none) (s x : Operand)
    (ho : o.op = .call { callee := .builtin .append, args := #[s, x], argTypes := #[31, 31] })
    (base : Nat) (v : Value) (n : Nat) (xs : List Value) (p : Value) (hs : a.eval s = v) (hx : a.eval x = .slice (some ⟨w.heap.size, 0, none⟩) 1 1)
    (hown : w.ownsRow base 23 1 v n xs) (hp : p.oneCell' = true) (hn : n ≤ 1000000) (hbase : base ≤ w.heap.size)
    (h : ∀ v' w', Hid (w'.ownsRow base 23 1 v' (n + 1) (xs ++ [p])) → Hid (∀ B W, Below B W w → B ≤ base → Below B W w') → Hid (∀ k, k < w.heap.size → v.ownBlock ≠ some k → w'.heap[k]? = w.heap[k]?) → wpList Tryz.prog ops Q rest (a.put o.dst v') w') :
    wpList Tryz.prog ops Q (o :: rest) a (w.alloc (.cells #[p] 23)) := by
  obtain ⟨i0, hi, hz0, hz1, hz2⟩ := info_parts' Tryz.infoStrs
  refine wpList_append_own _ hgd s x 31 ho base 23 i0 _ 1 24 Tryz.underlying31 hi hz0 hz1 hz2 rfl (by decide) v n _ hs (hown.alloc _) _ 1 1 [p] hx rfl (news_at w [p] 23) (by intro u hu; rw [List.mem_singleton] at hu; rw [hu]; exact hp) (by unfold maxLen; omega) (by omega) (by simp; omega) ?_
  intro v' w' h1 h2 _
  have hlow := own_low hown
  refine h v' w' (Lib.hid h1) (Lib.hid fun B W hb hB => ?_) (Lib.hid fun k hk hne => ?_)
  · exact (hb.alloc (Nat.le_trans hB hbase) _).grown h2 (by simp; omega) (fun k e => Nat.le_trans hB (hlow k e).1)
  · rw [h2.block k (by simp; omega) (fun e => hne e.symm)]
    exact heap_alloc_old w _ hk

/-- Between two tokens: the corpus in its box, its attribute, its text, the tokens so far. -/
structure LI (N n : Nat) (vh vr : Value) (w : World) (k : Nat) (v : Value) (xs : List Value) (wr : World) : Prop where
  box : wr.heap[N + 2]? = some (.cells #[.slice (some ⟨N, 0, none⟩) 1 1, v, .slice (some ⟨N + 1, 0, none⟩) 1 1, .slice none 0 0, .slice none 0 0, vh, vr] 35 (0, 0))
  own : wr.ownsRow (N + 3) 23 1 v k xs
  toks : ∀ p ∈ xs, ∃ b, p = .slice (some ⟨b, 0, none⟩) 1 1 ∧ wr.heap[b]? = some (.cells #[.string ⟨#[]⟩] 9 (0, 0))
  a : wr.heap[N]? = some (.cells #[.string ⟨wordB.toArray⟩, .bool false] 25 (0, 0))
  x : wr.heap[N + 1]? = some (.cells #[.string ⟨#[116]⟩, .int .i64 0, .int .i64 (n : Int), .slice none 0 0] 29 (0, 0))
  sz : N + 3 ≤ wr.heap.size
  be : Below N w wr
theorem LI.push {N n k : Nat} {vh vr v v' : Value} {xs : List Value} {w wr w2 : World} (h : LI N n vh vr w k v xs wr)
    (o2 : w2.ownsRow (N + 3) 23 1 v' (k + 1) (xs ++ [.slice (some ⟨wr.heap.size, 0, none⟩) 1 1]))
    (hB2 : ∀ B W, Below B W (wr.alloc (.cells #[.string ⟨#[]⟩] 9)) → B ≤ N + 3 → Below B W w2)
    (hK : ∀ j, j < (wr.alloc (.cells #[.string ⟨#[]⟩] 9)).heap.size → v.ownBlock ≠ some j → w2.heap[j]? = (wr.alloc (.cells #[.string ⟨#[]⟩] 9)).heap[j]?) :
    LI N n vh vr w (k + 1) v' (xs ++ [.slice (some ⟨wr.heap.size, 0, none⟩) 1 1]) (w2.setCell ⟨N + 2, 1, none⟩ v') := by
  have hlow := own_low h.own
  have hz := h.sz
  have kept : ∀ j, j < wr.heap.size → v.ownBlock ≠ some j → w2.heap[j]? = wr.heap[j]? := fun j hj hne => by
    rw [hK j (by simp; omega) hne]
    exact heap_alloc_old wr _ hj
  have klow : ∀ j, j < N + 3 → w2.heap[j]? = wr.heap[j]? := fun j hj => kept j (by omega) (fun e => by have := (hlow j e).1; omega)
  have hset : ∀ j, j ≠ N + 2 → (w2.setCell ⟨N + 2, 1, none⟩ v').heap[j]? = w2.heap[j]? := fun j hj => Below.heap_setCell w2 ⟨N + 2, 1, none⟩ v' j hj
  have hbox2 := (klow (N + 2) (by omega)).trans h.box
  have hb1 : Below N w w2 := hB2 N w (h.be.alloc (by omega) _) (by omega)
  have hsz2 : N + 3 ≤ w2.heap.size := by
    have h1 := (hB2 0 wr ((Below.refl 0 wr).alloc (Nat.zero_le _) _) (Nat.zero_le _)).size
    omega
  refine ⟨?_, ?_, ?_, ?_, ?_, ?_, ?_⟩
  · simp [World.setCell, Array.getElem?_modify, hbox2]
  · exact own_below o2 fun j hj => hset j (fun e => by have := (own_low o2 j hj).1; omega)
  · intro p hp
    rcases List.mem_append.1 hp with hp | hp
    · obtain ⟨b, rfl, hb⟩ := h.toks p hp
      have hlt := (Array.getElem?_eq_some_iff.1 hb).1
      refine ⟨b, rfl, ?_⟩
      rw [hset b (fun e => by rw [e, h.box] at hb; cases hb), kept b hlt (fun e => by
        obtain ⟨_, cs, hc⟩ := Dep.own_cells h.own b e
        rw [hb] at hc
        cases hc)]
      exact hb
    · rw [List.mem_singleton] at hp
      refine ⟨wr.heap.size, hp, ?_⟩
      rw [hset _ (by omega), hK _ (by simp) (fun e => by have := (hlow _ e).2; omega)]
      exact block_new wr _
  · rw [hset N (by omega), klow N (by omega)]; exact h.a
  · rw [hset (N + 1) (by omega), klow (N + 1) (by omega)]; exact h.x
  · simp [World.setCell]; exact hsz2
  · exact hb1.setCell (p := ⟨N + 2, 1, none⟩) (by show N ≤ N + 2; omega) _
/-- The box behind an append. -/
theorem LI.boxAt {N n k : Nat} {vh vr v : Value} {xs : List Value} {w wr w2 : World} (h : LI N n vh vr w k v xs wr)
    (hK : ∀ j, j < (wr.alloc (.cells #[.string ⟨#[]⟩] 9)).heap.size → v.ownBlock ≠ some j → w2.heap[j]? = (wr.alloc (.cells #[.string ⟨#[]⟩] 9)).heap[j]?) :
    w2.heap[N + 2]? = some (.cells #[.slice (some ⟨N, 0, none⟩) 1 1, v, .slice (some ⟨N + 1, 0, none⟩) 1 1, .slice none 0 0, .slice none 0 0, vh, vr] 35 (0, 0)) := by
  have hz := h.sz
  have hlow := own_low h.own
  rw [hK (N + 2) (by simp; omega) (fun e => by have := (hlow _ e).1; omega), heap_alloc_old wr _ (by omega)]
  exact h.box
/-- Ahead of the first token. -/
theorem LI.start {n : Nat} {vh vr : Value} {w w3 : World}
    (h3 : ((w.alloc (.cells #[.string ⟨#[119, 111, 114, 100]⟩, .bool false] 25)).alloc (.cells #[.string ⟨#[116]⟩, .int .i64 0, .int .i64 (n : Int), .slice none 0 0] 29)).alloc
      (.cells #[.slice (some ⟨w.heap.size, 0, none⟩) 1 1, .slice none 0 0, .slice (some ⟨w.heap.size + 1, 0, none⟩) 1 1, .slice none 0 0, .slice none 0 0, vh, vr] 35) = w3) :
    LI w.heap.size n vh vr w 0 (.slice none 0 0) [] w3 := by
  obtain ⟨w1, h1⟩ : ∃ w1, w.alloc (.cells #[.string ⟨#[119, 111, 114, 100]⟩, .bool false] 25) = w1 := ⟨_, rfl⟩
  obtain ⟨w2, h2⟩ : ∃ w2, w1.alloc (.cells #[.string ⟨#[116]⟩, .int .i64 0, .int .i64 (n : Int), .slice none 0 0] 29) = w2 := ⟨_, rfl⟩
  rw [h1, h2] at h3
  have z1 : w1.heap.size = w.heap.size + 1 := by rw [← h1]; simp
  have z2 : w2.heap.size = w.heap.size + 2 := by rw [← h2]; simp [z1]
  have z3 : w3.heap.size = w.heap.size + 3 := by rw [← h3]; simp [z2]
  refine ⟨?_, World.ownsRow_nil _ _ _ 1, fun p hp => (by cases hp), ?_, ?_, by omega, ?_⟩
  · rw [← z2, ← h3]; exact block_new w2 _
  · rw [← h3, heap_alloc_old w2 _ (by omega), ← h2, heap_alloc_old w1 _ (by omega), ← h1]; exact block_new w _
  · rw [← h3, heap_alloc_old w2 _ (by omega), ← h2, ← z1]; exact block_new w1 _
  · rw [← h3, ← h2, ← h1]
    exact (((Below.refl _ w).alloc (Nat.le_refl _) _).alloc (by simp) _).alloc (by simp; omega) _
/-- The corpus in memory reads as corH. -/
theorem LI.cor {N n : Nat} {vh vr v : Value} {xs : List Value} {w wr : World} {H : List Int} {G : Fs} (h : LI N n vh vr w n v xs wr) (hv : Rows 1 EInt wr vh H) (hr : Rows 1 EStr wr vr G) :
    CorAt wr ⟨.slice (some ⟨N, 0, none⟩) 1 1, v, .slice (some ⟨N + 1, 0, none⟩) 1 1, .slice none 0 0, .slice none 0 0, vh, vr⟩ (corH n H G) := by
  have hz := h.sz
  refine ⟨⟨_, 1, rfl, Nat.le_refl _, fun _ => ⟨N, 0, rfl, by omega, fun j x hx => ?_⟩⟩, ?_, ⟨_, 1, rfl, Nat.le_refl _, fun _ => ⟨N + 1, 0, rfl, by omega, fun j x hx => ?_⟩⟩, Rows.nil wr, Rows.nil wr, hv, hr⟩
  · obtain ⟨rfl, rfl⟩ : j = 0 ∧ x = (wordB, false) := by
      cases j with
      | zero => exact ⟨rfl, by simpa [corH] using hx.symm⟩
      | succ j => simp [corH] at hx
    refine ⟨[.string ⟨wordB.toArray⟩, .bool false], rfl, rfl, fun i u hu => ?_⟩
    rw [Nat.zero_mul, Nat.zero_add]
    exact cell_of (i := i) h.a (by simpa using hu)
  · have hl : xs.length = n := by rw [h.own.1, Nat.mul_one]
    rcases h.own.2 with ⟨rfl, h0⟩ | ⟨g, cap, cur, hvv, hb, hh, hc, _⟩
    · subst h0
      exact Rows.nil wr
    · subst hvv
      have hlen : (corH n H G).toks.length = n := by simp [corH]
      refine ⟨_, cap, by rw [hlen], by rw [hlen]; exact hc, fun _ => ⟨g, 0, rfl, (Array.getElem?_eq_some_iff.1 hh).1, fun j x hx => ?_⟩⟩
      have hj : j < n := by have := (List.getElem?_eq_some_iff.1 hx).1; rw [hlen] at this; exact this
      have hxe : x = [[]] := by
        have hx' : (List.replicate n ([[]] : Fs))[j]? = some x := hx
        rw [List.getElem?_replicate, if_pos hj] at hx'
        exact (Option.some.inj hx').symm
      subst hxe
      obtain ⟨p, hp⟩ : ∃ p, xs[j]? = some p := ⟨_, List.getElem?_eq_getElem (by omega)⟩
      obtain ⟨b, rfl, hbb⟩ := h.toks p (List.mem_of_getElem? hp)
      refine ⟨[.slice (some ⟨b, 0, none⟩) 1 1], rfl, ⟨_, rfl, ⟨_, 1, rfl, Nat.le_refl _, fun _ => ⟨b, 0, rfl, (Array.getElem?_eq_some_iff.1 hbb).1, fun i y hy => ?_⟩⟩⟩, fun i u hu => ?_⟩
      · obtain ⟨rfl, rfl⟩ : i = 0 ∧ y = [] := by
          cases i with
          | zero => exact ⟨rfl, by simpa using hy.symm⟩
          | succ i => simp at hy
        refine ⟨[.string ⟨#[]⟩], rfl, rfl, fun i u hu => ?_⟩
        rw [Nat.zero_mul, Nat.zero_add]
        exact cell_of (i := i) hbb (by simpa using hu)
      · obtain ⟨rfl, rfl⟩ : i = 0 ∧ u = .slice (some ⟨b, 0, none⟩) 1 1 := by
          cases i with
          | zero => exact ⟨rfl, by simpa using hu.symm⟩
          | succ i => simp at hu
        rw [Nat.zero_add, Nat.mul_one, Nat.add_zero]
        have := h.own.cellAt j (by omega)
        rw [this]
        exact hp
  · obtain ⟨rfl, rfl⟩ : j = 0 ∧ x = ⟨[116], 0, n, []⟩ := by
      cases j with
      | zero => exact ⟨rfl, by simpa [corH] using hx.symm⟩
      | succ j => simp [corH] at hx
    refine ⟨[.string ⟨#[116]⟩, .int .i64 0, .int .i64 (n : Int), .slice none 0 0], rfl, ⟨_, rfl, Rows.nil wr⟩, fun i u hu => ?_⟩
    rw [Nat.zero_mul, Nat.zero_add]
    exact cell_of (i := i) h.x (by simpa using hu)
theorem fits_cor {n : Nat} {H : List Int} {G : Fs} (h4 : n ≤ 4096) (hl : H.length ≤ maxLen) (hl2 : G.length ≤ maxLen) (hz : ∀ f ∈ G, f.length ≤ maxLen) : Fits (corH n H G) where
  a := by show 1 ≤ 1000000; decide
  a2 := fun x hx => by
    have : x = (wordB, false) := by simpa [corH] using hx
    subst this
    decide
  t := by show (List.replicate n _).length ≤ _; rw [List.length_replicate]; omega
  t2 := fun x hx => by
    have : x = [[]] := (List.mem_replicate.1 hx).2
    subst this
    exact ⟨by decide, fun v hv => by rw [List.mem_singleton] at hv; subst hv; decide⟩
  x := by show 1 ≤ 1000000; decide
  x2 := fun y hy => by
    have : y = ⟨[116], 0, n, []⟩ := by simpa [corH] using hy
    subst this
    exact ⟨by show 1 ≤ maxLen; decide, by show 0 ≤ maxLen; decide, fun q hq => by cases hq⟩
  r := by show 0 ≤ 1000000; decide
  r2 := fun y hy => by cases hy
  n := by show 0 ≤ 1000000; decide
  n2 := fun y hy => by cases hy
  h := hl
  l := hl2
  l2 := hz
end Go.Proofs.YtmjmidgfdjcbfaaGreatDoor
