/-
  A BRIDGE, OF NO PROGRAM: in a round of a loop over a function a region of operations that holds no defer statement runs as it runs outside a round. So the plain laws on regions that draw their order (one walk in the order of the text, with a forced tail) serve in a round.
-/
import Derived.StillTailTactics
import Derived.OrdersIn
import Derived.RangeFuncNested
import Derived.Shelf.RegionOpen
import Derived.Deep.RegionHeld
namespace Go.Proofs.Yteennnhinfnahaa
open Go Go.RowKit

theorem rows_wide {l n : Nat} {P : Program} {row : String} {args : Array Value} {w : World} {R : Value → World → Prop} (h : Rows P row args w R) : RowsIn (Fence.wide.inRound l) n P row args w R :=
  fun c cs _ => let ⟨v, w', r, s⟩ := h c cs; ⟨v, w', r, stepsIn_wide.2 s⟩

theorem wpOp_round {P : Program} {ops : Array Oper} {Q : Exit → Act → World → Prop} {l n i : Nat} {K : Act → World → Prop} {a : Act} {w : World}
    (hd : ∀ (i : Nat) (o : Oper) c, ops[i]? = some o → o.op ≠ .defer c) (hL : LetsOut Q → False) (h : wpOp P ops Q i K a w) : wpOpIn (Fence.wide.inRound l) n P ops Q i K a w := by
  unfold wpOp at h
  unfold wpOpIn
  cases ho : ops[i]? with
  | none => simpa [ho] using h
  | some o =>
    simp only [ho] at h ⊢
    split
    · rename_i hw
      simp only [hw, if_true] at h
      rcases h with h | ⟨_, h⟩
      · refine ⟨fun _ _ => trivial, ?_⟩
        rw [Oper.semAt_eq _ _ _ (fun c => hd i o c ho)]
        unfold Oper.wp at h
        generalize (execOp a.eval o).run P w = r at *
        cases r with
        | ok x w' =>
          cases x <;> simp only [Oper.upon, Oper.uponIn] at h ⊢
          case value => exact h
          case skip => exact h
          case defer => exact h
          case enter f args => exact ⟨fun e => by simp [Fence.inRound, Fence.wide] at e, CallsIn.inRound l (callsIn_wide.2 h)⟩
          case row row args => exact ⟨fun e => by simp [Fence.inRound, Fence.wide] at e, rows_wide h⟩
        | halt x w' =>
          cases x <;> simp only [Oper.upon, Oper.uponIn] at h ⊢
          case panic => exact h
      · exact (hL h).elim
    · rename_i hw
      simp only [hw, Bool.false_eq_true, if_false] at h
      exact ⟨fun _ _ => trivial, h⟩

theorem wpAny_round {P : Program} {md : Region.Mode} {ops : Array Oper} {Q : Exit → Act → World → Prop} {l n : Nat}
    (hd : ∀ (i : Nat) (o : Oper) c, ops[i]? = some o → o.op ≠ .defer c) (hL : LetsOut Q → False) : ∀ (fuel : Nat) (listed : Array Bool) (a : Act) (w : World),
      wpAny P md ops Q fuel listed a w → wpAnyIn (Fence.wide.inRound l) n P md ops Q fuel listed a w
  | 0, _, _, _, h => h
  | fuel + 1, _, _, _, h => ⟨h.1, fun i hi => wpOp_round hd hL (wpOp_mono (fun a' w' h' => wpAny_round hd hL fuel _ a' w' h') (h.2 i hi))⟩

/-- ONE WALK IN THE ORDER OF THE TEXT, with a tail whose order is forced, in a round. -/
theorem wpIn_round_tail {P : Program} {id : Nat} {Q : Exit → Act → World → Prop} {a : Act} {w : World} {ls : List Oper} {l m : Nat} (n : Nat) (hm : P.follows .mixedOrders = true) (hB : Region.lexTailB .any ls.toArray n = true)
    (hd : ls.all (fun o => match o.op with | .defer _ => false | _ => true) = true) (hL : LetsOut Q → False)
    (h : wpStill P ls.toArray { w with drawn := w.drawn + 1 } (fun a' => wpList P ls.toArray Q (ls.drop n) a' { w with drawn := w.drawn + 1 }) (ls.take n) a) : (Code.region id ls.toArray true).wpIn (Fence.wide.inRound l) m P Q a w := by
  refine wpIn_region_any hm (wpAny_round ?_ hL _ _ _ _ ?_)
  · intro i o c ho e
    have hmem : o ∈ ls := by
      have h1 : ls[i]? = some o := by simpa using ho
      exact List.mem_of_getElem? h1
    have := List.all_eq_true.1 hd o hmem
    rw [e] at this
    simp at this
  · simp only [Region.lexTailB, Bool.and_eq_true, decide_eq_true_eq] at hB
    obtain ⟨⟨⟨⟨hsel, hn⟩, hs⟩, hc⟩, hlex⟩ := hB
    have hn' : n < ls.length := by simpa using hn
    have htl : (ls.take n).length = n := by simp; omega
    have hdl : (ls.drop n).length = ls.toArray.size - n := by simp
    have inv0 : HeadInv .any ls.toArray n (Array.replicate ls.toArray.size false) :=
      ⟨by simp, fun j oj _ hl => (by rw [getD_replicate_false] at hl; cases hl), fun t _ ht => getD_in (by simpa using ht) (getD_replicate_false _ _)⟩
    have H := wpAnyL_lex (md := .any) (g := ls.toArray.size - n) hsel hs hc hn (ls.take n) 0 _ a (fun j hj => by
      have hj' : j < n := by rw [htl] at hj; exact hj
      simp [hj']) (by simpa using htl) inv0 (by rw [htl]; exact hlex) h
    have key := wpAny_of_head (Q' := Q) (g := ls.toArray.size - n) (fun listed a' hL => by
      have k2 := wpAny_of_seq (md := .any) (Q' := Q) (ls.drop n) n listed a' { w with drawn := w.drawn + 1 } (fun j => by simp [List.getElem?_drop]) (by rw [hdl]; exact hL.1) hL.2
      rwa [hdl] at k2) _ _ _ H
    rw [htl, show n + (ls.toArray.size - n) = ls.toArray.size by omega] at key
    exact key
/-- A region in a round, its loads taken first: whoever reads what nobody in the region writes may be taken first. -/
theorem wpIn_round_held {P : Program} {id : Nat} {Q : Exit → Act → World → Prop} {a : Act} {w : World} {ls : List Oper} {l m : Nat} (S : World → Prop) (hm : P.follows .mixedOrders = true)
    (hd : ls.all (fun o => match o.op with | .defer _ => false | _ => true) = true) (hL : LetsOut Q → False)
    (h : wpAnyH P .any ls.toArray Q S ls.toArray.size (Array.replicate ls.toArray.size false) a w.drew) : (Code.region id ls.toArray true).wpIn (Fence.wide.inRound l) m P Q a w := by
  refine wpIn_region_any hm (wpAny_round ?_ hL _ _ _ _ (wpAny_of_held _ _ _ _ h))
  intro i o c ho e
  have hmem : o ∈ ls := by
    have h1 : ls[i]? = some o := by simpa using ho
    exact List.mem_of_getElem? h1
  have := List.all_eq_true.1 hd o hmem
  rw [e] at this
  simp at this
end Go.Proofs.Yteennnhinfnahaa
