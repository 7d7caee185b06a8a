/-
  ARGUMENTS of the laws of package block, opened: an index with a number; a copy of a list of numbers, one of its elements changed.
-/
import Derived.Test.YtbfnkmibbieijaaHoO
import Derived.Test.YtbfnkmibbieijaaBkS
namespace Go.Proofs.Ytbfnkmibbieijaa
open Go.RowKit Go.Shelf Go.Lib Go.ChangeShapes Go.WideShapes Go.ChangeAt Go.Deep
set_option maxRecDepth 100000
set_option linter.unusedVariables false

section
variable {H : Type} {enc : TypeId × Value → H}
def okGr (x : Int × Int) : Prop := (-9223372036854775808 ≤ x.1 ∧ x.1 ≤ 9223372036854775807) ∧ (-9223372036854775808 ≤ x.2 ∧ x.2 ≤ 9223372036854775807)
theorem struct_gr {W : World} {sp : Nat → Bool} {held : Bool} {fuel : Nat} {cs : List Value} {x : DataW H × List MemPlace} (h : DataW.trod enc Try.prog W 0 sp held fuel 37 cs = some x) : ∃ c : Int × Int, okGr c ∧ cs = [.int .i64 c.1, .int .i64 c.2] := by
  obtain ⟨xs, n, _, _, hlen, hxl, hf⟩ := DataW.trod_struct Try.underlying37 h
  have h3 : Try.prog.cellsOf 37 = 2 := by kernel_rfl
  have c1 : Try.prog.cellsOf 3 = 1 := by kernel_rfl
  rw [h3] at hlen
  match cs, hlen with
  | [a, b], _ =>
    match xs, hxl with
    | [y0, y1], _ =>
      have e0 : DataW.trod enc Try.prog W 0 sp held n 3 (([a, b].drop 0).take (Try.prog.cellsOf 3)) = some y0 := hf 0 _ rfl
      have e1 : DataW.trod enc Try.prog W 0 sp held n 3 (([a, b].drop 1).take (Try.prog.cellsOf 3)) = some y1 := hf 1 _ rfl
      rw [c1] at e0 e1
      obtain ⟨k0, hk0, _, w0⟩ := DataW.trod_int Try.underlying3 (x := y0) e0
      obtain ⟨k1, hk1, _, w1⟩ := DataW.trod_int Try.underlying3 (x := y1) e1
      simp [Lit.wf, IntKind.min, IntKind.max, IntKind.signed, IntKind.bits] at w0 w1
      simp only [List.drop_zero, List.take_succ_cons, List.take_zero, List.cons.injEq, and_true, List.drop_succ_cons] at hk0 hk1
      subst hk0 hk1
      exact ⟨(k0, k1), ⟨w0, w1⟩, rfl⟩
theorem open_gr {W : World} {r : Reach} {b0 : Nat} {v : Value} {d : DataW H} {p : List MemPlace} (hv : Value.okWide Try.prog W r b0 37 v) (h : DataW.Trod enc Try.prog W 0 (fun _ => true) true 37 v d p) :
    ∃ c : Int × Int, v = .agg #[.int .i64 c.1, .int .i64 c.2] ∧ okGr c := by
  obtain ⟨cs, rfl, hsz⟩ := okWide_struct Try.underlying37 hv
  obtain ⟨fuel, hf⟩ := h
  obtain ⟨c, hc, he⟩ := struct_gr hf
  refine ⟨c, ?_, hc⟩
  have he2 : cs.toList = [.int .i64 c.1, .int .i64 c.2] := he
  have : cs = #[.int .i64 c.1, .int .i64 c.2] := by
    apply Array.ext'
    exact he2
  rw [this]
end
def iV (xs : List Int) : List Value := xs.map fun x => Value.int .i64 x
theorem rows_seesC {w : World} {v : Value} {xs : List Int} (h : Rows 1 EInt w v xs) (h0 : 0 < xs.length) : SeesC w w.heap.size v (iV xs) := by
  obtain ⟨A, cap, rfl, hc⟩ := h.form
  obtain ⟨b, o, rfl, hb, hj⟩ := at_int h h0
  refine .inr ⟨⟨b, o, none⟩, cap, by simp [iV], by simpa [iV] using hc, fun _ => hb, fun j u hu => ?_⟩
  unfold iV at hu
  rw [List.getElem?_map] at hu
  cases hx : xs[j]? with
  | none => rw [hx] at hu; cases hu
  | some x =>
    rw [hx] at hu
    simp only [Option.map_some, Option.some.injEq] at hu
    rw [← hu]
    have ha : (⟨b, o, none⟩ : Addr).add j = ⟨b, o + j, none⟩ := by unfold Addr.add; split <;> simp_all
    rw [ha]
    exact hj j x hx
theorem infoIntB : (Try.prog.info? 3).map (fun i => (i.zero, i.size, i.bytes)) = some (some (.int .i64 0), 1, 8) := by kernel_rfl
/-- append of a list of numbers to nil. -/
theorem wpList_copyI {w : World} {ops : Array Oper} {rest : List Oper} {o : Oper} {a : Act} {Q : Exit → Act → World → Prop} (hgd : o.guard = none) (x : Operand)
    (ho : o.op = .call { callee := .builtin .append, args := #[.const (.slice none 0 0), x], argTypes := #[22, 22] })
    (vx : Value) (xs : List Int) (hx : a.eval x = vx) (hn : Rows 1 EInt w vx xs) (h0 : 0 < xs.length) (h63 : xs.length ≤ 100000)
    (h : ∀ v' w', Hid (w'.ownsRow w.heap.size 3 1 v' xs.length (iV xs)) → Hid (Below w.heap.size w w') → wpList Try.prog ops Q rest (a.put o.dst v') w') : wpList Try.prog ops Q (o :: rest) a w := by
  obtain ⟨i0, hi, hz0, hz1, hz2⟩ := info_parts' infoIntB
  have hl : (iV xs).length = xs.length := by simp [iV]
  refine wpList_append_sees hgd (.const (.slice none 0 0)) x 22 ho w.heap.size 3 i0 _ 8 Try.underlying22 hi hz0 hz1 hz2 rfl _ 0 [] rfl (World.ownsRow_nil _ _ _ _) vx _ (iV xs) hx (rows_seesC hn h0) (fun u hu => by
    obtain ⟨y, _, rfl⟩ := List.mem_map.1 hu
    rfl) (by rw [hl]; unfold maxLen; omega) (by rw [hl]; omega) (Nat.le_refl _) ?_
  intro v' w' h1 h2 _
  refine h v' w' (Lib.hid ?_) (Lib.hid ((Below.refl _ _).grown h2 (Nat.le_refl _) (fun k e => by cases e)))
  rw [hl, Nat.zero_add, List.nil_append] at h1
  exact h1
theorem own_setB {w : World} {base g n cap : Nat} {T : TypeId} {F : List Value} (h : w.ownsRow base T 1 (.slice (some ⟨g, 0, none⟩) n cap) n F) {i : Nat} (hi : i < n) (z : Value) :
    (w.setCell ⟨g, i, none⟩ z).ownsRow base T 1 (.slice (some ⟨g, 0, none⟩) n cap) n (F.set i z) := by
  have hn := h.1
  rcases h.2 with ⟨hv, _⟩ | ⟨g', cap', cur, hv, hb, hh, hc, hm, hs, ht⟩
  · cases hv
  · cases hv
    exact ⟨by rw [List.length_set, hn], .inr ⟨g, cap, _, rfl, hb, set_of hh _, hc, hm, by simp [hs], by rw [← ht, Array.toList_setIfInBounds, List.take_set]⟩⟩
theorem own_formB {w : World} {base n : Nat} {T : TypeId} {v : Value} {F : List Value} (h : w.ownsRow base T 1 v n F) (h0 : 0 < n) : ∃ g cap cur, v = .slice (some ⟨g, 0, none⟩) n cap ∧ base ≤ g ∧ w.heap[g]? = some (.cells cur T (0, 0)) ∧ n ≤ cur.size := by
  rcases h.2 with ⟨rfl, rfl⟩ | ⟨g, cap, cur, rfl, hb, hh, hc, _, hs, _⟩
  · omega
  · exact ⟨g, cap, cur, rfl, hb, hh, by omega⟩
theorem iV_set (ns : List Nat) (p g : Nat) : (iV (castB ns)).set p (.int .i64 (g : Int)) = iV (castB (ns.set p g)) := by
  unfold iV castB
  rw [List.map_set, List.map_set]
end Go.Proofs.Ytbfnkmibbieijaa
