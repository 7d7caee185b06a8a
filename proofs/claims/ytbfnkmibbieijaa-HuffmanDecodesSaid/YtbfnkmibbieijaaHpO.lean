/-
  ARGUMENTS of the law HuffmanDecodes, opened: bytes with two numbers.
-/
import Derived.Test.YtbfnkmibbieijaaHoO
namespace Go.Proofs.Ytbfnkmibbieijaa
open Go.RowKit Go.Shelf Go.Lib Go.ChangeShapes Go.WideShapes Go.ChangeAt Go.Deep
set_option maxRecDepth 100000
set_option linter.unusedVariables false

section
variable {H : Type} {enc : TypeId × Value → H}
theorem trod_bytes {W : World} {fuel : Nat} {cs : List Value} {x : DataW H × List MemPlace} (hf : DataW.trod enc Try.prog W 0 (fun _ => true) true fuel 23 cs = some x) : ∃ v, cs = [v] ∧ ∃ L : List UInt8, Sees W W.heap.size v L ∧ L.length ≤ maxLen := by
  rcases open_ints Try.underlying23 Try.underlying5 (by kernel_rfl) hf with ⟨hn, _⟩ | ⟨ad, len', cap', zs, hcs, _, hl, hm, hzl, _, hcell, hwf⟩
  · exact ⟨_, hn, [], Sees.nil _ _, Nat.zero_le _⟩
  · refine ⟨_, hcs, ?_⟩
    simp only [if_true] at hzl
    have hlen : ((zs.take len').map fun n => UInt8.ofNat n.toNat).length = len' := by simp; omega
    refine ⟨(zs.take len').map fun n => UInt8.ofNat n.toNat, .inr ⟨ad, cap', by rw [hlen], by rw [hlen]; exact hl, fun h => ?_, fun j hj => ?_⟩, by rw [hlen]; omega⟩
    · rw [hlen] at h
      have h0 := hcell 0 (by omega)
      have h1 : ad.add 0 = ad := by simp [Addr.add]
      rw [h1] at h0
      exact lt_of_cell h0
    · rw [hlen] at hj
      have h0 := hcell j (by omega)
      have hj2 : j < zs.length := by omega
      have hw := hwf (zs[j]'hj2) (List.getElem_mem hj2)
      rw [h0]
      simp [Lit.wf, IntKind.min, IntKind.max, IntKind.signed, IntKind.bits] at hw
      simp [List.getD, hj2]
      omega
theorem struct_bits {W : World} {fuel : Nat} {cs : List Value} {x : DataW H × List MemPlace} (h : DataW.trod enc Try.prog W 0 (fun _ => true) true fuel 50 cs = some x) :
    ∃ (b : Value) (L : List UInt8) (k c : Int), cs = [b, .int .i64 k, .int .i64 c] ∧ Sees W W.heap.size b L ∧ L.length ≤ maxLen ∧ (-9223372036854775808 ≤ k ∧ k ≤ 9223372036854775807) ∧ (-9223372036854775808 ≤ c ∧ c ≤ 9223372036854775807) := by
  obtain ⟨xs, n, _, _, hlen, hxl, hf⟩ := DataW.trod_struct Try.underlying50 h
  have h3 : Try.prog.cellsOf 50 = 3 := by kernel_rfl
  have c1 : Try.prog.cellsOf 3 = 1 := by kernel_rfl
  have c0 : Try.prog.cellsOf 23 = 1 := by kernel_rfl
  rw [h3] at hlen
  match cs, hlen with
  | [a, b, c], _ =>
    match xs, hxl with
    | [y0, y1, y2], _ =>
      have e0 : DataW.trod enc Try.prog W 0 (fun _ => true) true n 23 (([a, b, c].drop 0).take (Try.prog.cellsOf 23)) = some y0 := hf 0 _ rfl
      have e1 : DataW.trod enc Try.prog W 0 (fun _ => true) true n 3 (([a, b, c].drop 1).take (Try.prog.cellsOf 3)) = some y1 := hf 1 _ rfl
      have e2 : DataW.trod enc Try.prog W 0 (fun _ => true) true n 3 (([a, b, c].drop 2).take (Try.prog.cellsOf 3)) = some y2 := hf 2 _ rfl
      rw [c0] at e0
      rw [c1] at e1 e2
      obtain ⟨vb, hvb, L, hs, hm⟩ := trod_bytes e0
      obtain ⟨k1, hk1, _, w1⟩ := DataW.trod_int Try.underlying3 (x := y1) e1
      obtain ⟨k2, hk2, _, w2⟩ := DataW.trod_int Try.underlying3 (x := y2) e2
      simp [Lit.wf, IntKind.min, IntKind.max, IntKind.signed, IntKind.bits] at w1 w2
      simp only [List.drop_zero, List.take_succ_cons, List.take_zero, List.cons.injEq, and_true, List.drop_succ_cons] at hvb hk1 hk2
      subst hvb hk1 hk2
      exact ⟨_, L, k1, k2, rfl, hs, hm, w1, w2⟩
theorem open_bits {W : World} {r : Reach} {b0 : Nat} {v : Value} {d : DataW H} {p : List MemPlace} (hv : Value.okWide Try.prog W r b0 50 v) (h : DataW.Trod enc Try.prog W 0 (fun _ => true) true 50 v d p) :
    ∃ (b : Value) (L : List UInt8) (k c : Int), v = .agg #[b, .int .i64 k, .int .i64 c] ∧ Sees W W.heap.size b L ∧ L.length ≤ maxLen ∧ (-9223372036854775808 ≤ k ∧ k ≤ 9223372036854775807) ∧ (-9223372036854775808 ≤ c ∧ c ≤ 9223372036854775807) := by
  obtain ⟨cs, rfl, hsz⟩ := okWide_struct Try.underlying50 hv
  obtain ⟨fuel, hf⟩ := h
  obtain ⟨b, L, k, c, he, hs, hm, h1, h2⟩ := struct_bits hf
  refine ⟨b, L, k, c, ?_, hs, hm, h1, h2⟩
  have he2 : cs.toList = [b, .int .i64 k, .int .i64 c] := he
  have : cs = #[b, .int .i64 k, .int .i64 c] := by
    apply Array.ext'
    exact he2
  rw [this]
end
end Go.Proofs.Ytbfnkmibbieijaa
