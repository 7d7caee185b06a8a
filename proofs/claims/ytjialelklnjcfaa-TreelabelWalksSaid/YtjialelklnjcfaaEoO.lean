/-
  ARGUMENTS of the laws about labels, opened: numbers, lists of numbers, labels, lists of labels.
-/
import Derived.Test.YtjialelklnjcfaaRows
import Derived.Test.YtjialelklnjcfaaEaR
import Derived.ProofKit
import Derived.Carry
import Derived.OpenShut
import Derived.ChangeSlices
import Derived.Deep.Slices
namespace Go.Proofs.Ytjialelklnjcfaa
open Go.RowKit Go.Shelf Go.Lib Go.ChangeShapes Go.WideShapes Go.ChangeAt Go.Deep

theorem Try.laidOut : laidOutB Try.prog = true := by kernel_rfl
theorem lt_of_cell {w : World} {a : Addr} {v : Value} (h : w.cell? a = some v) : a.block < w.heap.size := by
  rcases Nat.lt_or_ge a.block w.heap.size with hlt | hge
  · exact hlt
  · unfold World.cell? at h
    rw [Array.getElem?_eq_none hge] at h
    cases h
theorem plain_addr {w : World} {a : Addr} {v : Value} (h : w.cell? a = some v) : a = ⟨a.block, a.off, none⟩ := plain_cell h

section
variable {H : Type} {enc : TypeId × Value → H}
set_option maxRecDepth 100000 in
theorem open_i64 {W : World} {r : Reach} {b0 : Nat} {v : Value} {d : DataW H} {p : List MemPlace} (hv : Value.okWide Try.prog W r b0 3 v) (h : DataW.Trod enc Try.prog W 0 (fun _ => true) true 3 v d p) :
    ∃ x : Int, v = .int .i64 x ∧ -9223372036854775808 ≤ x ∧ x ≤ 9223372036854775807 := by
  obtain ⟨n, rfl, _, _, hw⟩ := open_int Try.underlying3 hv h
  simp [Lit.wf, IntKind.min, IntKind.max, IntKind.signed, IntKind.bits] at hw
  exact ⟨n, rfl, hw.1, hw.2⟩
set_option maxRecDepth 100000 in
theorem open_rowI {W : World} {r : Reach} {b0 : Nat} {v : Value} {d : DataW H} {p : List MemPlace} (hv : Value.okWide Try.prog W r b0 22 v) (h : DataW.Trod enc Try.prog W 0 (fun _ => true) true 22 v d p) :
    ∃ L : List Int, Rows 1 EInt W v L ∧ L.length ≤ maxLen ∧ ∀ x ∈ L, -9223372036854775808 ≤ x ∧ x ≤ 9223372036854775807 := by
  obtain ⟨a, len, cap, rfl⟩ := okWide_slice Try.underlying22 hv
  obtain ⟨fuel, hf⟩ := h
  rcases open_ints Try.underlying22 Try.underlying3 (by kernel_rfl) hf with ⟨hn, _⟩ | ⟨ad, len', cap', zs, hcs, _, hl, hm, hzl, _, hcell, hwf⟩
  · simp only [Value.cells, List.cons.injEq, and_true] at hn
    rw [hn]
    exact ⟨[], ⟨none, 0, rfl, Nat.le_refl _, fun h => absurd h (by simp)⟩, Nat.zero_le _, by simp⟩
  · simp only [Value.cells, List.cons.injEq, and_true] at hcs
    simp only [if_true] at hzl
    rw [hcs]
    have hlen : (zs.take len').length = len' := by rw [List.length_take]; omega
    refine ⟨zs.take len', ⟨some ad, cap', by rw [hlen], by rw [hlen]; exact hl, fun h => ?_⟩, by rw [hlen]; omega, fun x hx => ?_⟩
    · rw [hlen] at h
      have h0 := hcell 0 (by omega)
      have h1 : ad.add 0 = ad := by simp [Addr.add]
      rw [h1] at h0
      have e := plain_addr h0
      refine ⟨ad.block, ad.off, by rw [← e], lt_of_cell h0, fun j x hx => ⟨[.int .i64 x], rfl, ?_, fun i u hu => ?_⟩⟩
      · rfl
      · have hjl := (List.getElem?_eq_some_iff.1 hx).1
        rw [hlen] at hjl
        have hc := hcell j (by omega)
        rw [List.getElem?_take, if_pos hjl] at hx
        obtain ⟨rfl, rfl⟩ : i = 0 ∧ u = .int .i64 x := by
          cases i with
          | zero => exact ⟨rfl, by simpa using hu.symm⟩
          | succ i => simp at hu
        have hz : zs.getD j 0 = x := by rw [List.getD_eq_getElem?_getD, hx]; rfl
        rw [hz, e] at hc
        have hp : (⟨ad.block, ad.off, none⟩ : Addr).add j = ⟨ad.block, ad.off + j * 1 + 0, none⟩ := by
          rcases Nat.eq_zero_or_pos j with rfl | hj0
          · simp [Addr.add]
          · simp [Addr.add]; omega
        rw [hp] at hc
        exact hc
    · have := hwf x (List.mem_of_mem_take hx)
      simp [Lit.wf, IntKind.min, IntKind.max, IntKind.signed, IntKind.bits] at this
      exact this
def okLb (x : Lb) : Prop := (-9223372036854775808 ≤ x.1 ∧ x.1 ≤ 9223372036854775807) ∧ (-9223372036854775808 ≤ x.2.1 ∧ x.2.1 ≤ 9223372036854775807) ∧ (-9223372036854775808 ≤ x.2.2 ∧ x.2.2 ≤ 9223372036854775807)
set_option maxRecDepth 100000 in
theorem struct_lb {W : World} {sp : Nat → Bool} {held : Bool} {fuel : Nat} {cs : List Value} {x : DataW H × List MemPlace} (h : DataW.trod enc Try.prog W 0 sp held fuel 41 cs = some x) : ∃ c : Lb, okLb c ∧ cs = lbV c := by
  obtain ⟨xs, n, _, _, hlen, hxl, hf⟩ := DataW.trod_struct Try.underlying41 h
  have h3 : Try.prog.cellsOf 41 = 3 := by kernel_rfl
  have c1 : Try.prog.cellsOf 3 = 1 := by kernel_rfl
  rw [h3] at hlen
  match cs, hlen with
  | [a, b, c], _ =>
    match xs, hxl with
    | [y0, y1, y2], _ =>
      have e0 : DataW.trod enc Try.prog W 0 sp held n 3 (([a, b, c].drop 0).take (Try.prog.cellsOf 3)) = some y0 := hf 0 _ rfl
      have e1 : DataW.trod enc Try.prog W 0 sp held n 3 (([a, b, c].drop 1).take (Try.prog.cellsOf 3)) = some y1 := hf 1 _ rfl
      have e2 : DataW.trod enc Try.prog W 0 sp held n 3 (([a, b, c].drop 2).take (Try.prog.cellsOf 3)) = some y2 := hf 2 _ rfl
      rw [c1] at e0 e1 e2
      obtain ⟨k0, hk0, _, w0⟩ := DataW.trod_int Try.underlying3 (x := y0) e0
      obtain ⟨k1, hk1, _, w1⟩ := DataW.trod_int Try.underlying3 (x := y1) e1
      obtain ⟨k2, hk2, _, w2⟩ := DataW.trod_int Try.underlying3 (x := y2) e2
      simp [Lit.wf, IntKind.min, IntKind.max, IntKind.signed, IntKind.bits] at w0 w1 w2
      simp only [List.drop_zero, List.take_succ_cons, List.take_zero, List.cons.injEq, and_true, List.drop_succ_cons] at hk0 hk1 hk2
      subst hk0 hk1 hk2
      exact ⟨(k0, k1, k2), ⟨w0, w1, w2⟩, rfl⟩
set_option maxRecDepth 100000 in
theorem open_lb {W : World} {r : Reach} {b0 : Nat} {v : Value} {d : DataW H} {p : List MemPlace} (hv : Value.okWide Try.prog W r b0 41 v) (h : DataW.Trod enc Try.prog W 0 (fun _ => true) true 41 v d p) :
    ∃ c : Lb, v = .agg #[.int .i64 c.1, .int .i64 c.2.1, .int .i64 c.2.2] ∧ okLb c := by
  obtain ⟨cs, rfl, hsz⟩ := okWide_struct Try.underlying41 hv
  obtain ⟨fuel, hf⟩ := h
  obtain ⟨c, hc, he⟩ := struct_lb hf
  refine ⟨c, ?_, hc⟩
  have he2 : cs.toList = lbV c := he
  have : cs = #[.int .i64 c.1, .int .i64 c.2.1, .int .i64 c.2.2] := by
    apply Array.ext'
    exact he2
  rw [this]
set_option maxRecDepth 100000 in
theorem open_labs {W : World} {r : Reach} {b0 : Nat} {v : Value} {d : DataW H} {p : List MemPlace} (hv : Value.okWide Try.prog W r b0 23 v) (h : DataW.Trod enc Try.prog W 0 (fun _ => true) true 23 v d p) :
    ∃ L : List Lb, Rows 3 ELb W v L ∧ L.length ≤ maxLen ∧ ∀ x ∈ L, okLb x := by
  obtain ⟨a, len, cap, rfl⟩ := okWide_slice Try.underlying23 hv
  obtain ⟨fuel, hf⟩ := h
  have h3 : Try.prog.cellsOf 41 = 3 := by kernel_rfl
  rcases open_slice Try.underlying23 hf with ⟨hn, _⟩ | ⟨ad, len', cap', m, n, D, Pl, hcs, _, hl, hm, hmm, _, hi⟩
  · simp only [Value.cells, List.cons.injEq, and_true] at hn
    exact ⟨[], by rw [hn]; exact Rows.nil W, Nat.zero_le _, by simp⟩
  · simp only [Value.cells, List.cons.injEq, and_true] at hcs
    simp only [if_true] at hmm
    have hone : ∀ i, i < len' → ∃ c : Lb, okLb c ∧ ∀ k, ∀ hk : k < (lbV c).length, W.cell? ((ad.add (i * 3)).add k) = some (lbV c)[k] := by
      intro i hil
      obtain ⟨cs', h1, h2⟩ := hi i (by omega)
      obtain ⟨c, hc, he⟩ := struct_lb h2
      rw [h3] at h1
      obtain ⟨_, hl3, hat⟩ := World.cells?_some h1
      subst he
      exact ⟨c, hc, fun k hk => (hat k (by rw [lbV_len] at hk; exact hk)).trans (List.getElem?_eq_getElem hk)⟩
    have hch : ∀ k, k ≤ len' → ∃ cs : List Lb, cs.length = k ∧ ∀ (i : Nat) (hi : i < cs.length), okLb cs[i] ∧ ∀ k, ∀ hk : k < (lbV cs[i]).length, W.cell? ((ad.add (i * 3)).add k) = some (lbV cs[i])[k] := by
      intro k
      induction k with
      | zero => exact fun _ => ⟨[], rfl, fun i h => absurd h (by simp)⟩
      | succ k ih =>
        intro hk
        obtain ⟨cs, hcl, hall⟩ := ih (by omega)
        obtain ⟨c, hc⟩ := hone k (by omega)
        refine ⟨cs ++ [c], by simp [hcl], fun i hi => ?_⟩
        by_cases hik : i < cs.length
        · have e : (cs ++ [c])[i] = cs[i] := List.getElem_append_left hik
          rw [e]
          exact hall i hik
        · have hik2 : i = k := by simp at hi; omega
          subst hik2
          have : (cs ++ [c])[i] = c := by
            rw [List.getElem_append_right (by omega)]
            simp [hcl]
          rw [this]
          exact hc
    obtain ⟨cs, hcl, hall⟩ := hch len' (Nat.le_refl _)
    refine ⟨cs, ⟨some ad, cap', by rw [hcl]; exact hcs, by omega, fun h => ?_⟩, by omega, fun x hx => ?_⟩
    · have h0 := (hall 0 h).2 0 (by rw [lbV_len]; omega)
      rw [Nat.zero_mul] at h0
      have hz : ∀ x : Addr, x.add 0 = x := fun x => by simp [Addr.add]
      rw [hz, hz] at h0
      have e := plain_cell h0
      have hlt := lt_of_cell h0
      obtain ⟨bk, of, sp⟩ := ad
      have hsp : sp = none := congrArg Addr.spot e
      subst hsp
      refine ⟨bk, of, rfl, hlt, fun k p hk => ?_⟩
      obtain ⟨hkl, rfl⟩ := List.getElem?_eq_some_iff.1 hk
      refine ⟨lbV cs[k], rfl, rfl, fun i u hu => ?_⟩
      obtain ⟨hil, rfl⟩ := List.getElem?_eq_some_iff.1 hu
      have := (hall k hkl).2 i hil
      simp only [add_plain] at this
      exact this
    · obtain ⟨i, hi2, rfl⟩ := List.getElem_of_mem hx
      exact (hall i hi2).1
end
end Go.Proofs.Ytjialelklnjcfaa
