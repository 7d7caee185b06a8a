/-
  (IoO beside MeO.) ARGUMENTS of the laws about spans, opened: numbers, truth values, spans, lists of spans.
-/
import Derived.Test.YtifdencdbpdbfaaDoorRows
import Derived.Test.YtifdencdbpdbfaaDoorIaR
import Derived.Test.YtifdencdbpdbfaaDoorMeO
import Derived.ProofKit
import Derived.Carry
import Derived.OpenShut
import Derived.ChangeSlices
import Derived.Deep.Slices
namespace Go.Proofs.YtifdencdbpdbfaaDoor
open Go.RowKit Go.Shelf Go.Lib Go.ChangeShapes Go.WideShapes Go.ChangeAt Go.Deep
set_option maxRecDepth 100000

theorem plain_addr {w : World} {a : Addr} {v : Value} (h : w.cell? a = some v) : a = ⟨a.block, a.off, none⟩ := plain_cell h

section
variable {H : Type} {enc : TypeId × Value → H}
theorem open_bl {W : World} {r : Reach} {b0 : Nat} {v : Value} {d : DataW H} {p : List MemPlace} (hv : Value.okWide Tryd.prog W r b0 4 v) (h : DataW.Trod enc Tryd.prog W 0 (fun _ => true) true 4 v d p) : ∃ b : Bool, v = .bool b := by
  obtain ⟨b, rfl, _⟩ := open_bool Tryd.underlying4 hv h
  exact ⟨b, rfl⟩
def okSp (x : Sp) : Prop := (-9223372036854775808 ≤ x.1 ∧ x.1 ≤ 9223372036854775807) ∧ (-9223372036854775808 ≤ x.2 ∧ x.2 ≤ 9223372036854775807)
set_option maxRecDepth 100000 in
theorem struct_sp {W : World} {sp : Nat → Bool} {held : Bool} {fuel : Nat} {cs : List Value} {x : DataW H × List MemPlace} (h : DataW.trod enc Tryd.prog W 0 sp held fuel 24 cs = some x) : ∃ c : Sp, okSp c ∧ cs = spV c := by
  obtain ⟨xs, n, _, _, hlen, hxl, hf⟩ := DataW.trod_struct Tryd.underlying24 h
  have h3 : Tryd.prog.cellsOf 24 = 2 := by kernel_rfl
  have c1 : Tryd.prog.cellsOf 3 = 1 := by kernel_rfl
  rw [h3] at hlen
  match cs, hlen with
  | [a, b], _ =>
    match xs, hxl with
    | [y0, y1], _ =>
      have e0 : DataW.trod enc Tryd.prog W 0 sp held n 3 (([a, b].drop 0).take (Tryd.prog.cellsOf 3)) = some y0 := hf 0 _ rfl
      have e1 : DataW.trod enc Tryd.prog W 0 sp held n 3 (([a, b].drop 1).take (Tryd.prog.cellsOf 3)) = some y1 := hf 1 _ rfl
      rw [c1] at e0 e1
      obtain ⟨k0, hk0, _, w0⟩ := DataW.trod_int Tryd.underlying3 (x := y0) e0
      obtain ⟨k1, hk1, _, w1⟩ := DataW.trod_int Tryd.underlying3 (x := y1) e1
      simp [Lit.wf, IntKind.min, IntKind.max, IntKind.signed, IntKind.bits] at w0 w1
      simp only [List.drop_zero, List.take_succ_cons, List.take_zero, List.cons.injEq, and_true, List.drop_succ_cons] at hk0 hk1
      subst hk0 hk1
      exact ⟨(k0, k1), ⟨w0, w1⟩, rfl⟩
set_option maxRecDepth 100000 in
theorem open_sp {W : World} {r : Reach} {b0 : Nat} {v : Value} {d : DataW H} {p : List MemPlace} (hv : Value.okWide Tryd.prog W r b0 24 v) (h : DataW.Trod enc Tryd.prog W 0 (fun _ => true) true 24 v d p) :
    ∃ c : Sp, v = .agg #[.int .i64 c.1, .int .i64 c.2] ∧ okSp c := by
  obtain ⟨cs, rfl, hsz⟩ := okWide_struct Tryd.underlying24 hv
  obtain ⟨fuel, hf⟩ := h
  obtain ⟨c, hc, he⟩ := struct_sp hf
  refine ⟨c, ?_, hc⟩
  have he2 : cs.toList = spV c := he
  have : cs = #[.int .i64 c.1, .int .i64 c.2] := by
    apply Array.ext'
    exact he2
  rw [this]
set_option maxRecDepth 100000 in
theorem open_sps {W : World} {r : Reach} {b0 : Nat} {v : Value} {d : DataW H} {p : List MemPlace} (hv : Value.okWide Tryd.prog W r b0 22 v) (h : DataW.Trod enc Tryd.prog W 0 (fun _ => true) true 22 v d p) :
    ∃ L : List Sp, Rows 2 ESp W v L ∧ L.length ≤ maxLen ∧ ∀ x ∈ L, okSp x := by
  obtain ⟨a, len, cap, rfl⟩ := okWide_slice Tryd.underlying22 hv
  obtain ⟨fuel, hf⟩ := h
  have h3 : Tryd.prog.cellsOf 24 = 2 := by kernel_rfl
  rcases open_slice Tryd.underlying22 hf with ⟨hn, _⟩ | ⟨ad, len', cap', m, n, D, Pl, hcs, _, hl, hm, hmm, _, hi⟩
  · simp only [Value.cells, List.cons.injEq, and_true] at hn
    exact ⟨[], by rw [hn]; exact Rows.nil W, Nat.zero_le _, by simp⟩
  · simp only [Value.cells, List.cons.injEq, and_true] at hcs
    simp only [if_true] at hmm
    have hone : ∀ i, i < len' → ∃ c : Sp, okSp c ∧ ∀ k, ∀ hk : k < (spV c).length, W.cell? ((ad.add (i * 2)).add k) = some (spV c)[k] := by
      intro i hil
      obtain ⟨cs', h1, h2⟩ := hi i (by omega)
      obtain ⟨c, hc, he⟩ := struct_sp h2
      rw [h3] at h1
      obtain ⟨_, hl3, hat⟩ := World.cells?_some h1
      subst he
      exact ⟨c, hc, fun k hk => (hat k (by rw [spV_len] at hk; exact hk)).trans (List.getElem?_eq_getElem hk)⟩
    have hch : ∀ k, k ≤ len' → ∃ cs : List Sp, cs.length = k ∧ ∀ (i : Nat) (hi : i < cs.length), okSp cs[i] ∧ ∀ k, ∀ hk : k < (spV cs[i]).length, W.cell? ((ad.add (i * 2)).add k) = some (spV cs[i])[k] := by
      intro k
      induction k with
      | zero => exact fun _ => ⟨[], rfl, fun i h => absurd h (by simp)⟩
      | succ k ih =>
        intro hk
        obtain ⟨cs, hcl, hall⟩ := ih (by omega)
        obtain ⟨c, hc⟩ := hone k (by omega)
        refine ⟨cs ++ [c], by simp [hcl], fun i hi => ?_⟩
        by_cases hik : i < cs.length
        · have e : (cs ++ [c])[i] = cs[i] := List.getElem_append_left hik
          rw [e]
          exact hall i hik
        · have hik2 : i = k := by simp at hi; omega
          subst hik2
          have : (cs ++ [c])[i] = c := by
            rw [List.getElem_append_right (by omega)]
            simp [hcl]
          rw [this]
          exact hc
    obtain ⟨cs, hcl, hall⟩ := hch len' (Nat.le_refl _)
    refine ⟨cs, ⟨some ad, cap', by rw [hcl]; exact hcs, by omega, fun h => ?_⟩, by omega, fun x hx => ?_⟩
    · have h0 := (hall 0 h).2 0 (by rw [spV_len]; omega)
      rw [Nat.zero_mul] at h0
      have hz : ∀ x : Addr, x.add 0 = x := fun x => by simp [Addr.add]
      rw [hz, hz] at h0
      have e := plain_cell h0
      have hlt := lt_of_cell h0
      obtain ⟨bk, of, sp⟩ := ad
      have hsp : sp = none := congrArg Addr.spot e
      subst hsp
      refine ⟨bk, of, rfl, hlt, fun k p hk => ?_⟩
      obtain ⟨hkl, rfl⟩ := List.getElem?_eq_some_iff.1 hk
      refine ⟨spV cs[k], rfl, rfl, fun i u hu => ?_⟩
      obtain ⟨hil, rfl⟩ := List.getElem?_eq_some_iff.1 hu
      have := (hall k hkl).2 i hil
      simp only [add_plain] at this
      exact this
    · obtain ⟨i, hi2, rfl⟩ := List.getElem_of_mem hx
      exact (hall i hi2).1
end
end Go.Proofs.YtifdencdbpdbfaaDoor
