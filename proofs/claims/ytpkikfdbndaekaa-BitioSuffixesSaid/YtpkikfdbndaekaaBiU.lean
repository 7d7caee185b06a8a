/-
  ARGUMENTS of the laws about bitio, opened: a call, a slice of calls.
-/
import Derived.Test.YtpkikfdbndaekaaBiO
import Derived.Test.YtpkikfdbndaekaaBiJ
import Derived.Deep.Slices
namespace Go.Proofs.Ytpkikfdbndaekaa
open Go.RowKit Go.Shelf Go.Lib Go.ChangeShapes Go.WideShapes Go.Deep

/-- A slice of calls, as it lies in memory below block B. -/
def SeesK (w : World) (B : Nat) (v : Value) (cs : List CallL) : Prop :=
  ∃ A cap, v = .slice A cs.length cap ∧ (0 < cs.length → ∃ b off, A = some ⟨b, off, none⟩ ∧ b < B ∧ ∀ (k : Nat) (hk : k < cs.length), okCall cs[k] ∧
    w.cell? ⟨b, off + k * 3, none⟩ = some (.int .i64 cs[k].kind) ∧ w.cell? ⟨b, off + k * 3 + 1, none⟩ = some (.int .u64 cs[k].v) ∧ w.cell? ⟨b, off + k * 3 + 2, none⟩ = some (.int .i64 cs[k].n))

section
variable {H : Type} {enc : TypeId × Value → H}
theorem struct_call {W : World} {sp : Nat → Bool} {held : Bool} {fuel : Nat} {cs : List Value} {x : DataW H × List MemPlace} (h : DataW.trod enc Try.prog W 0 sp held fuel 40 cs = some x) :
    ∃ c : CallL, okCall c ∧ cs = [.int .i64 c.kind, .int .u64 c.v, .int .i64 c.n] := by
  obtain ⟨xs, n, _, _, hlen, hxl, hf⟩ := DataW.trod_struct Try.underlying40 h
  have h3 : Try.prog.cellsOf 40 = 3 := by kernel_rfl
  have c1 : Try.prog.cellsOf 3 = 1 := by kernel_rfl
  have c2 : Try.prog.cellsOf 23 = 1 := by kernel_rfl
  rw [h3] at hlen
  match cs, hlen with
  | [a, b, c], _ =>
    match xs, hxl with
    | [y0, y1, y2], _ =>
      have e0 : DataW.trod enc Try.prog W 0 sp held n 3 (([a, b, c].drop 0).take (Try.prog.cellsOf 3)) = some y0 := hf 0 _ rfl
      have e1 : DataW.trod enc Try.prog W 0 sp held n 23 (([a, b, c].drop 1).take (Try.prog.cellsOf 23)) = some y1 := hf 1 _ rfl
      have e2 : DataW.trod enc Try.prog W 0 sp held n 3 (([a, b, c].drop 2).take (Try.prog.cellsOf 3)) = some y2 := hf 2 _ rfl
      rw [c1] at e0 e2
      rw [c2] at e1
      obtain ⟨k0, hk0, _, w0⟩ := DataW.trod_int Try.underlying3 (x := y0) e0
      obtain ⟨k1, hk1, _, w1⟩ := DataW.trod_int Try.underlying23 (x := y1) e1
      obtain ⟨k2, hk2, _, w2⟩ := DataW.trod_int Try.underlying3 (x := y2) e2
      simp [Lit.wf, IntKind.min, IntKind.max, IntKind.signed, IntKind.bits] at w0 w1 w2
      simp only [List.drop_zero, List.take_succ_cons, List.take_zero, List.cons.injEq, and_true, List.drop_succ_cons] at hk0 hk1 hk2
      subst hk0 hk1 hk2
      exact ⟨⟨k0, k1.toNat, k2⟩, ⟨by show _ ≤ k0; omega, by show k0 ≤ _; omega, by show k1.toNat < _; omega, by show _ ≤ k2; omega, by show k2 ≤ _; omega⟩, by
        show _ = [Value.int .i64 k0, Value.int .u64 ((k1.toNat : Nat) : Int), Value.int .i64 k2]
        rw [Int.toNat_of_nonneg w1.1]⟩
theorem open_call {W : World} {r : Reach} {b0 : Nat} {v : Value} {d : DataW H} {p : List MemPlace} (hv : Value.okWide Try.prog W r b0 40 v) (h : DataW.Trod enc Try.prog W 0 (fun _ => true) true 40 v d p) :
    ∃ c : CallL, v = callV c ∧ okCall c := by
  obtain ⟨cs, rfl, hsz⟩ := okWide_struct Try.underlying40 hv
  obtain ⟨fuel, hf⟩ := h
  obtain ⟨c, hc, he⟩ := struct_call hf
  refine ⟨c, ?_, hc⟩
  have he2 : cs.toList = [.int .i64 c.kind, .int .u64 c.v, .int .i64 c.n] := he
  have : cs = #[.int .i64 c.kind, .int .u64 c.v, .int .i64 c.n] := by
    apply Array.ext'
    exact he2
  rw [this]
  rfl
theorem open_calls {W : World} {r : Reach} {b0 : Nat} {v : Value} {d : DataW H} {p : List MemPlace} (hv : Value.okWide Try.prog W r b0 35 v) (h : DataW.Trod enc Try.prog W 0 (fun _ => true) true 35 v d p) :
    ∃ cs : List CallL, SeesK W W.heap.size v cs ∧ cs.length ≤ maxLen := by
  obtain ⟨a, len, cap, rfl⟩ := okWide_slice Try.underlying35 hv
  obtain ⟨fuel, hf⟩ := h
  have h3 : Try.prog.cellsOf 40 = 3 := by kernel_rfl
  rcases open_slice Try.underlying35 hf with ⟨hn, _⟩ | ⟨ad, len', cap', m, n, D, Pl, hcs, _, hl, hm, hmm, _, hi⟩
  · simp only [Value.cells, List.cons.injEq, and_true] at hn
    exact ⟨[], ⟨none, 0, by rw [hn]; rfl, fun h => absurd h (by simp)⟩, Nat.zero_le _⟩
  · simp only [Value.cells, List.cons.injEq, and_true] at hcs
    simp only [if_true] at hmm
    have hone : ∀ i, i < len' → ∃ c : CallL, okCall c ∧ W.cell? (ad.add (i * 3)) = some (.int .i64 c.kind) ∧ W.cell? ((ad.add (i * 3)).add 1) = some (.int .u64 c.v) ∧ W.cell? ((ad.add (i * 3)).add 2) = some (.int .i64 c.n) := by
      intro i hil
      obtain ⟨cs', h1, h2⟩ := hi i (by omega)
      obtain ⟨c, hc, he⟩ := struct_call h2
      rw [h3] at h1
      obtain ⟨_, hl3, hat⟩ := World.cells?_some h1
      subst he
      refine ⟨c, hc, ?_, hat 1 (by omega), hat 2 (by omega)⟩
      have := hat 0 (by omega)
      have hz : ∀ x : Addr, x.add 0 = x := fun x => by simp [Addr.add]
      rw [hz] at this
      exact this
    have hch : ∀ k, k ≤ len' → ∃ cs : List CallL, cs.length = k ∧ ∀ (i : Nat) (hi : i < cs.length), okCall cs[i] ∧ W.cell? (ad.add (i * 3)) = some (.int .i64 cs[i].kind) ∧ W.cell? ((ad.add (i * 3)).add 1) = some (.int .u64 cs[i].v) ∧ W.cell? ((ad.add (i * 3)).add 2) = some (.int .i64 cs[i].n) := by
      intro k
      induction k with
      | zero => exact fun _ => ⟨[], rfl, fun i h => absurd h (by simp)⟩
      | succ k ih =>
        intro hk
        obtain ⟨cs, hcl, hall⟩ := ih (by omega)
        obtain ⟨c, hc⟩ := hone k (by omega)
        refine ⟨cs ++ [c], by simp [hcl], fun i hi => ?_⟩
        by_cases hik : i < cs.length
        · rw [List.getElem_append_left hik]
          exact hall i hik
        · have hik2 : i = k := by simp at hi; omega
          subst hik2
          have : (cs ++ [c])[i] = c := by
            rw [List.getElem_append_right (by omega)]
            simp [hcl]
          rw [this]
          exact hc
    obtain ⟨cs, hcl, hall⟩ := hch len' (Nat.le_refl _)
    refine ⟨cs, ⟨some ad, cap', by rw [hcl]; exact hcs, fun h => ?_⟩, by omega⟩
    have h0 := (hall 0 h).2.1
    rw [Nat.zero_mul] at h0
    have hz : ad.add 0 = ad := by simp [Addr.add]
    rw [hz] at h0
    have e := plain_cell h0
    have hlt := lt_of_cell h0
    obtain ⟨bk, of, sp⟩ := ad
    have hsp : sp = none := congrArg Addr.spot e
    subst hsp
    refine ⟨bk, of, rfl, hlt, fun k hk => ?_⟩
    obtain ⟨g0, g1, g2, g3⟩ := hall k hk
    simp only [add_plain] at g1 g2 g3
    exact ⟨g0, g1, g2, g3⟩
end
end Go.Proofs.Ytpkikfdbndaekaa
