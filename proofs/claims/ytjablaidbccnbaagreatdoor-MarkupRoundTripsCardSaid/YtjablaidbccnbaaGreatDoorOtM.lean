/-
  ARGUMENTS of the laws about markup, opened: a tag.
-/
import Derived.Test.YtjablaidbccnbaaGreatDoorMkL
import Derived.Deep.Slices
namespace Go.Proofs.YtjablaidbccnbaaGreatDoor
open Go.RowKit Go.Shelf Go.Lib Go.ChangeShapes Go.WideShapes Go.ChangeAt Go.Deep

theorem cell_lt {w : World} {a : Addr} {v : Value} (h : w.cell? a = some v) : a.block < w.heap.size := by
  rcases Nat.lt_or_ge a.block w.heap.size with hlt | hge
  · exact hlt
  · unfold World.cell? at h
    rw [Array.getElem?_eq_none hge] at h
    cases h
section
variable {H : Type} {enc : TypeId × Value → H}
set_option maxRecDepth 100000 in
theorem struct_pair {W : World} {sp : Nat → Bool} {held : Bool} {fuel : Nat} {cs : List Value} {x : DataW H × List MemPlace} (h : DataW.trod enc Tryz.prog W 0 sp held fuel 54 cs = some x) :
    ∃ q : Pr, (q.1.length ≤ maxLen ∧ q.2.length ≤ maxLen) ∧ cs = [.string ⟨q.1.toArray⟩, .string ⟨q.2.toArray⟩] := by
  obtain ⟨xs, n, _, _, hlen, hxl, hf⟩ := DataW.trod_struct Tryz.underlying54 h
  have h2 : Tryz.prog.cellsOf 54 = 2 := by kernel_rfl
  have c1 : Tryz.prog.cellsOf 9 = 1 := by kernel_rfl
  rw [h2] at hlen
  match cs, hlen with
  | [a, b], _ =>
    match xs, hxl with
    | [y0, y1], _ =>
      have e0 : DataW.trod enc Tryz.prog W 0 sp held n 9 (([a, b].drop 0).take (Tryz.prog.cellsOf 9)) = some y0 := hf 0 _ rfl
      have e1 : DataW.trod enc Tryz.prog W 0 sp held n 9 (([a, b].drop 1).take (Tryz.prog.cellsOf 9)) = some y1 := hf 1 _ rfl
      rw [c1] at e0 e1
      obtain ⟨s0, k0, _, z0⟩ := DataW.trod_string Tryz.underlying9 (x := y0) e0
      obtain ⟨s1, k1, _, z1⟩ := DataW.trod_string Tryz.underlying9 (x := y1) e1
      simp only [List.drop_zero, List.take_succ_cons, List.take_zero, List.cons.injEq, and_true, List.drop_succ_cons] at k0 k1
      subst k0 k1
      exact ⟨(s0.data.toList, s1.data.toList), ⟨by rw [← Lib.size_eq]; exact z0, by rw [← Lib.size_eq]; exact z1⟩, by simp only [Lib.mk_data]⟩
set_option maxRecDepth 100000 in
theorem pairs_of {W : World} {fuel : Nat} {cs : List Value} {x : DataW H × List MemPlace} (h : DataW.trod enc Tryz.prog W 0 (fun _ => true) true fuel 22 cs = some x) :
    ∃ (v : Value) (ks : List Pr), cs = [v] ∧ Keys W v ks ∧ ks.length ≤ maxLen ∧ ∀ q ∈ ks, q.1.length ≤ maxLen ∧ q.2.length ≤ maxLen := by
  have h2 : Tryz.prog.cellsOf 54 = 2 := by kernel_rfl
  rcases open_slice Tryz.underlying22 h with ⟨hn, _⟩ | ⟨ad, len', cap', m, n, D, Pl, hcs, _, hl, hm, hmm, _, hi⟩
  · exact ⟨_, [], hn, keys_nil W, Nat.zero_le _, by simp⟩
  · simp only [if_true] at hmm
    have hone : ∀ i, i < len' → ∃ q : Pr, (q.1.length ≤ maxLen ∧ q.2.length ≤ maxLen) ∧ W.cell? (ad.add (i * 2)) = some (.string ⟨q.1.toArray⟩) ∧ W.cell? ((ad.add (i * 2)).add 1) = some (.string ⟨q.2.toArray⟩) := by
      intro i hil
      obtain ⟨cs', g1, g2⟩ := hi i (by omega)
      obtain ⟨q, hq, he⟩ := struct_pair g2
      rw [h2] at g1
      obtain ⟨_, hl3, hat⟩ := World.cells?_some g1
      subst he
      refine ⟨q, hq, ?_, hat 1 (by omega)⟩
      have := hat 0 (by omega)
      have hz : ∀ x : Addr, x.add 0 = x := fun x => by simp [Addr.add]
      rw [hz] at this
      exact this
    have hch : ∀ k, k ≤ len' → ∃ ks : List Pr, ks.length = k ∧ ∀ (i : Nat) (hi : i < ks.length), (ks[i].1.length ≤ maxLen ∧ ks[i].2.length ≤ maxLen) ∧ W.cell? (ad.add (i * 2)) = some (.string ⟨ks[i].1.toArray⟩) ∧ W.cell? ((ad.add (i * 2)).add 1) = some (.string ⟨ks[i].2.toArray⟩) := by
      intro k
      induction k with
      | zero => exact fun _ => ⟨[], rfl, fun i h => absurd h (by simp)⟩
      | succ k ih =>
        intro hk
        obtain ⟨ks, hcl, hall⟩ := ih (by omega)
        obtain ⟨c, hc⟩ := hone k (by omega)
        refine ⟨ks ++ [c], by simp [hcl], fun i hi => ?_⟩
        by_cases hik : i < ks.length
        · rw [List.getElem_append_left hik]
          exact hall i hik
        · have hik2 : i = k := by simp at hi; omega
          subst hik2
          have : (ks ++ [c])[i] = c := by
            rw [List.getElem_append_right (by omega)]
            simp [hcl]
          rw [this]
          exact hc
    obtain ⟨ks, hcl, hall⟩ := hch len' (Nat.le_refl _)
    refine ⟨_, ks, hcs, ⟨some ad, cap', by rw [hcl], by omega, fun h => ?_⟩, by omega, fun q hq => ?_⟩
    · have h0 := (hall 0 h).2.1
      rw [Nat.zero_mul] at h0
      have hz : ad.add 0 = ad := by simp [Addr.add]
      rw [hz] at h0
      have e := plain_cell h0
      have hlt := cell_lt h0
      obtain ⟨bk, of, sp⟩ := ad
      have hsp : sp = none := congrArg Addr.spot e
      subst hsp
      refine ⟨bk, of, rfl, hlt, fun k p hk => ?_⟩
      obtain ⟨hkl, rfl⟩ := List.getElem?_eq_some_iff.1 hk
      obtain ⟨_, g1, g2⟩ := hall k hkl
      simp only [add_plain] at g1 g2
      exact ⟨g1, g2⟩
    · obtain ⟨i, hi, rfl⟩ := List.getElem_of_mem hq
      exact (hall i hi).1
set_option maxRecDepth 100000 in
theorem open_tag {W : World} {r : Reach} {b0 : Nat} {v : Value} {d : DataW H} {p : List MemPlace} (hv : Value.okWide Tryz.prog W r b0 24 v) (h : DataW.Trod enc Tryz.prog W 0 (fun _ => true) true 24 v d p) :
    ∃ (t : TagL) (kv : Value), v = .agg #[.bool t.close, .string ⟨t.name.toArray⟩, kv] ∧ Keys W kv t.keys ∧ t.keys.length ≤ maxLen ∧ t.name.length ≤ maxLen ∧ ∀ q ∈ t.keys, q.1.length ≤ maxLen ∧ q.2.length ≤ maxLen := by
  obtain ⟨⟨cs⟩, rfl, hsz⟩ := okWide_struct Tryz.underlying24 hv
  obtain ⟨fuel, hf⟩ := h
  obtain ⟨xs, n, _, _, hlen, hxl, hf⟩ := DataW.trod_struct Tryz.underlying24 hf
  have h3 : Tryz.prog.cellsOf 24 = 3 := by kernel_rfl
  have c0 : Tryz.prog.cellsOf 4 = 1 := by kernel_rfl
  have c1 : Tryz.prog.cellsOf 9 = 1 := by kernel_rfl
  have c2 : Tryz.prog.cellsOf 22 = 1 := by kernel_rfl
  rw [h3] at hlen
  have hlen' : cs.length = 3 := hlen
  match cs, hlen' with
  | [a, b, c], _ =>
    match xs, hxl with
    | [y0, y1, y2], _ =>
      have e0 : DataW.trod enc Tryz.prog W 0 (fun _ => true) true n 4 (([a, b, c].drop 0).take (Tryz.prog.cellsOf 4)) = some y0 := hf 0 _ rfl
      have e1 : DataW.trod enc Tryz.prog W 0 (fun _ => true) true n 9 (([a, b, c].drop 1).take (Tryz.prog.cellsOf 9)) = some y1 := hf 1 _ rfl
      have e2 : DataW.trod enc Tryz.prog W 0 (fun _ => true) true n 22 (([a, b, c].drop 2).take (Tryz.prog.cellsOf 22)) = some y2 := hf 2 _ rfl
      rw [c0] at e0
      rw [c1] at e1
      rw [c2] at e2
      obtain ⟨bb, k0, _⟩ := DataW.trod_bool Tryz.underlying4 (x := y0) e0
      obtain ⟨s1, k1, _, z1⟩ := DataW.trod_string Tryz.underlying9 (x := y1) e1
      obtain ⟨kv, ks, k2, hk, hkl, hks⟩ := pairs_of e2
      simp only [List.drop_zero, List.take_succ_cons, List.take_zero, List.cons.injEq, and_true, List.drop_succ_cons] at k0 k1 k2
      subst k0 k1 k2
      exact ⟨⟨bb, s1.data.toList, ks⟩, _, by simp only [Lib.mk_data], hk, hkl, by rw [← Lib.size_eq]; exact z1, hks⟩
end
end Go.Proofs.YtjablaidbccnbaaGreatDoor
