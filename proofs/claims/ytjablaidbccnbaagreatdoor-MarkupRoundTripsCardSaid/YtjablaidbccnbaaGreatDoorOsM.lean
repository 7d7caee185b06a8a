/-
  ARGUMENTS of the laws about markup, opened with the room that they may take: a tag.
-/
import Derived.Test.YtjablaidbccnbaaGreatDoorOtM
namespace Go.Proofs.YtjablaidbccnbaaGreatDoor
open Go.RowKit Go.Shelf Go.Lib Go.ChangeShapes Go.WideShapes Go.ChangeAt Go.Deep

section
variable {H : Type} {enc : TypeId × Value → H}
theorem weightsAll_mem {P : Program} {e : TypeId} {d : DataW H} {u : Nat} : ∀ l : List (DataW H), d ∈ l → u ∈ d.weights P e → u ∈ DataW.weightsAll P e l
  | [], h, _ => by simp at h
  | x :: r, h, hu => by
    unfold DataW.weightsAll
    rcases List.mem_cons.1 h with rfl | h
    · exact List.mem_append_left _ hu
    · exact List.mem_append_right _ (weightsAll_mem r h hu)
theorem weights_pair (q : Pr) : (DataW.agg [.lit (.string q.1), .lit (.string q.2)] : DataW H).weights Tryz.prog 54 = [q.1.length, q.2.length] := by
  simp [DataW.weights, DataW.weightsEach, Tryz.underlying54]
set_option maxRecDepth 100000 in
theorem struct_pairS {W : World} {sp : Nat → Bool} {held : Bool} {fuel : Nat} {cs : List Value} {x : DataW H × List MemPlace} (h : DataW.trod enc Tryz.prog W 0 sp held fuel 54 cs = some x) :
    ∃ q : Pr, x.1 = .agg [.lit (.string q.1), .lit (.string q.2)] ∧ cs = [.string ⟨q.1.toArray⟩, .string ⟨q.2.toArray⟩] := by
  obtain ⟨xs, n, _, hx, hlen, hxl, hf⟩ := DataW.trod_struct Tryz.underlying54 h
  have h2 : Tryz.prog.cellsOf 54 = 2 := by kernel_rfl
  have c1 : Tryz.prog.cellsOf 9 = 1 := by kernel_rfl
  rw [h2] at hlen
  match cs, hlen with
  | [a, b], _ =>
    match xs, hxl with
    | [y0, y1], _ =>
      have e0 : DataW.trod enc Tryz.prog W 0 sp held n 9 (([a, b].drop 0).take (Tryz.prog.cellsOf 9)) = some y0 := hf 0 _ rfl
      have e1 : DataW.trod enc Tryz.prog W 0 sp held n 9 (([a, b].drop 1).take (Tryz.prog.cellsOf 9)) = some y1 := hf 1 _ rfl
      rw [c1] at e0 e1
      obtain ⟨s0, k0, z0, _⟩ := DataW.trod_string Tryz.underlying9 (x := y0) e0
      obtain ⟨s1, k1, z1, _⟩ := DataW.trod_string Tryz.underlying9 (x := y1) e1
      simp only [List.drop_zero, List.take_succ_cons, List.take_zero, List.cons.injEq, and_true, List.drop_succ_cons] at k0 k1
      subst k0 k1
      refine ⟨(s0.data.toList, s1.data.toList), ?_, by simp only [Lib.mk_data]⟩
      rw [hx, z0, z1]
      rfl
set_option maxRecDepth 100000 in
theorem pairs_sized {W : World} {fuel : Nat} {cs : List Value} {x : DataW H × List MemPlace} (h : DataW.trod enc Tryz.prog W 0 (fun _ => true) true fuel 22 cs = some x) (hw : (x.1.weights Tryz.prog 22).all (· ≤ reachBytes) = true) :
    ∃ (v : Value) (ks : List Pr), cs = [v] ∧ Keys W v ks ∧ ks.length ≤ maxLen ∧ ∀ q ∈ ks, q.1.length ≤ reachBytes ∧ q.2.length ≤ reachBytes := by
  have h2 : Tryz.prog.cellsOf 54 = 2 := by kernel_rfl
  rcases open_slice Tryz.underlying22 h with ⟨hn, _⟩ | ⟨ad, len', cap', m, n, D, Pl, hcs, _, hl, hm, hmm, hx, hi⟩
  · exact ⟨_, [], hn, keys_nil W, Nat.zero_le _, by simp⟩
  · simp only [if_true] at hmm
    have hone : ∀ i, i < len' → ∃ q : Pr, D i = .agg [.lit (.string q.1), .lit (.string q.2)] ∧ W.cell? (ad.add (i * 2)) = some (.string ⟨q.1.toArray⟩) ∧ W.cell? ((ad.add (i * 2)).add 1) = some (.string ⟨q.2.toArray⟩) := by
      intro i hil
      obtain ⟨cs', g1, g2⟩ := hi i (by omega)
      obtain ⟨q, hq, he⟩ := struct_pairS g2
      rw [h2] at g1
      obtain ⟨_, hl3, hat⟩ := World.cells?_some g1
      subst he
      refine ⟨q, hq, ?_, hat 1 (by omega)⟩
      have := hat 0 (by omega)
      have hz : ∀ x : Addr, x.add 0 = x := fun x => by simp [Addr.add]
      rw [hz] at this
      exact this
    have hch : ∀ k, k ≤ len' → ∃ ks : List Pr, ks.length = k ∧ ∀ (i : Nat) (hi : i < ks.length), D i = .agg [.lit (.string ks[i].1), .lit (.string ks[i].2)] ∧ W.cell? (ad.add (i * 2)) = some (.string ⟨ks[i].1.toArray⟩) ∧ W.cell? ((ad.add (i * 2)).add 1) = some (.string ⟨ks[i].2.toArray⟩) := by
      intro k
      induction k with
      | zero => exact fun _ => ⟨[], rfl, fun i h => absurd h (by simp)⟩
      | succ k ih =>
        intro hk
        obtain ⟨ks, hcl, hall⟩ := ih (by omega)
        obtain ⟨c, hc⟩ := hone k (by omega)
        refine ⟨ks ++ [c], by simp [hcl], fun i hi => ?_⟩
        by_cases hik : i < ks.length
        · rw [List.getElem_append_left hik]
          exact hall i hik
        · have hik2 : i = k := by simp at hi; omega
          subst hik2
          have : (ks ++ [c])[i] = c := by
            rw [List.getElem_append_right (by omega)]
            simp [hcl]
          rw [this]
          exact hc
    obtain ⟨ks, hcl, hall⟩ := hch len' (Nat.le_refl _)
    refine ⟨_, ks, hcs, ⟨some ad, cap', by rw [hcl], by omega, fun h => ?_⟩, by omega, fun q hq => ?_⟩
    · have h0 := (hall 0 h).2.1
      rw [Nat.zero_mul] at h0
      have hz : ad.add 0 = ad := by simp [Addr.add]
      rw [hz] at h0
      have e := plain_cell h0
      have hlt := cell_lt h0
      obtain ⟨bk, of, sp⟩ := ad
      have hsp : sp = none := congrArg Addr.spot e
      subst hsp
      refine ⟨bk, of, rfl, hlt, fun k p hk => ?_⟩
      obtain ⟨hkl, rfl⟩ := List.getElem?_eq_some_iff.1 hk
      obtain ⟨_, g1, g2⟩ := hall k hkl
      simp only [add_plain] at g1 g2
      exact ⟨g1, g2⟩
    · obtain ⟨i, hi', rfl⟩ := List.getElem_of_mem hq
      have hD := (hall i hi').1
      have hall2 := List.all_eq_true.1 hw
      have hmem : ∀ u ∈ (D i).weights Tryz.prog 54, u ∈ x.1.weights Tryz.prog 22 := by
        intro u hu
        rw [hx]
        simp only [DataW.weights, Tryz.underlying22]
        refine List.mem_cons_of_mem _ (List.mem_append_left _ (weightsAll_mem _ ?_ hu))
        exact List.mem_map.2 ⟨i, List.mem_range.2 (by omega), rfl⟩
      rw [hD, weights_pair] at hmem
      have g1 := hall2 _ (hmem _ (List.mem_cons_self))
      have g2 := hall2 _ (hmem _ (List.mem_cons_of_mem _ (List.mem_cons_self)))
      exact ⟨by simpa using g1, by simpa using g2⟩
set_option maxRecDepth 100000 in
theorem open_tagS {W : World} {r : Reach} {b0 : Nat} {v : Value} {d : DataW H} {p : List MemPlace} (hv : Value.okWide Tryz.prog W r b0 24 v) (h : DataW.Trod enc Tryz.prog W 0 (fun _ => true) true 24 v d p) (hw : (d.weights Tryz.prog 24).all (· ≤ reachBytes) = true) :
    ∃ (t : TagL) (kv : Value), v = .agg #[.bool t.close, .string ⟨t.name.toArray⟩, kv] ∧ Keys W kv t.keys ∧ t.keys.length ≤ maxLen ∧ t.name.length ≤ reachBytes ∧ ∀ q ∈ t.keys, q.1.length ≤ reachBytes ∧ q.2.length ≤ reachBytes := by
  obtain ⟨⟨cs⟩, rfl, hsz⟩ := okWide_struct Tryz.underlying24 hv
  obtain ⟨fuel, hf⟩ := h
  obtain ⟨xs, n, _, hx, hlen, hxl, hf⟩ := DataW.trod_struct Tryz.underlying24 hf
  have h3 : Tryz.prog.cellsOf 24 = 3 := by kernel_rfl
  have c0 : Tryz.prog.cellsOf 4 = 1 := by kernel_rfl
  have c1 : Tryz.prog.cellsOf 9 = 1 := by kernel_rfl
  have c2 : Tryz.prog.cellsOf 22 = 1 := by kernel_rfl
  rw [h3] at hlen
  have hlen' : cs.length = 3 := hlen
  match cs, hlen' with
  | [a, b, c], _ =>
    match xs, hxl with
    | [y0, y1, y2], _ =>
      have e0 : DataW.trod enc Tryz.prog W 0 (fun _ => true) true n 4 (([a, b, c].drop 0).take (Tryz.prog.cellsOf 4)) = some y0 := hf 0 _ rfl
      have e1 : DataW.trod enc Tryz.prog W 0 (fun _ => true) true n 9 (([a, b, c].drop 1).take (Tryz.prog.cellsOf 9)) = some y1 := hf 1 _ rfl
      have e2 : DataW.trod enc Tryz.prog W 0 (fun _ => true) true n 22 (([a, b, c].drop 2).take (Tryz.prog.cellsOf 22)) = some y2 := hf 2 _ rfl
      rw [c0] at e0
      rw [c1] at e1
      rw [c2] at e2
      obtain ⟨bb, k0, z0⟩ := DataW.trod_bool Tryz.underlying4 (x := y0) e0
      obtain ⟨s1, k1, z1, _⟩ := DataW.trod_string Tryz.underlying9 (x := y1) e1
      have hd : d = .agg [y0.1, y1.1, y2.1] := congrArg Prod.fst hx
      have hws : d.weights Tryz.prog 24 = y0.1.weights Tryz.prog 4 ++ (y1.1.weights Tryz.prog 9 ++ (y2.1.weights Tryz.prog 22 ++ [])) := by
        rw [hd]
        simp [DataW.weights, DataW.weightsEach, Tryz.underlying24]
      rw [hws, List.all_append, List.all_append, List.all_append] at hw
      simp only [Bool.and_eq_true] at hw
      obtain ⟨kv, ks, k2, hk, hkl, hks⟩ := pairs_sized e2 hw.2.2.1
      have hz1 : s1.data.toList.length ≤ reachBytes := by
        have := hw.2.1
        rw [z1] at this
        simpa [DataW.weights] using this
      simp only [List.drop_zero, List.take_succ_cons, List.take_zero, List.cons.injEq, and_true, List.drop_succ_cons] at k0 k1 k2
      subst k0 k1 k2
      exact ⟨⟨bb, s1.data.toList, ks⟩, _, by simp only [Lib.mk_data], hk, hkl, hz1, hks⟩
end
end Go.Proofs.YtjablaidbccnbaaGreatDoor
