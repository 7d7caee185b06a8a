/-
  WALKS over the reference of markup: SortPairs. MEMORY: append to rows of keys.
-/
import Derived.Test.YtjablaidbccnbaaGreatDoorMkU
import Derived.BigQuiet
import Derived.RegionTactic
import Derived.Deep.QuietTactic
import Derived.Deep.DrawnRows
namespace Go.Proofs.YtjablaidbccnbaaGreatDoor
open Go.RowKit Go.Shelf Go.Lib

theorem less_compare : ∀ l m : List UInt8, (Op.bytesLess l m || l == m) = decide (compareBytes l m ≤ 0)
  | [], [] => by simp [Op.bytesLess, compareBytes]
  | [], _ :: _ => by simp [Op.bytesLess, compareBytes]
  | _ :: _, [] => by simp [Op.bytesLess, compareBytes]
  | a :: l, b :: m => by
    have ih := less_compare l m
    simp only [Op.bytesLess, compareBytes]
    rcases Nat.lt_trichotomy a.toNat b.toNat with h | h | h
    · have h1 : a < b := UInt8.lt_iff_toNat_lt.2 h
      simp [h1]
    · have h1 : a = b := UInt8.toNat_inj.1 h
      subst h1
      have h2 : ¬ a < a := by rw [UInt8.lt_iff_toNat_lt]; omega
      simp only [h2, if_false, decide_false, Bool.false_or, beq_self_eq_true, Bool.true_and]
      rw [← ih]
      simp
    · have h1 : b < a := UInt8.lt_iff_toNat_lt.2 h
      have h2 : ¬ a < b := by rw [UInt8.lt_iff_toNat_lt]; omega
      have h3 : ¬ a = b := by intro e; rw [e] at h; omega
      simp [h1, h2, h3]
/-- How many keys stand in front of p. -/
def kN (p : Pr) (m : List Pr) : Nat := (m.takeWhile fun q => decide (compareBytes q.1 p.1 ≤ 0)).length
theorem insP_split (p : Pr) : ∀ m : List Pr, insP p m = m.take (kN p m) ++ p :: m.drop (kN p m)
  | [] => rfl
  | q :: r => by
    have ih := insP_split p r
    unfold insP kN
    rw [List.takeWhile_cons]
    by_cases h : compareBytes q.1 p.1 ≤ 0
    · rw [if_pos h, if_pos (by simpa using h), ih]
      simp [kN]
    · rw [if_neg h, if_neg (by simpa using h)]
      simp
theorem kN_le (p : Pr) (m : List Pr) : kN p m ≤ m.length := (List.takeWhile_sublist _).length_le
theorem kN_step {p : Pr} {m : List Pr} {k : Nat} {q : Pr} (hq : m[k]? = some q) (h : kN p m = k + kN p (m.drop k)) :
    (decide (compareBytes q.1 p.1 ≤ 0) = true → kN p m = (k + 1) + kN p (m.drop (k + 1))) ∧ (decide (compareBytes q.1 p.1 ≤ 0) = false → kN p m = k) := by
  obtain ⟨hk, rfl⟩ := List.getElem?_eq_some_iff.1 hq
  rw [List.drop_eq_getElem_cons hk] at h
  unfold kN at h
  rw [List.takeWhile_cons] at h
  refine ⟨fun hd => ?_, fun hd => ?_⟩
  · rw [hd] at h
    unfold kN
    simp only [if_true, List.length_cons] at h
    omega
  · rw [hd] at h
    unfold kN
    simpa using h

theorem keys_cap {w : World} {A : Option Addr} {n cap : Nat} {ks : List Pr} (h : Keys w (.slice A n cap) ks) : n = ks.length ∧ n ≤ cap ∧ (0 < ks.length → ∃ b off, A = some ⟨b, off, none⟩ ∧ b < w.heap.size ∧
    ∀ (j : Nat) (p : Pr), ks[j]? = some p → w.cell? ⟨b, off + j * 2, none⟩ = some (.string ⟨p.1.toArray⟩) ∧ w.cell? ⟨b, off + j * 2 + 1, none⟩ = some (.string ⟨p.2.toArray⟩)) := by
  obtain ⟨A', cap', hv, hc, hr⟩ := h
  cases hv
  exact ⟨rfl, hc, hr⟩
theorem keys_cutc {w : World} {A : Option Addr} {n cap k c : Nat} {ks : List Pr} (h : Keys w (.slice A n cap) ks) (hk : k ≤ n) (hc : k ≤ c) : Keys w (.slice A k c) (ks.take k) := by
  obtain ⟨rfl, _, hr⟩ := keys_cap h
  have hl : (ks.take k).length = k := by rw [List.length_take]; omega
  refine ⟨A, c, by rw [hl], by rw [hl]; exact hc, fun h0 => ?_⟩
  obtain ⟨b, off, hA, hb, hj⟩ := hr (by omega)
  refine ⟨b, off, hA, hb, fun j p hp => hj j p ?_⟩
  have : j < k := by rw [← hl]; exact (List.getElem?_eq_some_iff.1 hp).1
  rw [List.getElem?_take, if_pos this] at hp
  exact hp
theorem keys_from {w : World} {A : Option Addr} {n cap k : Nat} {ks : List Pr} (h : Keys w (.slice A n cap) ks) (hk : k ≤ n) : Keys w (sliced A k n cap 2) (ks.drop k) := by
  obtain ⟨rfl, hc, hr⟩ := keys_cap h
  have hl : (ks.drop k).length = ks.length - k := by rw [List.length_drop]
  refine ⟨_, cap - k, by rw [hl]; rfl, by rw [hl]; omega, fun h0 => ?_⟩
  obtain ⟨b, off, rfl, hb, hj⟩ := hr (by omega)
  have hck : ¬ cap = k := by omega
  refine ⟨b, off + k * 2, by rw [if_neg hck]; simp [add_plain], hb, fun j p hp => ?_⟩
  rw [List.getElem?_drop] at hp
  have := hj (k + j) p hp
  rw [Nat.add_mul, ← Nat.add_assoc] at this
  exact this
theorem keys_from_some {w : World} {b off n cap k : Nat} {ks : List Pr} (h : Keys w (.slice (some ⟨b, off, none⟩) n cap) ks) (hk : k ≤ n) :
    Keys w (.slice (if cap = k then some ⟨b, off, none⟩ else some ⟨b, off + k * 2, none⟩) (n - k) (cap - k)) (ks.drop k) := by
  have := keys_from h hk
  unfold sliced at this
  rw [Option.map_some, add_plain] at this
  exact this
theorem sliceK_full (A : Option Addr) (n cap k : Nat) (hk : k ≤ n) (hn : n ≤ cap) (w : World) : (Instr.slice 22 (.slice A n cap) none (some (.int .i64 (k : Int))) (some (.int .i64 (k : Int)))).run Tryz.prog w = .ok (.slice A k k) w := by
  rw [run_slice_hm w 22 _ _ _ (by kernel_rfl) .i64 .i64 k k (by omega) (by omega) (by omega)]
  have hz1 : (sizeOf (Tryz.prog.elem 22)).run Tryz.prog w = .ok 2 w := by kernel_rfl
  rw [hz1]
  cases A with
  | none => simp [Result.andThen, sliced]
  | some ad =>
    have h0 : ad.add 0 = ad := by simp [Addr.add]
    simp [Result.andThen, sliced, h0]
theorem sliceK_from (A : Option Addr) (n cap k : Nat) (hk : k ≤ n) (w : World) : (Instr.slice 22 (.slice A n cap) (some (.int .i64 (k : Int))) none none).run Tryz.prog w = .ok (sliced A k n cap 2) w := by
  rw [run_slice_l w 22 _ _ _ (by kernel_rfl) .i64 k (by omega) (by omega)]
  have hz1 : (sizeOf (Tryz.prog.elem 22)).run Tryz.prog w = .ok 2 w := by kernel_rfl
  rw [hz1]
  simp [Result.andThen]
theorem flat_one (ks : List Pr) : ∀ u ∈ ks.flatMap encP, u.oneCell' = true := by
  intro u hu
  obtain ⟨p, _, hp⟩ := List.mem_flatMap.1 hu
  exact enc_one p u hp
/-- append of keys to a row of one's own. -/
theorem run_append_keysK (ty : TypeId) (w : World) (base : Nat) (hbase : base ≤ w.heap.size) (v : Value) (n : Nat) (xs : List Value) (hown : w.ownsRow base 54 2 v n xs) (vx : Value) (ys : List Pr) (hy : Keys w vx ys) (hn : n + ys.length ≤ 1000000) :
    ∃ v' w', (Builtin.append_ #[22, 22] ty #[v, vx]).run Tryz.prog w = .ok v' w' ∧ w'.ownsRow base 54 2 v' (n + ys.length) (xs ++ ys.flatMap encP) ∧ w.grownBy w' v.ownBlock := by
  obtain ⟨i0, hi, hz0, hz1, hz2⟩ := info_parts' Tryz.infoPair
  obtain ⟨A, cap, rfl, hc, hr⟩ := hy
  cases A with
  | none =>
    have h0 : ys = [] := by
      by_cases h : 0 < ys.length
      · obtain ⟨b, off, hA, _⟩ := hr h
        cases hA
      · exact List.length_eq_zero_iff.1 (by omega)
    subst h0
    have hown' : w.ownsRow base 54 2 v (n + ([] : List Pr).length) (xs ++ ([] : List Pr).flatMap encP) := by simpa using hown
    refine ⟨v, w, ?_, hown', World.grownBy.refl w _⟩
    rcases hown.2 with ⟨rfl, rfl⟩ | ⟨g, cap', cur, rfl, _, _, hnc, _⟩
    · simp [Builtin.append_, run_underlying Tryz.underlying22, sizeOf, typeInfo, hi, Builtin.lenOf, Builtin.firstCells]
    · simp [Builtin.append_, run_underlying Tryz.underlying22, sizeOf, typeInfo, hi, Builtin.lenOf, Builtin.firstCells, hnc, storeCells]
  | some ad =>
    obtain ⟨v', w', h1, h2, h3, _⟩ := run_append_own (P := Tryz.prog) w base 22 ty 54 i0 _ 2 32 Tryz.underlying22 hi hz0 hz1 hz2 rfl (by decide) v n xs hown ad ys.length cap (ys.flatMap encP) (flat_len ys) (by
      intro j u hu
      have h0 : 0 < ys.length := by
        have := (List.getElem?_eq_some_iff.1 hu).1
        rw [flat_len] at this
        omega
      obtain ⟨b, off, hA, hb, hj⟩ := hr h0
      cases hA
      rw [add_plain]
      exact flat_get ys w b off hj j u hu) (flat_one ys) (by unfold maxLen; omega) (by omega) hbase
    exact ⟨v', w', h1, h2, h3⟩
/-- append of keys to a slice without spare room. -/
theorem run_append_fullK (ty : TypeId) (w : World) (A : Option Addr) (k : Nat) (xs : List Pr) (hx : Keys w (.slice A k k) xs) (vx : Value) (base : Nat) (m : Nat) (news : List Value) (hy : w.ownsRow base 54 2 vx m news) (h1 : ∀ u ∈ news, u.oneCell' = true) (hm : 0 < m) (hn : k + m ≤ 1000000) :
    ∃ v' w', (Builtin.append_ #[22, 22] ty #[.slice A k k, vx]).run Tryz.prog w = .ok v' w' ∧ w'.ownsRow w.heap.size 54 2 v' (k + m) (xs.flatMap encP ++ news) ∧ Below w.heap.size w w' := by
  obtain ⟨i0, hi, hz0, hz1, hz2⟩ := info_parts' Tryz.infoPair
  obtain ⟨rfl, _, hr⟩ := keys_cap hx
  have hnl := hy.1
  rcases hy.2 with ⟨rfl, h0⟩ | ⟨g, cap, cur, rfl, hg0, hg, hcc, hcm, hcs, htk⟩
  · omega
  have hnews : ∀ (j : Nat) (u : Value), news[j]? = some u → w.cell? ((⟨g, 0, none⟩ : Addr).add j) = some u := by
    intro j u hu
    rw [add_plain, Nat.zero_add]
    rw [hy.cellAt j (by rw [← hnl]; exact (List.getElem?_eq_some_iff.1 hu).1)]
    exact hu
  cases A with
  | none =>
    have h0 : xs = [] := by
      by_cases h : 0 < xs.length
      · obtain ⟨b, off, hA, _⟩ := hr h
        cases hA
      · exact List.length_eq_zero_iff.1 (by omega)
    subst h0
    obtain ⟨v', w', hr, h2, h3, _⟩ := run_append_own (P := Tryz.prog) w w.heap.size 22 ty 54 i0 _ 2 32 Tryz.underlying22 hi hz0 hz1 hz2 rfl (by decide) (.slice none 0 0) 0 [] (World.ownsRow_nil w w.heap.size 54 2) ⟨g, 0, none⟩ m cap news hnl hnews h1 (by unfold maxLen; omega) (by omega) (Nat.le_refl _)
    exact ⟨v', w', hr, by simpa using h2, (Below.refl _ w).grown h3 (Nat.le_refl _) (fun k e => by simp [Value.ownBlock] at e)⟩
  | some ad =>
    have hj : ∀ (j : Nat) (u : Value), (xs.flatMap encP)[j]? = some u → w.cell? (ad.add j) = some u := by
      intro j u hu
      have h0 : 0 < xs.length := by
        have := (List.getElem?_eq_some_iff.1 hu).1
        rw [flat_len] at this
        omega
      obtain ⟨b, off, hA, hb, hj⟩ := hr h0
      cases hA
      rw [add_plain]
      exact flat_get xs w b off hj j u hu
    have hfl := flat_len xs
    have hr2 := run_append_grow (P := Tryz.prog) w 22 ty 54 i0 _ Tryz.underlying22 hi hz0 ad xs.length xs.length (xs.flatMap encP) (by rw [hz1]; exact hfl) hj ⟨g, 0, none⟩ m cap news (by rw [hz1]; exact hnl) hnews (by omega) (by omega) (growslice_fits (by omega) (by rw [hz2]; omega))
    have hge := grownCap_ge w (xs.length + m) xs.length 54
    have hall : (xs.flatMap encP ++ news).length = (xs.length + m) * 2 := by rw [List.length_append, hfl, hnl, Nat.add_mul]
    refine ⟨_, _, hr2, ⟨hall, .inr ⟨w.heap.size, _, _, rfl, Nat.le_refl _, heap_alloc_new w.drew _, hge, grownCap_le_maxLen w _ _ 54 (by unfold maxLen; omega), ?_, ?_⟩⟩, ?_⟩
    · simp only [Array.size_append, List.size_toArray, size_zeroCells, hfl, hnl]
      show xs.length * 2 + m * 2 + _ * 2 = _
      omega
    · simp only [Array.toList_append, List.append_assoc]
      rw [← List.append_assoc, ← hall]
      exact List.take_left
    · exact ((below_drewN (Below.refl _ w) 1).alloc (Nat.le_refl _) _)

section
variable {ops : Array Oper} {o : Oper} {a : Act} {w : World} {K : Act → World → Prop} {Q : Exit → Act → World → Prop} {E : Prop}
theorem step_append_run (hgd : o.guard = none) (s x : Operand) (t : TypeId) (ho : o.op = .call { callee := .builtin .append, args := #[s, x], argTypes := #[t, t] }) {vs vx v' : Value} {w' : World} (hs : a.eval s = vs) (hx : a.eval x = vx)
    (hr : (Builtin.append_ #[t, t] o.type #[vs, vx]).run Tryz.prog w = .ok v' w') (h : K (a.put o.dst v') w') : if Region.wanted o (yielded ops a.tmps) = true then Oper.wp Tryz.prog o a w K Q else E := by
  have hw : Region.wanted o (yielded ops a.tmps) = true := by simp [Region.wanted, hgd]
  rw [if_pos hw]
  unfold Oper.wp execOp
  simp only [ho, resolve, invoke, builtin, Sem.run_bind, Sem.run_pure, Result.andThen_ok, List.map_toArray, List.map_cons, List.map_nil, hs, hx, hr]
  exact h
theorem step_keysK (hgd : o.guard = none) (s x : Operand) (ho : o.op = .call { callee := .builtin .append, args := #[s, x], argTypes := #[22, 22] }) (base : Nat) (hbase : base ≤ w.heap.size)
    (v : Value) (n : Nat) (xs : List Value) (hs : a.eval s = v) (hown : w.ownsRow base 54 2 v n xs) (vx : Value) (ys : List Pr) (hx : a.eval x = vx) (hy : Keys w vx ys) (hn : n + ys.length ≤ 1000000)
    (h : ∀ v' w', w'.ownsRow base 54 2 v' (n + ys.length) (xs ++ ys.flatMap encP) → w.grownBy w' v.ownBlock → K (a.put o.dst v') w') : if Region.wanted o (yielded ops a.tmps) = true then Oper.wp Tryz.prog o a w K Q else E := by
  obtain ⟨v', w', hr, h2, h3⟩ := run_append_keysK o.type w base hbase v n xs hown vx ys hy hn
  exact step_append_run hgd s x _ ho hs hx hr (h v' w' h2 h3)
theorem step_fullK (hgd : o.guard = none) (s x : Operand) (ho : o.op = .call { callee := .builtin .append, args := #[s, x], argTypes := #[22, 22] })
    (A : Option Addr) (k : Nat) (xs : List Pr) (hs : a.eval s = .slice A k k) (hX : Keys w (.slice A k k) xs) (vx : Value) (base m : Nat) (news : List Value) (hx : a.eval x = vx) (hy : w.ownsRow base 54 2 vx m news) (h1 : ∀ u ∈ news, u.oneCell' = true) (hm : 0 < m) (hn : k + m ≤ 1000000)
    (h : ∀ v' w', w'.ownsRow w.heap.size 54 2 v' (k + m) (xs.flatMap encP ++ news) → Below w.heap.size w w' → K (a.put o.dst v') w') : if Region.wanted o (yielded ops a.tmps) = true then Oper.wp Tryz.prog o a w K Q else E := by
  obtain ⟨v', w', hr, h2, h3⟩ := run_append_fullK o.type w A k xs hX vx base m news hy h1 hm hn
  exact step_append_run hgd s x _ ho hs hx hr (h v' w' h2 h3)
end
theorem sortP_take {ks : List Pr} {j : Nat} {p : Pr} (h : ks[j]? = some p) : sortP (ks.take (j + 1)) = insP p (sortP (ks.take j)) := by
  unfold sortP
  rw [List.take_add_one, h]
  simp [List.foldl_append]
/-- Between two rounds of the outer loop. -/
def SortI (w : World) (ks : List Pr) (n : Nat) (m i : Value) (wr : World) : Prop :=
  ∃ j : Nat, j ≤ n ∧ i = .int .i64 j ∧ wr.ownsRow w.heap.size 54 2 m (sortP (ks.take j)).length ((sortP (ks.take j)).flatMap encP) ∧ Below w.heap.size w wr
theorem sortI_next {w wr wy w1 w2 : World} {ks : List Pr} {n j kk : Nat} {p : Pr} {M : List Pr} {v2 : Value} {x y : Value} (hj : j < n) (hp : ks[j]? = some p) (hM : sortP (ks.take j) = M) (hk : kN p M = kk) (hx : [x, y] = encP p)
    (hb : Below w.heap.size w wr) (hwy : Below wr.heap.size wr wy) (h1 : Below wy.heap.size wy w1) (h2 : Below w1.heap.size w1 w2)
    (ho : w2.ownsRow w1.heap.size 54 2 v2 (kk + (1 + (M.drop kk).length)) ((M.take kk).flatMap encP ++ (#[x, y].toList ++ (M.drop kk).flatMap encP))) : SortI w ks n v2 (.int .i64 ((j : Int) + 1)) w2 := by
  have hbw : Below w.heap.size w w2 := ((hb.trans (hwy.mono hb.size)).trans (h1.mono (Nat.le_trans hb.size hwy.size))).trans (h2.mono (Nat.le_trans (Nat.le_trans hb.size hwy.size) h1.size))
  refine ⟨j + 1, by omega, by go_num, ?_, hbw⟩
  have hs : sortP (ks.take (j + 1)) = M.take kk ++ p :: M.drop kk := by rw [sortP_take hp, hM, insP_split, hk]
  have hle := kN_le p M
  rw [hk] at hle
  have hl : (M.take kk ++ p :: M.drop kk).length = kk + (1 + (M.drop kk).length) := by
    rw [List.length_append, List.length_take, List.length_cons]
    omega
  rw [hs, hl]
  have hf : (M.take kk ++ p :: M.drop kk).flatMap encP = (M.take kk).flatMap encP ++ (#[x, y].toList ++ (M.drop kk).flatMap encP) := by
    rw [List.flatMap_append, List.flatMap_cons, ← hx]
  rw [hf]
  exact ownsRow_base ho (Nat.le_trans (Nat.le_trans hb.size hwy.size) h1.size)

set_option maxRecDepth 100000 in
set_option maxHeartbeats 2000000 in
theorem refSort_any {w : World} {v : Value} {ks : List Pr} (hk : Keys w v ks) (hl : ks.length ≤ 1000) :
    Calls Tryz.prog 14 #[v] w fun e w' => (∃ v', e = .returned v' ∧ w'.ownsRow w.heap.size 54 2 v' (sortP ks).length ((sortP ks).flatMap encP)) ∧ Below w.heap.size w w' := by
  obtain ⟨A, cap, rfl, hc, _⟩ := id hk
  obtain ⟨n, hn⟩ : ∃ n, ks.length = n := ⟨_, rfl⟩
  rw [hn] at hk hc hl ⊢
  have HK := Lib.hid hk
  have HN := Lib.hid hn
  have HST : Hid (SortI w ks n (.slice none 0 0) (.int .i64 0) w) := Lib.hid ⟨0, Nat.zero_le _, rfl, World.ownsRow_nil _ _ _ _, Below.refl _ _⟩
  clear hk hn
  go_enter Tryz.func14, Tryz.ntmps14
  go_wp2_with fail
  go_loopw [3, 9] (fun m i wr => SortI w ks n m i wr) (fun _ i _ => n - (Go.RowKit.intOf i).toNat)
  case atStart => exact HST.out
  case round =>
    obtain ⟨j, hj, rfl, hown, hb⟩ := hrel
    obtain ⟨wo, rfl⟩ : ∃ wo, wo = wr := ⟨_, rfl⟩
    by_cases hlt : j < n
    · obtain ⟨p, hp⟩ : ∃ p, ks[j]? = some p := ⟨_, List.getElem?_eq_getElem (by rw [HN.out]; exact hlt)⟩
      obtain ⟨-, -, hr⟩ := keys_cap (HK.out.below hb)
      obtain ⟨b, off, rfl, hbl, hjj⟩ := hr (by rw [HN.out]; omega)
      obtain ⟨c0, c1⟩ := hjj j p hp
      obtain ⟨M, hM⟩ : ∃ M, sortP (ks.take j) = M := ⟨_, rfl⟩
      have hml : M.length = j := by rw [← hM, sortP_len, List.length_take, HN.out]; omega
      rw [hM] at hown
      have hKM := keys_own hown
      obtain ⟨A2, cap2, hv2, hc2⟩ := own_form hown
      rw [hml] at hv2 hc2
      subst hv2
      obtain ⟨P1, hP1⟩ : ∃ s : ByteArray, (⟨p.1.toArray⟩ : ByteArray) = s := ⟨_, rfl⟩
      obtain ⟨P2, hP2⟩ : ∃ s : ByteArray, (⟨p.2.toArray⟩ : ByteArray) = s := ⟨_, rfl⟩
      have hPe : [Value.string P1, .string P2] = encP p := by rw [← hP1, ← hP2]; rfl
      have hPl : P1.toList = p.1 := by rw [← hP1, Lib.toList_data]
      rw [hP1] at c0
      rw [hP2] at c1
      obtain ⟨W2, hW2⟩ : ∃ W2, wo.alloc (.cells #[.string P1, .string P2] 54) = W2 := ⟨_, rfl⟩
      have hb2 : Below wo.heap.size wo W2 := by rw [← hW2]; exact (Below.refl _ wo).alloc (Nat.le_refl _) _
      have hn2 : W2.heap[wo.heap.size]? = some (.cells #[.string P1, .string P2] 54 (0, 0)) := by rw [← hW2]; exact block_new _ _
      have HW2 := Lib.hid hW2
      have HB := Lib.hid hb
      have HB2 := Lib.hid hb2
      have HN2 := Lib.hid hn2
      have HKM := Lib.hid (fun W (h : Below wo.heap.size wo W) => hKM.below h)
      have HML := Lib.hid hml
      have HMM := Lib.hid hM
      have HP := Lib.hid hp
      have HPE := Lib.hid hPe
      have HPL := Lib.hid hPl
      have HI0 : Hid (kN p M = 0 + kN p (M.drop 0)) := Lib.hid (by rw [Nat.zero_add, List.drop_zero])
      clear hr hjj hbl hp hM hml hown hKM hP1 hP2 hPe hPl hW2 hb2 hn2 hb
      go_wp2_with fail
      rw [HW2.out]
      clear c0 c1
      go_loopw [6] (fun c wr => ∃ k : Nat, k ≤ j ∧ c = .int .i64 k ∧ kN p M = k + kN p (M.drop k) ∧ Below W2.heap.size W2 wr) (fun c _ => j - (Go.RowKit.intOf c).toNat)
      case atStart => exact ⟨0, Nat.zero_le _, rfl, HI0.out, Below.refl _ _⟩
      case round =>
        obtain ⟨k, hkj, rfl, hkn, hbx⟩ := hrel
        have hbwr : Below wo.heap.size wo wr := HB2.out.trans (hbx.mono HB2.out.size)
        have hnx := block_below HN2.out hbx (Array.getElem?_eq_some_iff.1 HN2.out).1
        have d0 := cell_of (i := 0) hnx rfl
        have d1 := cell_of (i := 1) hnx rfl
        by_cases hlk : k < j
        · obtain ⟨q, hq⟩ : ∃ q, M[k]? = some q := ⟨_, List.getElem?_eq_getElem (by rw [HML.out]; exact hlk)⟩
          obtain ⟨-, -, hr⟩ := keys_cap (HKM.out wr hbwr)
          obtain ⟨b2, off2, rfl, hbl2, hjj⟩ := hr (by rw [HML.out]; omega)
          have g0 := (hjj k q hq).1
          obtain ⟨hyes, hno⟩ := kN_step hq hkn
          obtain ⟨Q1, hQ1⟩ : ∃ s : ByteArray, (⟨q.1.toArray⟩ : ByteArray) = s := ⟨_, rfl⟩
          have htest : (Op.bytesLess Q1.toList P1.toList || Q1.toList == P1.toList) = decide (compareBytes q.1 p.1 ≤ 0) := by
            rw [← hQ1, Lib.toList_data, HPL.out, less_compare]
          rw [hQ1] at g0
          obtain ⟨t, ht⟩ : ∃ t, decide (compareBytes q.1 p.1 ≤ 0) = t := ⟨_, rfl⟩
          rw [ht] at htest hyes hno
          have HX := Lib.hid (And.intro hbx (And.intro hbwr hnx))
          have hdk : decide ((k : Int) < (j : Int)) = true := decide_eq_true (by omega)
          have hlki : (k : Int) < (j : Int) := by omega
          cases t with
          | true =>
            have HY := Lib.hid (hyes rfl)
            clear hyes hno ht hQ1 hq hr hjj hbl2 hkn hbx hbwr hnx
            go_wp2_with fail
            go_quiet (fail)
            clear htest g0 d0 d1
            go_wp2_with fail
            exact ⟨⟨k + 1, by omega, by go_num, HY.out, below_drewN HX.out.1 nq⟩, by simp only [Go.RowKit.intOf]; omega⟩
          | false =>
            have HY := Lib.hid (hno rfl)
            clear hyes hno ht hQ1 hq hr hjj hbl2 hkn hbx hbwr hnx
            go_wp2_with fail
            go_quiet (fail)
            clear htest g0 d0 d1
            obtain ⟨wy, hwy⟩ : ∃ wy, wr.drewN nq = wy := ⟨_, rfl⟩
            have hby : Below wo.heap.size wo wy := by rw [← hwy]; exact below_drewN HX.out.2.1 nq
            have hny : wy.heap[wo.heap.size]? = some (.cells #[.string P1, .string P2] 54 (0, 0)) := by rw [← hwy]; exact HX.out.2.2
            rw [hwy]
            obtain ⟨kk, rfl⟩ : ∃ kk, kk = k := ⟨_, rfl⟩
            have hkj2 : kk ≤ j := by omega
            have HKF := Lib.hid (fun W (h : Below wy.heap.size wy W) => keys_from_some (k := kk) (HKM.out W (hby.trans (h.mono hby.size))) hkj2)
            have HKT := Lib.hid (fun W (h : Below wy.heap.size wy W) => keys_cutc (k := kk) (c := kk) (HKM.out W (hby.trans (h.mono hby.size))) hkj2 (Nat.le_refl _))
            have hs1 := sliceK_full (some ⟨b2, off2, none⟩) j cap2 kk hkj2 hc2
            have hs2 := sliceK_from (some ⟨b2, off2, none⟩) j cap2 kk hkj2
            have e0 : wy.drew.cell? ⟨wo.heap.size, 0, none⟩ = some (.string P1) := cell_of (i := 0) hny rfl
            have e1 : wy.drew.cell? ⟨wo.heap.size, 1, none⟩ = some (.string P2) := cell_of (i := 1) hny rfl
            have HBY := Lib.hid hby
            have HFO : Hid (∀ u ∈ (#[Value.string P1, .string P2].toList ++ (M.drop kk).flatMap encP), u.oneCell' = true) := Lib.hid (by
              intro u hu
              rcases List.mem_append.1 hu with h | h
              · have h' : u ∈ [Value.string P1, .string P2] := h
                rw [HPE.out] at h'
                exact enc_one p u h'
              · exact flat_one _ u h)
            clear hdk hlki hwy hby hny
            go_wp2_with fail
            refine wp_region_any (by kernel_rfl) ?_
            change wpAny _ _ _ _ _ _ _ (World.drew _)
            refine wpAny_take (i := 0) (oi := ?oi1) (v := ?v1) ?hi1 (by kernel_rfl) (by kernel_rfl) (by kernel_rfl) ?hq1 ?hy1 ?hr1
            case hi1 => (simp only [List.getElem?_toArray, List.getElem?_cons_zero]; rfl)
            case hq1 => exact fun _ _ _ h => h
            case hy1 => exact Or.inl ⟨by rfl, by intro w; (first | (go_simp; done) | (go_simp; with_reducible rfl))⟩
            try simp only [Act.put, List.setIfInBounds_toArray, List.set_cons_zero, List.set_cons_succ]
            refine wpAny_take (i := 1) (oi := ?oi2) (v := ?v2) ?hi2 (by kernel_rfl) (by kernel_rfl) (by kernel_rfl) ?hq2 ?hy2 ?hr2
            case hi2 => (simp only [List.getElem?_toArray, List.getElem?_cons_succ, List.getElem?_cons_zero]; rfl)
            case hq2 => exact fun _ _ _ h => h
            case hy2 => exact Or.inl ⟨by rfl, by intro w; (first | (go_simp; done) | (go_simp; with_reducible rfl))⟩
            try simp only [Act.put, List.setIfInBounds_toArray, List.set_cons_zero, List.set_cons_succ]
            refine wpAny_take (i := 2) (oi := ?oi3) (v := ?v3) ?hi3 (by kernel_rfl) (by kernel_rfl) (by kernel_rfl) ?hq3 ?hy3 ?hr3
            case hi3 => (simp only [List.getElem?_toArray, List.getElem?_cons_succ, List.getElem?_cons_zero]; rfl)
            case hq3 => exact fun _ _ _ h => h
            case hy3 => exact Or.inl ⟨by rfl, by intro w; (first | (go_simp; done) | (go_simp; with_reducible rfl))⟩
            try simp only [Act.put, List.setIfInBounds_toArray, List.set_cons_zero, List.set_cons_succ]
            refine wpAny_take (i := 3) (oi := ?oi4) (v := ?v4) ?hi4 (by kernel_rfl) (by kernel_rfl) (by kernel_rfl) ?hq4 ?hy4 ?hr4
            case hi4 => (simp only [List.getElem?_toArray, List.getElem?_cons_succ, List.getElem?_cons_zero]; rfl)
            case hq4 => exact fun _ _ _ h => h
            case hy4 => exact Or.inl ⟨by rfl, by intro w; (first | (go_simp; done) | (go_simp; with_reducible rfl))⟩
            try simp only [Act.put, List.setIfInBounds_toArray, List.set_cons_zero, List.set_cons_succ]
            refine wpAny_take (i := 6) (oi := ?oi5) (v := ?v5) ?hi5 (by kernel_rfl) (by kernel_rfl) (by kernel_rfl) ?hq5 ?hy5 ?hr5
            case hi5 => (simp only [List.getElem?_toArray, List.getElem?_cons_succ, List.getElem?_cons_zero]; rfl)
            case hq5 => exact fun _ _ _ h => h
            case hy5 => exact Or.inl ⟨by rfl, by intro w; (first | (go_simp; done) | (go_simp; with_reducible rfl))⟩
            try simp only [Act.put, List.setIfInBounds_toArray, List.set_cons_zero, List.set_cons_succ]
            refine wpAny_take (i := 7) (oi := ?oi6) (v := ?v6) ?hi6 (by kernel_rfl) (by kernel_rfl) (by kernel_rfl) ?hq6 ?hy6 ?hr6
            case hi6 => (simp only [List.getElem?_toArray, List.getElem?_cons_succ, List.getElem?_cons_zero]; rfl)
            case hq6 => exact fun _ _ _ h => h
            case hy6 => exact Or.inl ⟨by rfl, by intro w; (first | (go_simp; done) | (go_simp; with_reducible rfl))⟩
            try simp only [Act.put, List.setIfInBounds_toArray, List.set_cons_zero, List.set_cons_succ]
            refine wpAny_take (i := 8) (oi := ?oi7) (v := ?v7) ?hi7 (by kernel_rfl) (by kernel_rfl) (by kernel_rfl) ?hq7 ?hy7 ?hr7
            case hi7 => (simp only [List.getElem?_toArray, List.getElem?_cons_succ, List.getElem?_cons_zero]; rfl)
            case hq7 => exact fun _ _ _ h => h
            case hy7 => exact Or.inl ⟨by rfl, by intro w; (first | (go_simp; done) | (go_simp; with_reducible rfl))⟩
            try simp only [Act.put, List.setIfInBounds_toArray, List.set_cons_zero, List.set_cons_succ]
            refine wpAny_ready (rs := [4]) (by kernel_rfl) (by simp) ?_
            refine AllReady.cons (o := ?oo8) ?hi8 (fun K hK => ?hs8) ?hm8
            case hi8 => (simp only [List.getElem?_toArray, List.getElem?_cons_succ, List.getElem?_cons_zero]; rfl)
            · go_simp
              refine hK _ _ ?_; clear hK K
              try simp only [Act.put, List.setIfInBounds_toArray, List.set_cons_zero, List.set_cons_succ]
              refine wpAny_ready (rs := [5]) (by kernel_rfl) (by simp) ?_
              refine AllReady.cons (o := ?oo9) ?hi9 (fun K hK => ?hs9) ?hm9
              case hi9 => (simp only [List.getElem?_toArray, List.getElem?_cons_succ, List.getElem?_cons_zero]; rfl)
              · go_simp
                refine hK _ _ ?_; clear hK K
                try simp only [Act.put, List.setIfInBounds_toArray, List.set_cons_zero, List.set_cons_succ]
                refine wpAny_ready (rs := [9]) (by kernel_rfl) (by simp) ?_
                refine AllReady.cons (o := ?oo10) ?hi10 (fun K hK => ?hs10) ?hm10
                case hi10 => (simp only [List.getElem?_toArray, List.getElem?_cons_succ, List.getElem?_cons_zero]; rfl)
                · refine step_keysK rfl (.tmp 34) (.tmp 37) rfl wy.heap.size (by simp) _ 1 _ rfl (World.ownsRow_lit (base := wy.heap.size) (e := 54) (size := 2) wy #[.string P1, .string P2] 1 (Nat.le_refl _) (by unfold maxLen; omega) rfl) _ (M.drop kk) rfl (HKF.out _ ((Below.refl _ wy).alloc (Nat.le_refl _) _).drew) (by rw [List.length_drop, HML.out]; omega) ?_
                  intro v1 w1 hown1 hg1
                  have hb1 : Below wy.heap.size wy w1 := ((Below.refl _ wy).alloc (Nat.le_refl _) _).drew.grown hg1 (by simp) (fun k e => by cases e; exact Nat.le_refl _)
                  have hKT := HKT.out w1 hb1
                  have HO1 := Lib.hid hown1
                  have HZ1 := Lib.hid hb1
                  have HK1 := Lib.hid hKT
                  clear hown1 hg1 hb1 hKT
                  refine hK _ _ ?_; clear hK K
                  try simp only [Act.put, List.setIfInBounds_toArray, List.set_cons_zero, List.set_cons_succ]
                  refine wpAny_ready (rs := [10]) (by kernel_rfl) (by simp) ?_
                  refine AllReady.cons (o := ?oo11) ?hi11 (fun K hK => ?hs11) ?hm11
                  case hi11 => (simp only [List.getElem?_toArray, List.getElem?_cons_succ, List.getElem?_cons_zero]; rfl)
                  · refine step_fullK rfl (.tmp 32) (.tmp 38) rfl (some ⟨b2, off2, none⟩) kk (M.take kk) rfl HK1.out _ _ (1 + (M.drop kk).length) _ rfl HO1.out (by intro u hu; exact HFO.out u hu) (by omega) (by rw [List.length_drop, HML.out]; omega) ?_
                    intro v2 w2 hown2 hb2
                    have HO2 := Lib.hid hown2
                    have HZ2 := Lib.hid hb2
                    clear hown2 hb2
                    refine hK _ _ ?_; clear hK K
                    try simp only [Act.put, List.setIfInBounds_toArray, List.set_cons_zero, List.set_cons_succ]
                    refine wpAny_take (i := 11) (oi := ?oi12) (v := ?v12) ?hi12 (by kernel_rfl) (by kernel_rfl) (by kernel_rfl) ?hq12 ?hy12 ?hr12
                    case hi12 => (simp only [List.getElem?_toArray, List.getElem?_cons_succ, List.getElem?_cons_zero]; rfl)
                    case hq12 => exact fun _ _ _ h => h
                    case hy12 => exact Or.inl ⟨by rfl, by intro w; (first | (go_simp; done) | (go_simp; with_reducible rfl))⟩
                    try simp only [Act.put, List.setIfInBounds_toArray, List.set_cons_zero, List.set_cons_succ]
                    refine wpAny_done (by kernel_rfl) ?_ _
                    go_wp2_with fail
                    exact ⟨sortI_next hlt HP.out HMM.out HY.out HPE.out HB.out HBY.out HZ1.out HZ2.out HO2.out, by simp only [Go.RowKit.intOf]; omega⟩
                  exact AllReady.nil
                exact AllReady.nil
              exact AllReady.nil
            exact AllReady.nil
        · have hk' : k = j := by omega
          have hfin : M.drop k = [] := List.drop_eq_nil_of_le (by rw [HML.out]; omega)
          rw [hfin] at hkn
          have HY : Hid (kN p M = k) := Lib.hid hkn
          have hdk : decide ((k : Int) < (j : Int)) = false := decide_eq_false (by omega)
          have hlki : ¬ (k : Int) < (j : Int) := by omega
          have HX := Lib.hid (And.intro hbx (And.intro hbwr hnx))
          clear hfin hkn hk' hbx hbwr hnx
          go_wp2_with fail
          go_quiet (fail)
          clear d0 d1
          obtain ⟨wy, hwy⟩ : ∃ wy, wr.drewN nq = wy := ⟨_, rfl⟩
          have hby : Below wo.heap.size wo wy := by rw [← hwy]; exact below_drewN HX.out.2.1 nq
          have hny : wy.heap[wo.heap.size]? = some (.cells #[.string P1, .string P2] 54 (0, 0)) := by rw [← hwy]; exact HX.out.2.2
          rw [hwy]
          obtain ⟨kk, rfl⟩ : ∃ kk, kk = k := ⟨_, rfl⟩
          have hkj2 : kk ≤ j := by omega
          have HKF := Lib.hid (fun W (h : Below wy.heap.size wy W) => keys_from (k := kk) (HKM.out W (hby.trans (h.mono hby.size))) hkj2)
          have HKT := Lib.hid (fun W (h : Below wy.heap.size wy W) => keys_cutc (k := kk) (c := kk) (HKM.out W (hby.trans (h.mono hby.size))) hkj2 (Nat.le_refl _))
          have hs1 := sliceK_full A2 j cap2 kk hkj2 hc2
          have hs2 := sliceK_from A2 j cap2 kk hkj2
          have e0 : wy.drew.cell? ⟨wo.heap.size, 0, none⟩ = some (.string P1) := cell_of (i := 0) hny rfl
          have e1 : wy.drew.cell? ⟨wo.heap.size, 1, none⟩ = some (.string P2) := cell_of (i := 1) hny rfl
          have HBY := Lib.hid hby
          have HFO : Hid (∀ u ∈ (#[Value.string P1, .string P2].toList ++ (M.drop kk).flatMap encP), u.oneCell' = true) := Lib.hid (by
            intro u hu
            rcases List.mem_append.1 hu with h | h
            · have h' : u ∈ [Value.string P1, .string P2] := h
              rw [HPE.out] at h'
              exact enc_one p u h'
            · exact flat_one _ u h)
          clear hdk hlki hwy hby hny
          go_wp2_with fail
          refine wp_region_any (by kernel_rfl) ?_
          change wpAny _ _ _ _ _ _ _ (World.drew _)
          refine wpAny_take (i := 0) (oi := ?oi1001) (v := ?v1001) ?hi1001 (by kernel_rfl) (by kernel_rfl) (by kernel_rfl) ?hq1001 ?hy1001 ?hr1001
          case hi1001 => (simp only [List.getElem?_toArray, List.getElem?_cons_zero]; rfl)
          case hq1001 => exact fun _ _ _ h => h
          case hy1001 => exact Or.inl ⟨by rfl, by intro w; (first | (go_simp; done) | (go_simp; with_reducible rfl))⟩
          try simp only [Act.put, List.setIfInBounds_toArray, List.set_cons_zero, List.set_cons_succ]
          refine wpAny_take (i := 1) (oi := ?oi1002) (v := ?v1002) ?hi1002 (by kernel_rfl) (by kernel_rfl) (by kernel_rfl) ?hq1002 ?hy1002 ?hr1002
          case hi1002 => (simp only [List.getElem?_toArray, List.getElem?_cons_succ, List.getElem?_cons_zero]; rfl)
          case hq1002 => exact fun _ _ _ h => h
          case hy1002 => exact Or.inl ⟨by rfl, by intro w; (first | (go_simp; done) | (go_simp; with_reducible rfl))⟩
          try simp only [Act.put, List.setIfInBounds_toArray, List.set_cons_zero, List.set_cons_succ]
          refine wpAny_take (i := 2) (oi := ?oi1003) (v := ?v1003) ?hi1003 (by kernel_rfl) (by kernel_rfl) (by kernel_rfl) ?hq1003 ?hy1003 ?hr1003
          case hi1003 => (simp only [List.getElem?_toArray, List.getElem?_cons_succ, List.getElem?_cons_zero]; rfl)
          case hq1003 => exact fun _ _ _ h => h
          case hy1003 => exact Or.inl ⟨by rfl, by intro w; (first | (go_simp; done) | (go_simp; with_reducible rfl))⟩
          try simp only [Act.put, List.setIfInBounds_toArray, List.set_cons_zero, List.set_cons_succ]
          refine wpAny_take (i := 3) (oi := ?oi1004) (v := ?v1004) ?hi1004 (by kernel_rfl) (by kernel_rfl) (by kernel_rfl) ?hq1004 ?hy1004 ?hr1004
          case hi1004 => (simp only [List.getElem?_toArray, List.getElem?_cons_succ, List.getElem?_cons_zero]; rfl)
          case hq1004 => exact fun _ _ _ h => h
          case hy1004 => exact Or.inl ⟨by rfl, by intro w; (first | (go_simp; done) | (go_simp; with_reducible rfl))⟩
          try simp only [Act.put, List.setIfInBounds_toArray, List.set_cons_zero, List.set_cons_succ]
          refine wpAny_take (i := 6) (oi := ?oi1005) (v := ?v1005) ?hi1005 (by kernel_rfl) (by kernel_rfl) (by kernel_rfl) ?hq1005 ?hy1005 ?hr1005
          case hi1005 => (simp only [List.getElem?_toArray, List.getElem?_cons_succ, List.getElem?_cons_zero]; rfl)
          case hq1005 => exact fun _ _ _ h => h
          case hy1005 => exact Or.inl ⟨by rfl, by intro w; (first | (go_simp; done) | (go_simp; with_reducible rfl))⟩
          try simp only [Act.put, List.setIfInBounds_toArray, List.set_cons_zero, List.set_cons_succ]
          refine wpAny_take (i := 7) (oi := ?oi1006) (v := ?v1006) ?hi1006 (by kernel_rfl) (by kernel_rfl) (by kernel_rfl) ?hq1006 ?hy1006 ?hr1006
          case hi1006 => (simp only [List.getElem?_toArray, List.getElem?_cons_succ, List.getElem?_cons_zero]; rfl)
          case hq1006 => exact fun _ _ _ h => h
          case hy1006 => exact Or.inl ⟨by rfl, by intro w; (first | (go_simp; done) | (go_simp; with_reducible rfl))⟩
          try simp only [Act.put, List.setIfInBounds_toArray, List.set_cons_zero, List.set_cons_succ]
          refine wpAny_take (i := 8) (oi := ?oi1007) (v := ?v1007) ?hi1007 (by kernel_rfl) (by kernel_rfl) (by kernel_rfl) ?hq1007 ?hy1007 ?hr1007
          case hi1007 => (simp only [List.getElem?_toArray, List.getElem?_cons_succ, List.getElem?_cons_zero]; rfl)
          case hq1007 => exact fun _ _ _ h => h
          case hy1007 => exact Or.inl ⟨by rfl, by intro w; (first | (go_simp; done) | (go_simp; with_reducible rfl))⟩
          try simp only [Act.put, List.setIfInBounds_toArray, List.set_cons_zero, List.set_cons_succ]
          refine wpAny_ready (rs := [4]) (by kernel_rfl) (by simp) ?_
          refine AllReady.cons (o := ?oo1008) ?hi1008 (fun K hK => ?hs1008) ?hm1008
          case hi1008 => (simp only [List.getElem?_toArray, List.getElem?_cons_succ, List.getElem?_cons_zero]; rfl)
          · go_simp
            refine hK _ _ ?_; clear hK K
            try simp only [Act.put, List.setIfInBounds_toArray, List.set_cons_zero, List.set_cons_succ]
            refine wpAny_ready (rs := [5]) (by kernel_rfl) (by simp) ?_
            refine AllReady.cons (o := ?oo1009) ?hi1009 (fun K hK => ?hs1009) ?hm1009
            case hi1009 => (simp only [List.getElem?_toArray, List.getElem?_cons_succ, List.getElem?_cons_zero]; rfl)
            · go_simp
              refine hK _ _ ?_; clear hK K
              try simp only [Act.put, List.setIfInBounds_toArray, List.set_cons_zero, List.set_cons_succ]
              refine wpAny_ready (rs := [9]) (by kernel_rfl) (by simp) ?_
              refine AllReady.cons (o := ?oo1010) ?hi1010 (fun K hK => ?hs1010) ?hm1010
              case hi1010 => (simp only [List.getElem?_toArray, List.getElem?_cons_succ, List.getElem?_cons_zero]; rfl)
              · refine step_keysK rfl (.tmp 34) (.tmp 37) rfl wy.heap.size (by simp) _ 1 _ rfl (World.ownsRow_lit (base := wy.heap.size) (e := 54) (size := 2) wy #[.string P1, .string P2] 1 (Nat.le_refl _) (by unfold maxLen; omega) rfl) _ (M.drop kk) rfl (HKF.out _ ((Below.refl _ wy).alloc (Nat.le_refl _) _).drew) (by rw [List.length_drop, HML.out]; omega) ?_
                intro v1 w1 hown1 hg1
                have hb1 : Below wy.heap.size wy w1 := ((Below.refl _ wy).alloc (Nat.le_refl _) _).drew.grown hg1 (by simp) (fun k e => by cases e; exact Nat.le_refl _)
                have hKT := HKT.out w1 hb1
                have HO1 := Lib.hid hown1
                have HZ1 := Lib.hid hb1
                have HK1 := Lib.hid hKT
                clear hown1 hg1 hb1 hKT
                refine hK _ _ ?_; clear hK K
                try simp only [Act.put, List.setIfInBounds_toArray, List.set_cons_zero, List.set_cons_succ]
                refine wpAny_ready (rs := [10]) (by kernel_rfl) (by simp) ?_
                refine AllReady.cons (o := ?oo1011) ?hi1011 (fun K hK => ?hs1011) ?hm1011
                case hi1011 => (simp only [List.getElem?_toArray, List.getElem?_cons_succ, List.getElem?_cons_zero]; rfl)
                · refine step_fullK rfl (.tmp 32) (.tmp 38) rfl A2 kk (M.take kk) rfl HK1.out _ _ (1 + (M.drop kk).length) _ rfl HO1.out (by intro u hu; exact HFO.out u hu) (by omega) (by rw [List.length_drop, HML.out]; omega) ?_
                  intro v2 w2 hown2 hb2
                  have HO2 := Lib.hid hown2
                  have HZ2 := Lib.hid hb2
                  clear hown2 hb2
                  refine hK _ _ ?_; clear hK K
                  try simp only [Act.put, List.setIfInBounds_toArray, List.set_cons_zero, List.set_cons_succ]
                  refine wpAny_take (i := 11) (oi := ?oi1012) (v := ?v1012) ?hi1012 (by kernel_rfl) (by kernel_rfl) (by kernel_rfl) ?hq1012 ?hy1012 ?hr1012
                  case hi1012 => (simp only [List.getElem?_toArray, List.getElem?_cons_succ, List.getElem?_cons_zero]; rfl)
                  case hq1012 => exact fun _ _ _ h => h
                  case hy1012 => exact Or.inl ⟨by rfl, by intro w; (first | (go_simp; done) | (go_simp; with_reducible rfl))⟩
                  try simp only [Act.put, List.setIfInBounds_toArray, List.set_cons_zero, List.set_cons_succ]
                  refine wpAny_done (by kernel_rfl) ?_ _
                  go_wp2_with fail
                  exact ⟨sortI_next hlt HP.out HMM.out HY.out HPE.out HB.out HBY.out HZ1.out HZ2.out HO2.out, by simp only [Go.RowKit.intOf]; omega⟩
                exact AllReady.nil
              exact AllReady.nil
            exact AllReady.nil
          exact AllReady.nil
    · have hjn : j = n := by omega
      subst hjn
      have hfin : ks.take j = ks := List.take_of_length_le (by rw [HN.out]; exact Nat.le_refl _)
      rw [hfin] at hown
      have HF := Lib.hid (And.intro hown hb)
      clear hfin hown hb
      go_wp2_with fail
      go_ret
      exact ⟨⟨_, rfl, HF.out.1⟩, HF.out.2⟩
end Go.Proofs.YtjablaidbccnbaaGreatDoor
