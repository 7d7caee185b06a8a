/-
  WALKS over the reference of interval: insert.
-/
import Derived.Test.YtpkkebojiengpaaIbN
import Derived.Deep.RegionHeld3
namespace Go.Proofs.Ytpkkebojiengpaa
open Go Go.RowKit Go.Shelf Go.Lib
set_option linter.unusedVariables false
set_option linter.unusedSimpArgs false

/-- How many spans stand in front of s. -/
def kS (s : Sp) (m : List Sp) : Nat := (m.takeWhile fun q => ltb q s).length
theorem insS_split (s : Sp) : ∀ m : List Sp, insS s m = if m[kS s m]? = some s then m else m.take (kS s m) ++ s :: m.drop (kS s m)
  | [] => rfl
  | q :: r => by
    have ih := insS_split s r
    unfold insS kS
    rw [List.takeWhile_cons]
    by_cases h : ltb q s = true
    · rw [if_pos h, if_pos h, ih]
      simp only [List.length_cons, List.getElem?_cons_succ, List.take_succ_cons, List.drop_succ_cons]
      unfold kS
      by_cases e : r[(r.takeWhile fun q => ltb q s).length]? = some s
      · rw [if_pos e, if_pos e]
      · rw [if_neg e, if_neg e]; rfl
    · rw [if_neg h, if_neg h]
      simp only [List.length_nil, List.getElem?_cons_zero, List.take_zero, List.drop_zero, List.nil_append, Option.some.injEq]
theorem kS_le (s : Sp) (m : List Sp) : kS s m ≤ m.length := (List.takeWhile_sublist _).length_le
theorem kS_step {s : Sp} {m : List Sp} {k : Nat} {q : Sp} (hq : m[k]? = some q) (h : kS s m = k + kS s (m.drop k)) : (ltb q s = true → kS s m = (k + 1) + kS s (m.drop (k + 1))) ∧ (ltb q s = false → kS s m = k) := by
  obtain ⟨hk, rfl⟩ := List.getElem?_eq_some_iff.1 hq
  rw [List.drop_eq_getElem_cons hk] at h
  unfold kS at h
  rw [List.takeWhile_cons] at h
  refine ⟨fun hd => ?_, fun hd => ?_⟩
  · rw [hd] at h
    unfold kS
    simp only [if_true, List.length_cons] at h
    omega
  · rw [hd] at h
    unfold kS
    simpa using h
theorem flatS_get {xs : List Sp} {w : World} {b off : Nat} (hj : ∀ (j : Nat) (x : Sp), xs[j]? = some x → w.cell? ⟨b, off + j * 2, none⟩ = some (.int .i64 x.1) ∧ w.cell? ⟨b, off + j * 2 + 1, none⟩ = some (.int .i64 x.2)) (j : Nat) (u : Value) (hu : (xs.flatMap spV)[j]? = some u) : w.cell? ⟨b, off + j, none⟩ = some u := by
  have hjl := (List.getElem?_eq_some_iff.1 hu).1
  rw [flatM_len spV_len] at hjl
  have hx := List.getElem?_eq_getElem (l := xs) (i := j / 2) (by omega)
  obtain ⟨c0, c1⟩ := hj (j / 2) _ hx
  have h1 := flatM_get (enc := spV) (sz := 2) spV_len xs (j / 2) _ (j % 2) hx (Nat.mod_lt _ (by omega))
  rw [show j / 2 * 2 + j % 2 = j by omega, hu] at h1
  rcases (by omega : j % 2 = 0 ∨ j % 2 = 1) with e | e
  · rw [e] at h1
    rw [show off + j = off + j / 2 * 2 by omega, c0, h1]
    rfl
  · rw [e] at h1
    rw [show off + j = off + j / 2 * 2 + 1 by omega, c1, h1]
    rfl
theorem flatS_one (ks : List Sp) : ∀ u ∈ ks.flatMap spV, u.oneCell' = true := by
  intro u hu
  obtain ⟨p, _, hp⟩ := List.mem_flatMap.1 hu
  exact spV_one p u hp
/-- append of spans that are read to a row of one's own. -/
theorem run_append_rowS (ty : TypeId) (w : World) (base : Nat) (hbase : base ≤ w.heap.size) (v : Value) (n : Nat) (xs : List Value) (hown : w.ownsRow base 31 2 v n xs) (vx : Value) (ys : List Sp) (hy : Rows 2 ESp w vx ys) (hn : n + ys.length ≤ 1000000) :
    ∃ v' w', (Builtin.append_ #[22, 22] ty #[v, vx]).run Try.prog w = .ok v' w' ∧ w'.ownsRow base 31 2 v' (n + ys.length) (xs ++ ys.flatMap spV) ∧ w.grownBy w' v.ownBlock := by
  obtain ⟨i0, hi, hz0, hz1, hz2⟩ := info_parts' Try.infoSp
  obtain ⟨A, cap, rfl, hc⟩ := hy.form
  cases A with
  | none =>
    have h0 : ys = [] := by
      by_cases h : 0 < ys.length
      · obtain ⟨b, off, hA, _⟩ := hy.at' h
        cases hA
      · exact List.length_eq_zero_iff.1 (by omega)
    subst h0
    have hown' : w.ownsRow base 31 2 v (n + ([] : List Sp).length) (xs ++ ([] : List Sp).flatMap spV) := by simpa using hown
    refine ⟨v, w, ?_, hown', World.grownBy.refl w _⟩
    rcases hown.2 with ⟨rfl, rfl⟩ | ⟨g, cap', cur, rfl, _, _, hnc, _⟩
    · simp [Builtin.append_, run_underlying Try.underlying22, sizeOf, typeInfo, hi, Builtin.lenOf, Builtin.firstCells]
    · simp [Builtin.append_, run_underlying Try.underlying22, sizeOf, typeInfo, hi, Builtin.lenOf, Builtin.firstCells, hnc, storeCells]
  | some ad =>
    obtain ⟨v', w', h1, h2, h3, _⟩ := run_append_own (P := Try.prog) w base 22 ty 31 i0 _ 2 16 Try.underlying22 hi hz0 hz1 hz2 rfl (by decide) v n xs hown ad ys.length cap (ys.flatMap spV) (flatM_len spV_len ys) (by
      intro j u hu
      have h0 : 0 < ys.length := by
        have := (List.getElem?_eq_some_iff.1 hu).1
        rw [flatM_len spV_len] at this
        omega
      obtain ⟨b, off, hA, hb, hj⟩ := at_sp hy h0
      cases hA
      rw [add_plain]
      exact flatS_get hj j u hu) (flatS_one ys) (by unfold maxLen; omega) (by omega) hbase
    exact ⟨v', w', h1, h2, h3⟩
section
variable {ops : Array Oper} {o : Oper} {a : Act} {w : World} {K : Act → World → Prop} {Q : Exit → Act → World → Prop} {E : Prop}
theorem step_append_run (hgd : o.guard = none) (s x : Operand) (t : TypeId) (ho : o.op = .call { callee := .builtin .append, args := #[s, x], argTypes := #[t, t] }) {vs vx v' : Value} {w' : World} (hs : a.eval s = vs) (hx : a.eval x = vx)
    (hr : (Builtin.append_ #[t, t] o.type #[vs, vx]).run Try.prog w = .ok v' w') (h : K (a.put o.dst v') w') : if Region.wanted o (yielded ops a.tmps) = true then Oper.wp Try.prog o a w K Q else E := by
  have hw : Region.wanted o (yielded ops a.tmps) = true := by simp [Region.wanted, hgd]
  rw [if_pos hw]
  unfold Oper.wp execOp
  simp only [ho, resolve, invoke, builtin, Sem.run_bind, Sem.run_pure, Result.andThen_ok, List.map_toArray, List.map_cons, List.map_nil, hs, hx, hr]
  exact h
theorem step_rowS (hgd : o.guard = none) (s x : Operand) (ho : o.op = .call { callee := .builtin .append, args := #[s, x], argTypes := #[22, 22] }) (base : Nat) (hbase : base ≤ w.heap.size)
    (v : Value) (n : Nat) (xs : List Value) (hs : a.eval s = v) (hown : w.ownsRow base 31 2 v n xs) (vx : Value) (ys : List Sp) (hx : a.eval x = vx) (hy : Rows 2 ESp w vx ys) (hn : n + ys.length ≤ 1000000)
    (h : ∀ v' w', w'.ownsRow base 31 2 v' (n + ys.length) (xs ++ ys.flatMap spV) → w.grownBy w' v.ownBlock → K (a.put o.dst v') w') : if Region.wanted o (yielded ops a.tmps) = true then Oper.wp Try.prog o a w K Q else E := by
  obtain ⟨v', w', hr, h2, h3⟩ := run_append_rowS o.type w base hbase v n xs hown vx ys hy hn
  exact step_append_run hgd s x _ ho hs hx hr (h v' w' h2 h3)
end
/-- One span in a new block, read as a row. -/
theorem row_one {w : World} {B : Nat} {b e : Int} {t : TypeId} {f : Nat × Nat} (h : w.heap[B]? = some (.cells #[.int .i64 b, .int .i64 e] t f)) : Rows 2 ESp w (.slice (some ⟨B, 0, none⟩) 1 1) [(b, e)] := rows_sp (l := [(b, e)]) (n := 1) rfl (Nat.le_refl _) h
theorem sliceS_to (A : Option Addr) (n cap k : Nat) (hk : k ≤ n) (hn : n ≤ cap) (w : World) : (Instr.slice 22 (.slice A n cap) none (some (.int .i64 (k : Int))) none).run Try.prog w = .ok (.slice A k cap) w := by
  rw [run_slice_h w 22 _ _ _ (by kernel_rfl) .i64 k (by omega) (by omega)]
  have hz1 : (sizeOf (Try.prog.elem 22)).run Try.prog w = .ok 2 w := by kernel_rfl
  rw [hz1]
  cases A with
  | none => simp [Result.andThen, sliced]
  | some ad =>
    have h0 : ad.add 0 = ad := by simp [Addr.add]
    simp [Result.andThen, sliced, h0]
theorem sliceS_from (A : Option Addr) (n cap k : Nat) (hk : k ≤ n) (w : World) : (Instr.slice 22 (.slice A n cap) (some (.int .i64 (k : Int))) none none).run Try.prog w = .ok (sliced A k n cap 2) w := by
  rw [run_slice_l w 22 _ _ _ (by kernel_rfl) .i64 k (by omega) (by omega)]
  have hz1 : (sizeOf (Try.prog.elem 22)).run Try.prog w = .ok 2 w := by kernel_rfl
  rw [hz1]
  simp [Result.andThen]
theorem rows_to {w : World} {A : Option Addr} {n cap k : Nat} {ks : List Sp} (h : Rows 2 ESp w (.slice A n cap) ks) (hk : k ≤ n) : Rows 2 ESp w (.slice A k cap) (ks.take k) := by
  obtain ⟨rfl, hc⟩ := h.len
  have := h.part (lo := 0) (hi := k) (c' := cap) (Nat.zero_le _) hk (by omega) A (fun _ b off e => by rw [Nat.zero_mul, Nat.add_zero]; exact e)
  rw [Nat.sub_zero, List.drop_zero] at this
  exact this
theorem rows_from {w : World} {A : Option Addr} {n cap k : Nat} {ks : List Sp} (h : Rows 2 ESp w (.slice A n cap) ks) (hk : k ≤ n) : Rows 2 ESp w (sliced A k n cap 2) (ks.drop k) := by
  obtain ⟨rfl, hc⟩ := h.len
  have hl : (ks.drop k).length = ks.length - k := by rw [List.length_drop]
  refine ⟨_, cap - k, by rw [hl]; rfl, by rw [hl]; omega, fun h0 => ?_⟩
  obtain ⟨b, off, rfl, hb, hj⟩ := h.at' (by omega)
  have hck : ¬ cap = k := by omega
  refine ⟨b, off + k * 2, by rw [if_neg hck]; simp [add_plain], hb, fun j p hp => ?_⟩
  rw [List.getElem?_drop] at hp
  obtain ⟨cs, h1, h2, h3⟩ := hj (k + j) p hp
  refine ⟨cs, h1, h2, fun i u hu => ?_⟩
  have := h3 i u hu
  rw [Nat.add_mul, ← Nat.add_assoc] at this
  exact this
/-- What insert answers: a list that reads as the normal one with s. -/
def RowV (w : World) (L : List Sp) (e : Ending) (w' : World) : Prop := (∃ v', e = .returned v' ∧ Rows 2 ESp w' v' L) ∧ Below w.heap.size w w'

set_option maxRecDepth 100000 in
set_option maxHeartbeats 8000000 in
theorem insert_any {w : World} {v : Value} {m : List Sp} (hv : Rows 2 ESp w v m) (hl : m.length ≤ 100000) (s : Sp) :
    Calls Try.prog 30 #[v, .agg #[.int .i64 s.1, .int .i64 s.2]] w (RowV w (insS s m)) := by
  obtain ⟨A, cap, rfl, hc⟩ := hv.form
  obtain ⟨n, hn⟩ : ∃ n, m.length = n := ⟨_, rfl⟩
  obtain ⟨b, e⟩ := s
  obtain ⟨X, B, hX, hB, hbX, hBX, hcell⟩ := box1 w b e
  have HV := Lib.hid (fun W (h : Below B w W) => hv.below stays_sp (by rw [hB]; exact h))
  rw [hn] at hc hl HV ⊢
  have HN := Lib.hid hn
  obtain ⟨ku, hK⟩ : ∃ K, kS (b, e) m = K := ⟨_, rfl⟩
  have hsp := insS_split (b, e) m
  have hKn := kS_le (b, e) m
  rw [hK] at hsp hKn
  rw [hn] at hKn
  obtain ⟨R, hR⟩ : ∃ R, insS (b, e) m = R := ⟨_, rfl⟩
  rw [hR] at hsp ⊢
  have HSP := Lib.hid hsp
  have HK0 : Hid (kS (b, e) m = 0 + kS (b, e) (m.drop 0)) := Lib.hid (by simp)
  have HK := Lib.hid hK
  have HX := Lib.hid hX
  have HB := Lib.hid hB
  have HBX := Lib.hid (And.intro hbX hBX)
  have HC := Lib.hid hcell
  unfold RowV
  rw [hB]
  clear hv hn hsp hK hR hX hB hbX hBX hcell
  go_enter Try.func30, Try.ntmps30
  go_upto_region 1 with fail
  rw [HX.out, HB.out]
  go_wp2_with fail
  go_loopw [5] (fun kv wr => ∃ k : Nat, k ≤ n ∧ kv = .int .i64 k ∧ Hid (kS (b, e) m = k + kS (b, e) (m.drop k)) ∧ Hid (Below X.heap.size X wr)) (fun kv _ => n - (Go.RowKit.intOf kv).toNat)
  case atStart => exact ⟨0, Nat.zero_le _, rfl, HK0, Lib.hid (Below.refl _ _)⟩
  case round =>
    clear HK0
    obtain ⟨k, hk, rfl, HI, HL⟩ := hrel
    obtain ⟨c0, c1⟩ := HC.out wr HL.out
    by_cases hlt : k < n
    · obtain ⟨q, hq⟩ : ∃ q, m[k]? = some q := ⟨_, List.getElem?_eq_getElem (by rw [HN.out]; exact hlt)⟩
      obtain ⟨bk, off, rfl, hbl, hj⟩ := at_sp (HV.out wr (HBX.out.1.trans (HL.out.mono HBX.out.2))) (by rw [HN.out]; omega)
      obtain ⟨d0, d1⟩ := hj k q hq
      have hst := kS_step hq HI.out
      have HQ := Lib.hid hq
      obtain ⟨q1, q2⟩ := q
      simp only at d0 d1
      have hki : (k : Int) < (n : Int) := by omega
      have hkd : decide ((k : Int) < (n : Int)) = true := by simp; omega
      clear hq hj hbl
      by_cases h1 : q1 < b
      · have HY := Lib.hid (hst.1 (by rw [ltb_iff]; simp only; omega))
        have h1d : decide (q1 < b) = true := by simp; omega
        clear hst HI HQ
        go_wp2_with fail
        go_quiet (fail)
        go_wp2_with fail
        exact ⟨⟨k + 1, by omega, by go_num, HY, Lib.hid (below_drewN HL.out nq)⟩, by simp only [Go.RowKit.intOf]; omega⟩
      · have h1d : decide (q1 < b) = false := by simp; omega
        by_cases h2 : q1 = b
        · subst h2
          by_cases h3 : e < q2
          · have HY := Lib.hid (hst.1 (by rw [ltb_iff]; exact .inr ⟨rfl, h3⟩))
            have h3d : decide (e < q2) = true := by simp; omega
            clear hst HI HQ
            go_wp2_with fail
            go_quiet (fail)
            go_wp2_with fail
            exact ⟨⟨k + 1, by omega, by go_num, HY, Lib.hid (below_drewN HL.out nq)⟩, by simp only [Go.RowKit.intOf]; omega⟩
          · have h3d : decide (e < q2) = false := by simp; omega
            have hKK : ku = k := by rw [← HK.out]; exact hst.2 (by rw [ltb_not]; exact .inr ⟨rfl, by show q2 ≤ e; omega⟩)
            clear hst HI
            subst hKK
            go_wp2_with fail
            go_quiet (fail)
            obtain ⟨W1, hW1⟩ : ∃ W1, wr.drewN nq = W1 := ⟨_, rfl⟩
            have HL1 : Hid (Below X.heap.size X W1) := Lib.hid (by rw [← hW1]; exact below_drewN HL.out nq)
            have d0' : W1.cell? ⟨bk, off + ku * 2, none⟩ = some (.int .i64 q1) := by rw [← hW1]; exact d0
            have d1' : W1.cell? ⟨bk, off + ku * 2 + 1, none⟩ = some (.int .i64 q2) := by rw [← hW1]; exact d1
            obtain ⟨c0', c1'⟩ := HC.out W1 HL1.out
            rw [hW1]
            clear hW1 HL c0 c1 d0 d1
            by_cases h4 : q2 = e
            · subst h4
              have HRR : Hid (R = m) := Lib.hid (by rw [HSP.out, if_pos HQ.out])
              clear HSP HQ
              go_wp2_with fail
              go_quiet (fail)
              obtain ⟨W2, hW2⟩ : ∃ W2, W1.drewN nq = W2 := ⟨_, rfl⟩
              have HL2 : Hid (Below X.heap.size X W2) := Lib.hid (by rw [← hW2]; exact below_drewN HL1.out nq)
              rw [hW2]
              clear hW2 HL1 c0' c1' d0' d1'
              go_wp2_with fail
              go_ret
              have hB := HBX.out.1.trans (HL2.out.mono HBX.out.2)
              exact ⟨⟨_, rfl, by rw [HRR.out]; exact HV.out W2 hB⟩, hB⟩
            · have h4d : (q2 == e) = false := beq_eq_false_iff_ne.2 h4
              have HRR : Hid (R = m.take ku ++ (q1, e) :: m.drop ku) := Lib.hid (by rw [HSP.out, if_neg (by rw [HQ.out]; intro h; injection h with h; injection h with h1 h2; exact h4 h2)])
              have hkn : ku ≤ n := hKn
              clear HSP HQ
              go_wp2_with fail
              go_quiet (fail)
              clear d0' d1'
              obtain ⟨W2, hW2⟩ : ∃ W2, W1.drewN nq = W2 := ⟨_, rfl⟩
              have HL2 : Hid (Below X.heap.size X W2) := Lib.hid (by rw [← hW2]; exact below_drewN HL1.out nq)
              rw [hW2]
              clear hW2 HL1
              (try clear c0' c1')
              have hs1 := sliceS_to (some ⟨bk, off, none⟩) n cap ku hkn hc
              have hs2 := sliceS_from (some ⟨bk, off, none⟩) n cap ku hkn
              unfold sliced at hs2
              (try simp only [Option.map_some, add_plain] at hs2)
              (try simp only [Nat.sub_self] at hs2)
              obtain ⟨w0, hw0⟩ : ∃ w0, W2.drew = w0 := ⟨_, rfl⟩
              have HS := Lib.hid (fun W (h : Below X.heap.size X W) => HC.out W h)
              have HB0 : Hid (Below X.heap.size X w0 ∧ X.heap.size ≤ w0.heap.size) := Lib.hid (by rw [← hw0]; exact ⟨HL2.out.drew, HL2.out.size⟩)
              have HW0 := Lib.hid hw0
              have HT := Lib.hid (fun W (h : Below X.heap.size X W) => rows_to (HV.out W (HBX.out.1.trans (h.mono HBX.out.2))) hkn)
              have hF := fun W (h : Below X.heap.size X W) => rows_from (HV.out W (HBX.out.1.trans (h.mono HBX.out.2))) hkn
              unfold sliced at hF
              (try simp only [Option.map_some, add_plain] at hF)
              (try simp only [Nat.sub_self] at hF)
              have HF := Lib.hid hF
              clear hF
              have HLT : Hid ((m.take ku).length = ku ∧ (m.drop ku).length = n - ku) := Lib.hid ⟨by rw [List.length_take, HN.out]; omega, by rw [List.length_drop, HN.out]⟩
              have HBH : Hid (X.heap.size ≤ w0.heap.size) := Lib.hid HB0.out.2
              clear hw0
              go_wp2_with fail
              refine wp_region_held_drew (S := (fun w' => w'.cell? ⟨B, 0, none⟩ = some (.int .i64 q1) ∧ w'.cell? ⟨B, 1, none⟩ = some (.int .i64 e))) (by kernel_rfl) ?_ (fun hHeld => ?_)
              · (try dsimp only); (rw [HW0.out]; exact HS.out w0 HB0.out.1)
              rw [HW0.out] at hHeld ⊢
              refine wpAnyH_take (i := 0) (oi := ?oi1) (v := ?v1) ?hi1 (by kernel_rfl) (by kernel_rfl) (by kernel_rfl) ?hq1 ?hy1 (by assumption) ?hr1
              case hi1 => (simp only [List.getElem?_toArray, List.getElem?_cons_zero]; rfl)
              case hq1 => exact fun _ _ _ h => h
              case hy1 => exact Or.inl ⟨by rfl, by intro whSw hSw'; (try dsimp only at hSw'); (first | (go_simp; done) | (go_simp; with_reducible rfl))⟩
              try simp only [Act.put, List.setIfInBounds_toArray, List.set_cons_zero, List.set_cons_succ]
              refine wpAnyH_take (i := 1) (oi := ?oi2) (v := ?v2) ?hi2 (by kernel_rfl) (by kernel_rfl) (by kernel_rfl) ?hq2 ?hy2 (by assumption) ?hr2
              case hi2 => (simp only [List.getElem?_toArray, List.getElem?_cons_succ, List.getElem?_cons_zero]; rfl)
              case hq2 => exact fun _ _ _ h => h
              case hy2 => exact Or.inl ⟨by rfl, by intro whSw hSw'; (try dsimp only at hSw'); (first | (go_simp; done) | (go_simp; with_reducible rfl))⟩
              try simp only [Act.put, List.setIfInBounds_toArray, List.set_cons_zero, List.set_cons_succ]
              refine wpAnyH_take (i := 2) (oi := ?oi3) (v := ?v3) ?hi3 (by kernel_rfl) (by kernel_rfl) (by kernel_rfl) ?hq3 ?hy3 (by assumption) ?hr3
              case hi3 => (simp only [List.getElem?_toArray, List.getElem?_cons_succ, List.getElem?_cons_zero]; rfl)
              case hq3 => exact fun _ _ _ h => h
              case hy3 => exact Or.inl ⟨by rfl, by intro whSw hSw'; (try dsimp only at hSw'); (first | (go_simp; done) | (go_simp; with_reducible rfl))⟩
              try simp only [Act.put, List.setIfInBounds_toArray, List.set_cons_zero, List.set_cons_succ]
              refine wpAnyH_take (i := 4) (oi := ?oi4) (v := ?v4) ?hi4 (by kernel_rfl) (by kernel_rfl) (by kernel_rfl) ?hq4 ?hy4 (by assumption) ?hr4
              case hi4 => (simp only [List.getElem?_toArray, List.getElem?_cons_succ, List.getElem?_cons_zero]; rfl)
              case hq4 => exact fun _ _ _ h => h
              case hy4 => exact Or.inl ⟨by rfl, by intro whSw hSw'; (try dsimp only at hSw'); (first | (go_simp; done) | (go_simp; with_reducible rfl))⟩
              try simp only [Act.put, List.setIfInBounds_toArray, List.set_cons_zero, List.set_cons_succ]
              refine wpAnyH_take (i := 7) (oi := ?oi5) (v := ?v5) ?hi5 (by kernel_rfl) (by kernel_rfl) (by kernel_rfl) ?hq5 ?hy5 (by assumption) ?hr5
              case hi5 => (simp only [List.getElem?_toArray, List.getElem?_cons_succ, List.getElem?_cons_zero]; rfl)
              case hq5 => exact fun _ _ _ h => h
              case hy5 => exact Or.inl ⟨by rfl, by intro whSw hSw'; (try dsimp only at hSw'); (first | (go_simp; done) | (go_simp; with_reducible rfl))⟩
              try simp only [Act.put, List.setIfInBounds_toArray, List.set_cons_zero, List.set_cons_succ]
              refine wpAnyH_take (i := 8) (oi := ?oi6) (v := ?v6) ?hi6 (by kernel_rfl) (by kernel_rfl) (by kernel_rfl) ?hq6 ?hy6 (by assumption) ?hr6
              case hi6 => (simp only [List.getElem?_toArray, List.getElem?_cons_succ, List.getElem?_cons_zero]; rfl)
              case hq6 => exact fun _ _ _ h => h
              case hy6 => exact Or.inl ⟨by rfl, by intro whSw hSw'; (try dsimp only at hSw'); (first | (go_simp; done) | (go_simp; with_reducible rfl))⟩
              try simp only [Act.put, List.setIfInBounds_toArray, List.set_cons_zero, List.set_cons_succ]
              refine wpAnyH_take (i := 9) (oi := ?oi7) (v := ?v7) ?hi7 (by kernel_rfl) (by kernel_rfl) (by kernel_rfl) ?hq7 ?hy7 (by assumption) ?hr7
              case hi7 => (simp only [List.getElem?_toArray, List.getElem?_cons_succ, List.getElem?_cons_zero]; rfl)
              case hq7 => exact fun _ _ _ h => h
              case hy7 => exact Or.inl ⟨by rfl, by intro whSw hSw'; (try dsimp only at hSw'); (first | (go_simp; done) | (go_simp; with_reducible rfl))⟩
              try simp only [Act.put, List.setIfInBounds_toArray, List.set_cons_zero, List.set_cons_succ]
              refine wpAnyH_ready (rs := [3, 5]) (by kernel_rfl) (by simp) ?_
              refine AllReadyH.cons (o := ?oo8) ?hi8 (fun K hK => ?hs8) ?hm8
              case hi8 => (simp only [List.getElem?_toArray, List.getElem?_cons_succ, List.getElem?_cons_zero]; rfl)
              · refine step_rowS rfl _ _ rfl X.heap.size HB0.out.2 (.slice none 0 0) 0 [] rfl (World.ownsRow_nil _ _ _ 2) _ (m.take ku) rfl (HT.out w0 HB0.out.1) (by rw [HLT.out.1]; omega) ?_
                intro va zz1 hozz1 hgzz1
                have HOzz1 := Lib.hid hozz1
                have HBzz1 : Hid (Below X.heap.size X zz1 ∧ X.heap.size ≤ zz1.heap.size) := Lib.hid (by have h := HB0.out.1.trans (below_of_grown hgzz1 HB0.out.2 (fun k e => by simp [Value.ownBlock] at e)); exact ⟨h, h.size⟩)
                clear hozz1 hgzz1
                refine hK.out _ _ ?_ (fun hHeld => ?_)
                · (try dsimp only); exact HS.out zz1 HBzz1.out.1
                clear hK K
                try simp only [Act.put, List.setIfInBounds_toArray, List.set_cons_zero, List.set_cons_succ]
                refine wpAnyH_ready (rs := [5]) (by kernel_rfl) (by simp) ?_
                refine AllReadyH.cons (o := ?oo9) ?hi9 (fun K hK => ?hs9) ?hm9
                case hi9 => (simp only [List.getElem?_toArray, List.getElem?_cons_succ, List.getElem?_cons_zero]; rfl)
                · go_simp
                  obtain ⟨zz2, hzz2⟩ : ∃ W', zz1.alloc (.cells #[.int .i64 q1, .int .i64 e] 31) = W' := ⟨_, rfl⟩
                  rw [hzz2]
                  have HEzz2 : Hid (zz2.heap[zz1.heap.size]? = some (.cells #[.int .i64 q1, .int .i64 e] 31 (0, 0))) := Lib.hid (by rw [← hzz2]; exact block_new _ _)
                  have HBzz2 : Hid (Below X.heap.size X zz2 ∧ X.heap.size ≤ zz2.heap.size) := Lib.hid (by rw [← hzz2]; exact ⟨HBzz1.out.1.trans ((below_box _ _).mono HBzz1.out.2), by rw [alloc_sz]; have := HBzz1.out.2; omega⟩)
                  have HOzz2 := Lib.hid (by rw [← hzz2]; exact HOzz1.out.alloc _ : zz2.ownsRow X.heap.size 31 2 va (0 + (m.take ku).length) ([] ++ (m.take ku).flatMap spV))
                  clear hzz2
                  refine hK.out _ _ ?_ (fun hHeld => ?_)
                  · (try dsimp only); exact HS.out zz2 HBzz2.out.1
                  clear hK K
                  try simp only [Act.put, List.setIfInBounds_toArray, List.set_cons_zero, List.set_cons_succ]
                  refine wpAnyH_ready (rs := [6]) (by kernel_rfl) (by simp) ?_
                  refine AllReadyH.cons (o := ?oo10) ?hi10 (fun K hK => ?hs10) ?hm10
                  case hi10 => (simp only [List.getElem?_toArray, List.getElem?_cons_succ, List.getElem?_cons_zero]; rfl)
                  · refine step_rowS rfl _ _ rfl X.heap.size HBzz2.out.2 va _ _ rfl HOzz2.out _ [(q1, e)] rfl (row_one HEzz2.out) (by rw [HLT.out.1]; simp; omega) ?_
                    intro vb zz3 hozz3 hgzz3
                    have HOzz3 := Lib.hid hozz3
                    have hlow := own_low HOzz2.out
                    have HBzz3 : Hid (Below X.heap.size X zz3 ∧ X.heap.size ≤ zz3.heap.size) := Lib.hid (by have h := HBzz2.out.1.trans (below_of_grown hgzz3 HBzz2.out.2 (fun k e => (hlow k e).1)); exact ⟨h, h.size⟩)
                    clear hozz3 hgzz3 hlow
                    refine hK.out _ _ ?_ (fun hHeld => ?_)
                    · (try dsimp only); exact HS.out zz3 HBzz3.out.1
                    clear hK K
                    try simp only [Act.put, List.setIfInBounds_toArray, List.set_cons_zero, List.set_cons_succ]
                    refine wpAnyH_ready (rs := [10]) (by kernel_rfl) (by simp) ?_
                    refine AllReadyH.cons (o := ?oo11) ?hi11 (fun K hK => ?hs11) ?hm11
                    case hi11 => (simp only [List.getElem?_toArray, List.getElem?_cons_succ, List.getElem?_cons_zero]; rfl)
                    · refine step_rowS rfl _ _ rfl X.heap.size HBzz3.out.2 vb _ _ rfl HOzz3.out _ (m.drop ku) rfl (HF.out zz3 HBzz3.out.1) (by rw [HLT.out.1, HLT.out.2]; simp; omega) ?_
                      intro vc zz4 hozz4 hgzz4
                      have HOzz4 := Lib.hid hozz4
                      have hlow := own_low HOzz3.out
                      have HBzz4 : Hid (Below X.heap.size X zz4 ∧ X.heap.size ≤ zz4.heap.size) := Lib.hid (by have h := HBzz3.out.1.trans (below_of_grown hgzz4 HBzz3.out.2 (fun k e => (hlow k e).1)); exact ⟨h, h.size⟩)
                      clear hozz4 hgzz4 hlow
                      refine hK.out _ _ ?_ (fun hHeld => ?_)
                      · (try dsimp only); exact HS.out zz4 HBzz4.out.1
                      clear hK K
                      try simp only [Act.put, List.setIfInBounds_toArray, List.set_cons_zero, List.set_cons_succ]
                      refine wpAnyH_take (i := 11) (oi := ?oi12) (v := ?v12) ?hi12 (by kernel_rfl) (by kernel_rfl) (by kernel_rfl) ?hq12 ?hy12 (by assumption) ?hr12
                      case hi12 => (simp only [List.getElem?_toArray, List.getElem?_cons_succ, List.getElem?_cons_zero]; rfl)
                      case hq12 => exact fun _ _ _ h => h
                      case hy12 => exact Or.inl ⟨by rfl, by intro whSw hSw'; (try dsimp only at hSw'); (first | (go_simp; done) | (go_simp; with_reducible rfl))⟩
                      try simp only [Act.put, List.setIfInBounds_toArray, List.set_cons_zero, List.set_cons_succ]
                      refine wpAnyH_done (by kernel_rfl) ?_ _
                      have hrow : Rows 2 ESp zz4 vc R := by
                        have hr := HRR.out
                        have e1 : ([] ++ (m.take ku).flatMap spV) ++ [(q1, e)].flatMap spV ++ (m.drop ku).flatMap spV = R.flatMap spV := by rw [hr]; simp
                        have e2 : 0 + (m.take ku).length + [(q1, e)].length + (m.drop ku).length = R.length := by rw [hr]; simp; omega
                        have ho := HOzz4.out
                        rw [e1, e2] at ho
                        exact own_sp ho
                      have HROW := Lib.hid (And.intro hrow (HBX.out.1.trans (HBzz4.out.1.mono HBX.out.2)))
                      clear hrow
                      go_wp2_with fail
                      all_goals (go_ret; exact ⟨⟨_, rfl, HROW.out.1⟩, HROW.out.2⟩)
                    exact AllReadyH.nil
                  exact AllReadyH.nil
                exact AllReadyH.nil
              refine AllReadyH.cons (o := ?oo13) ?hi13 (fun K hK => ?hs13) ?hm13
              case hi13 => (simp only [List.getElem?_toArray, List.getElem?_cons_succ, List.getElem?_cons_zero]; rfl)
              · go_simp
                obtain ⟨zz5, hzz5⟩ : ∃ W', w0.alloc (.cells #[.int .i64 q1, .int .i64 e] 31) = W' := ⟨_, rfl⟩
                rw [hzz5]
                have HEzz5 : Hid (zz5.heap[w0.heap.size]? = some (.cells #[.int .i64 q1, .int .i64 e] 31 (0, 0))) := Lib.hid (by rw [← hzz5]; exact block_new _ _)
                have HBzz5 : Hid (Below X.heap.size X zz5 ∧ X.heap.size ≤ zz5.heap.size) := Lib.hid (by rw [← hzz5]; exact ⟨HB0.out.1.trans ((below_box _ _).mono HB0.out.2), by rw [alloc_sz]; have := HB0.out.2; omega⟩)
                clear hzz5
                refine hK.out _ _ ?_ (fun hHeld => ?_)
                · (try dsimp only); exact HS.out zz5 HBzz5.out.1
                clear hK K
                try simp only [Act.put, List.setIfInBounds_toArray, List.set_cons_zero, List.set_cons_succ]
                refine wpAnyH_ready (rs := [3]) (by kernel_rfl) (by simp) ?_
                refine AllReadyH.cons (o := ?oo14) ?hi14 (fun K hK => ?hs14) ?hm14
                case hi14 => (simp only [List.getElem?_toArray, List.getElem?_cons_succ, List.getElem?_cons_zero]; rfl)
                · refine step_rowS rfl _ _ rfl X.heap.size HBzz5.out.2 (.slice none 0 0) 0 [] rfl (World.ownsRow_nil _ _ _ 2) _ (m.take ku) rfl (HT.out zz5 HBzz5.out.1) (by rw [HLT.out.1]; omega) ?_
                  intro va zz6 hozz6 hgzz6
                  have HOzz6 := Lib.hid hozz6
                  have HBzz6 : Hid (Below X.heap.size X zz6 ∧ X.heap.size ≤ zz6.heap.size) := Lib.hid (by have h := HBzz5.out.1.trans (below_of_grown hgzz6 HBzz5.out.2 (fun k e => by simp [Value.ownBlock] at e)); exact ⟨h, h.size⟩)
                  have HEzz6 := Lib.hid ((hgzz6.block w0.heap.size (Array.getElem?_eq_some_iff.1 HEzz5.out).1 (fun e => by simp [Value.ownBlock] at e)).trans HEzz5.out)
                  clear hozz6 hgzz6
                  refine hK.out _ _ ?_ (fun hHeld => ?_)
                  · (try dsimp only); exact HS.out zz6 HBzz6.out.1
                  clear hK K
                  try simp only [Act.put, List.setIfInBounds_toArray, List.set_cons_zero, List.set_cons_succ]
                  refine wpAnyH_ready (rs := [6]) (by kernel_rfl) (by simp) ?_
                  refine AllReadyH.cons (o := ?oo15) ?hi15 (fun K hK => ?hs15) ?hm15
                  case hi15 => (simp only [List.getElem?_toArray, List.getElem?_cons_succ, List.getElem?_cons_zero]; rfl)
                  · refine step_rowS rfl _ _ rfl X.heap.size HBzz6.out.2 va _ _ rfl HOzz6.out _ [(q1, e)] rfl (row_one HEzz6.out) (by rw [HLT.out.1]; simp; omega) ?_
                    intro vb zz7 hozz7 hgzz7
                    have HOzz7 := Lib.hid hozz7
                    have hlow := own_low HOzz6.out
                    have HBzz7 : Hid (Below X.heap.size X zz7 ∧ X.heap.size ≤ zz7.heap.size) := Lib.hid (by have h := HBzz6.out.1.trans (below_of_grown hgzz7 HBzz6.out.2 (fun k e => (hlow k e).1)); exact ⟨h, h.size⟩)
                    clear hozz7 hgzz7 hlow
                    refine hK.out _ _ ?_ (fun hHeld => ?_)
                    · (try dsimp only); exact HS.out zz7 HBzz7.out.1
                    clear hK K
                    try simp only [Act.put, List.setIfInBounds_toArray, List.set_cons_zero, List.set_cons_succ]
                    refine wpAnyH_ready (rs := [10]) (by kernel_rfl) (by simp) ?_
                    refine AllReadyH.cons (o := ?oo16) ?hi16 (fun K hK => ?hs16) ?hm16
                    case hi16 => (simp only [List.getElem?_toArray, List.getElem?_cons_succ, List.getElem?_cons_zero]; rfl)
                    · refine step_rowS rfl _ _ rfl X.heap.size HBzz7.out.2 vb _ _ rfl HOzz7.out _ (m.drop ku) rfl (HF.out zz7 HBzz7.out.1) (by rw [HLT.out.1, HLT.out.2]; simp; omega) ?_
                      intro vc zz8 hozz8 hgzz8
                      have HOzz8 := Lib.hid hozz8
                      have hlow := own_low HOzz7.out
                      have HBzz8 : Hid (Below X.heap.size X zz8 ∧ X.heap.size ≤ zz8.heap.size) := Lib.hid (by have h := HBzz7.out.1.trans (below_of_grown hgzz8 HBzz7.out.2 (fun k e => (hlow k e).1)); exact ⟨h, h.size⟩)
                      clear hozz8 hgzz8 hlow
                      refine hK.out _ _ ?_ (fun hHeld => ?_)
                      · (try dsimp only); exact HS.out zz8 HBzz8.out.1
                      clear hK K
                      try simp only [Act.put, List.setIfInBounds_toArray, List.set_cons_zero, List.set_cons_succ]
                      refine wpAnyH_take (i := 11) (oi := ?oi17) (v := ?v17) ?hi17 (by kernel_rfl) (by kernel_rfl) (by kernel_rfl) ?hq17 ?hy17 (by assumption) ?hr17
                      case hi17 => (simp only [List.getElem?_toArray, List.getElem?_cons_succ, List.getElem?_cons_zero]; rfl)
                      case hq17 => exact fun _ _ _ h => h
                      case hy17 => exact Or.inl ⟨by rfl, by intro whSw hSw'; (try dsimp only at hSw'); (first | (go_simp; done) | (go_simp; with_reducible rfl))⟩
                      try simp only [Act.put, List.setIfInBounds_toArray, List.set_cons_zero, List.set_cons_succ]
                      refine wpAnyH_done (by kernel_rfl) ?_ _
                      have hrow : Rows 2 ESp zz8 vc R := by
                        have hr := HRR.out
                        have e1 : ([] ++ (m.take ku).flatMap spV) ++ [(q1, e)].flatMap spV ++ (m.drop ku).flatMap spV = R.flatMap spV := by rw [hr]; simp
                        have e2 : 0 + (m.take ku).length + [(q1, e)].length + (m.drop ku).length = R.length := by rw [hr]; simp; omega
                        have ho := HOzz8.out
                        rw [e1, e2] at ho
                        exact own_sp ho
                      have HROW := Lib.hid (And.intro hrow (HBX.out.1.trans (HBzz8.out.1.mono HBX.out.2)))
                      clear hrow
                      go_wp2_with fail
                      all_goals (go_ret; exact ⟨⟨_, rfl, HROW.out.1⟩, HROW.out.2⟩)
                    exact AllReadyH.nil
                  exact AllReadyH.nil
                exact AllReadyH.nil
              exact AllReadyH.nil
        · have h2d : (q1 == b) = false := beq_eq_false_iff_ne.2 h2
          have hKK : ku = k := by rw [← HK.out]; exact hst.2 (by rw [ltb_not]; simp only; omega)
          clear hst HI
          subst hKK
          go_wp2_with fail
          go_quiet (fail)
          obtain ⟨W1, hW1⟩ : ∃ W1, wr.drewN nq = W1 := ⟨_, rfl⟩
          have HL1 : Hid (Below X.heap.size X W1) := Lib.hid (by rw [← hW1]; exact below_drewN HL.out nq)
          have d0' : W1.cell? ⟨bk, off + ku * 2, none⟩ = some (.int .i64 q1) := by rw [← hW1]; exact d0
          have d1' : W1.cell? ⟨bk, off + ku * 2 + 1, none⟩ = some (.int .i64 q2) := by rw [← hW1]; exact d1
          obtain ⟨c0', c1'⟩ := HC.out W1 HL1.out
          rw [hW1]
          clear hW1 HL c0 c1 d0 d1
          have HRR : Hid (R = m.take ku ++ (b, e) :: m.drop ku) := Lib.hid (by rw [HSP.out, if_neg (by rw [HQ.out]; intro h; injection h with h; injection h with hh1 hh2; exact h2 hh1)])
          have hkn : ku ≤ n := hKn
          clear HSP HQ
          go_wp2_with fail
          go_quiet (fail)
          clear d0' d1'
          obtain ⟨W2, hW2⟩ : ∃ W2, W1.drewN nq = W2 := ⟨_, rfl⟩
          have HL2 : Hid (Below X.heap.size X W2) := Lib.hid (by rw [← hW2]; exact below_drewN HL1.out nq)
          rw [hW2]
          clear hW2 HL1
          (try clear c0' c1')
          have hs1 := sliceS_to (some ⟨bk, off, none⟩) n cap ku hkn hc
          have hs2 := sliceS_from (some ⟨bk, off, none⟩) n cap ku hkn
          unfold sliced at hs2
          (try simp only [Option.map_some, add_plain] at hs2)
          (try simp only [Nat.sub_self] at hs2)
          obtain ⟨w0, hw0⟩ : ∃ w0, W2.drew = w0 := ⟨_, rfl⟩
          have HS := Lib.hid (fun W (h : Below X.heap.size X W) => HC.out W h)
          have HB0 : Hid (Below X.heap.size X w0 ∧ X.heap.size ≤ w0.heap.size) := Lib.hid (by rw [← hw0]; exact ⟨HL2.out.drew, HL2.out.size⟩)
          have HW0 := Lib.hid hw0
          have HT := Lib.hid (fun W (h : Below X.heap.size X W) => rows_to (HV.out W (HBX.out.1.trans (h.mono HBX.out.2))) hkn)
          have hF := fun W (h : Below X.heap.size X W) => rows_from (HV.out W (HBX.out.1.trans (h.mono HBX.out.2))) hkn
          unfold sliced at hF
          (try simp only [Option.map_some, add_plain] at hF)
          (try simp only [Nat.sub_self] at hF)
          have HF := Lib.hid hF
          clear hF
          have HLT : Hid ((m.take ku).length = ku ∧ (m.drop ku).length = n - ku) := Lib.hid ⟨by rw [List.length_take, HN.out]; omega, by rw [List.length_drop, HN.out]⟩
          have HBH : Hid (X.heap.size ≤ w0.heap.size) := Lib.hid HB0.out.2
          clear hw0
          go_wp2_with fail
          refine wp_region_held_drew (S := (fun w' => w'.cell? ⟨B, 0, none⟩ = some (.int .i64 b) ∧ w'.cell? ⟨B, 1, none⟩ = some (.int .i64 e))) (by kernel_rfl) ?_ (fun hHeld => ?_)
          · (try dsimp only); (rw [HW0.out]; exact HS.out w0 HB0.out.1)
          rw [HW0.out] at hHeld ⊢
          refine wpAnyH_take (i := 0) (oi := ?oi1001) (v := ?v1001) ?hi1001 (by kernel_rfl) (by kernel_rfl) (by kernel_rfl) ?hq1001 ?hy1001 (by assumption) ?hr1001
          case hi1001 => (simp only [List.getElem?_toArray, List.getElem?_cons_zero]; rfl)
          case hq1001 => exact fun _ _ _ h => h
          case hy1001 => exact Or.inl ⟨by rfl, by intro whSw hSw'; (try dsimp only at hSw'); (first | (go_simp; done) | (go_simp; with_reducible rfl))⟩
          try simp only [Act.put, List.setIfInBounds_toArray, List.set_cons_zero, List.set_cons_succ]
          refine wpAnyH_take (i := 1) (oi := ?oi1002) (v := ?v1002) ?hi1002 (by kernel_rfl) (by kernel_rfl) (by kernel_rfl) ?hq1002 ?hy1002 (by assumption) ?hr1002
          case hi1002 => (simp only [List.getElem?_toArray, List.getElem?_cons_succ, List.getElem?_cons_zero]; rfl)
          case hq1002 => exact fun _ _ _ h => h
          case hy1002 => exact Or.inl ⟨by rfl, by intro whSw hSw'; (try dsimp only at hSw'); (first | (go_simp; done) | (go_simp; with_reducible rfl))⟩
          try simp only [Act.put, List.setIfInBounds_toArray, List.set_cons_zero, List.set_cons_succ]
          refine wpAnyH_take (i := 2) (oi := ?oi1003) (v := ?v1003) ?hi1003 (by kernel_rfl) (by kernel_rfl) (by kernel_rfl) ?hq1003 ?hy1003 (by assumption) ?hr1003
          case hi1003 => (simp only [List.getElem?_toArray, List.getElem?_cons_succ, List.getElem?_cons_zero]; rfl)
          case hq1003 => exact fun _ _ _ h => h
          case hy1003 => exact Or.inl ⟨by rfl, by intro whSw hSw'; (try dsimp only at hSw'); (first | (go_simp; done) | (go_simp; with_reducible rfl))⟩
          try simp only [Act.put, List.setIfInBounds_toArray, List.set_cons_zero, List.set_cons_succ]
          refine wpAnyH_take (i := 4) (oi := ?oi1004) (v := ?v1004) ?hi1004 (by kernel_rfl) (by kernel_rfl) (by kernel_rfl) ?hq1004 ?hy1004 (by assumption) ?hr1004
          case hi1004 => (simp only [List.getElem?_toArray, List.getElem?_cons_succ, List.getElem?_cons_zero]; rfl)
          case hq1004 => exact fun _ _ _ h => h
          case hy1004 => exact Or.inl ⟨by rfl, by intro whSw hSw'; (try dsimp only at hSw'); (first | (go_simp; done) | (go_simp; with_reducible rfl))⟩
          try simp only [Act.put, List.setIfInBounds_toArray, List.set_cons_zero, List.set_cons_succ]
          refine wpAnyH_take (i := 7) (oi := ?oi1005) (v := ?v1005) ?hi1005 (by kernel_rfl) (by kernel_rfl) (by kernel_rfl) ?hq1005 ?hy1005 (by assumption) ?hr1005
          case hi1005 => (simp only [List.getElem?_toArray, List.getElem?_cons_succ, List.getElem?_cons_zero]; rfl)
          case hq1005 => exact fun _ _ _ h => h
          case hy1005 => exact Or.inl ⟨by rfl, by intro whSw hSw'; (try dsimp only at hSw'); (first | (go_simp; done) | (go_simp; with_reducible rfl))⟩
          try simp only [Act.put, List.setIfInBounds_toArray, List.set_cons_zero, List.set_cons_succ]
          refine wpAnyH_take (i := 8) (oi := ?oi1006) (v := ?v1006) ?hi1006 (by kernel_rfl) (by kernel_rfl) (by kernel_rfl) ?hq1006 ?hy1006 (by assumption) ?hr1006
          case hi1006 => (simp only [List.getElem?_toArray, List.getElem?_cons_succ, List.getElem?_cons_zero]; rfl)
          case hq1006 => exact fun _ _ _ h => h
          case hy1006 => exact Or.inl ⟨by rfl, by intro whSw hSw'; (try dsimp only at hSw'); (first | (go_simp; done) | (go_simp; with_reducible rfl))⟩
          try simp only [Act.put, List.setIfInBounds_toArray, List.set_cons_zero, List.set_cons_succ]
          refine wpAnyH_take (i := 9) (oi := ?oi1007) (v := ?v1007) ?hi1007 (by kernel_rfl) (by kernel_rfl) (by kernel_rfl) ?hq1007 ?hy1007 (by assumption) ?hr1007
          case hi1007 => (simp only [List.getElem?_toArray, List.getElem?_cons_succ, List.getElem?_cons_zero]; rfl)
          case hq1007 => exact fun _ _ _ h => h
          case hy1007 => exact Or.inl ⟨by rfl, by intro whSw hSw'; (try dsimp only at hSw'); (first | (go_simp; done) | (go_simp; with_reducible rfl))⟩
          try simp only [Act.put, List.setIfInBounds_toArray, List.set_cons_zero, List.set_cons_succ]
          refine wpAnyH_ready (rs := [3, 5]) (by kernel_rfl) (by simp) ?_
          refine AllReadyH.cons (o := ?oo1008) ?hi1008 (fun K hK => ?hs1008) ?hm1008
          case hi1008 => (simp only [List.getElem?_toArray, List.getElem?_cons_succ, List.getElem?_cons_zero]; rfl)
          · refine step_rowS rfl _ _ rfl X.heap.size HB0.out.2 (.slice none 0 0) 0 [] rfl (World.ownsRow_nil _ _ _ 2) _ (m.take ku) rfl (HT.out w0 HB0.out.1) (by rw [HLT.out.1]; omega) ?_
            intro va zz1 hozz1 hgzz1
            have HOzz1 := Lib.hid hozz1
            have HBzz1 : Hid (Below X.heap.size X zz1 ∧ X.heap.size ≤ zz1.heap.size) := Lib.hid (by have h := HB0.out.1.trans (below_of_grown hgzz1 HB0.out.2 (fun k e => by simp [Value.ownBlock] at e)); exact ⟨h, h.size⟩)
            clear hozz1 hgzz1
            refine hK.out _ _ ?_ (fun hHeld => ?_)
            · (try dsimp only); exact HS.out zz1 HBzz1.out.1
            clear hK K
            try simp only [Act.put, List.setIfInBounds_toArray, List.set_cons_zero, List.set_cons_succ]
            refine wpAnyH_ready (rs := [5]) (by kernel_rfl) (by simp) ?_
            refine AllReadyH.cons (o := ?oo1009) ?hi1009 (fun K hK => ?hs1009) ?hm1009
            case hi1009 => (simp only [List.getElem?_toArray, List.getElem?_cons_succ, List.getElem?_cons_zero]; rfl)
            · go_simp
              obtain ⟨zz2, hzz2⟩ : ∃ W', zz1.alloc (.cells #[.int .i64 b, .int .i64 e] 31) = W' := ⟨_, rfl⟩
              rw [hzz2]
              have HEzz2 : Hid (zz2.heap[zz1.heap.size]? = some (.cells #[.int .i64 b, .int .i64 e] 31 (0, 0))) := Lib.hid (by rw [← hzz2]; exact block_new _ _)
              have HBzz2 : Hid (Below X.heap.size X zz2 ∧ X.heap.size ≤ zz2.heap.size) := Lib.hid (by rw [← hzz2]; exact ⟨HBzz1.out.1.trans ((below_box _ _).mono HBzz1.out.2), by rw [alloc_sz]; have := HBzz1.out.2; omega⟩)
              have HOzz2 := Lib.hid (by rw [← hzz2]; exact HOzz1.out.alloc _ : zz2.ownsRow X.heap.size 31 2 va (0 + (m.take ku).length) ([] ++ (m.take ku).flatMap spV))
              clear hzz2
              refine hK.out _ _ ?_ (fun hHeld => ?_)
              · (try dsimp only); exact HS.out zz2 HBzz2.out.1
              clear hK K
              try simp only [Act.put, List.setIfInBounds_toArray, List.set_cons_zero, List.set_cons_succ]
              refine wpAnyH_ready (rs := [6]) (by kernel_rfl) (by simp) ?_
              refine AllReadyH.cons (o := ?oo1010) ?hi1010 (fun K hK => ?hs1010) ?hm1010
              case hi1010 => (simp only [List.getElem?_toArray, List.getElem?_cons_succ, List.getElem?_cons_zero]; rfl)
              · refine step_rowS rfl _ _ rfl X.heap.size HBzz2.out.2 va _ _ rfl HOzz2.out _ [(b, e)] rfl (row_one HEzz2.out) (by rw [HLT.out.1]; simp; omega) ?_
                intro vb zz3 hozz3 hgzz3
                have HOzz3 := Lib.hid hozz3
                have hlow := own_low HOzz2.out
                have HBzz3 : Hid (Below X.heap.size X zz3 ∧ X.heap.size ≤ zz3.heap.size) := Lib.hid (by have h := HBzz2.out.1.trans (below_of_grown hgzz3 HBzz2.out.2 (fun k e => (hlow k e).1)); exact ⟨h, h.size⟩)
                clear hozz3 hgzz3 hlow
                refine hK.out _ _ ?_ (fun hHeld => ?_)
                · (try dsimp only); exact HS.out zz3 HBzz3.out.1
                clear hK K
                try simp only [Act.put, List.setIfInBounds_toArray, List.set_cons_zero, List.set_cons_succ]
                refine wpAnyH_ready (rs := [10]) (by kernel_rfl) (by simp) ?_
                refine AllReadyH.cons (o := ?oo1011) ?hi1011 (fun K hK => ?hs1011) ?hm1011
                case hi1011 => (simp only [List.getElem?_toArray, List.getElem?_cons_succ, List.getElem?_cons_zero]; rfl)
                · refine step_rowS rfl _ _ rfl X.heap.size HBzz3.out.2 vb _ _ rfl HOzz3.out _ (m.drop ku) rfl (HF.out zz3 HBzz3.out.1) (by rw [HLT.out.1, HLT.out.2]; simp; omega) ?_
                  intro vc zz4 hozz4 hgzz4
                  have HOzz4 := Lib.hid hozz4
                  have hlow := own_low HOzz3.out
                  have HBzz4 : Hid (Below X.heap.size X zz4 ∧ X.heap.size ≤ zz4.heap.size) := Lib.hid (by have h := HBzz3.out.1.trans (below_of_grown hgzz4 HBzz3.out.2 (fun k e => (hlow k e).1)); exact ⟨h, h.size⟩)
                  clear hozz4 hgzz4 hlow
                  refine hK.out _ _ ?_ (fun hHeld => ?_)
                  · (try dsimp only); exact HS.out zz4 HBzz4.out.1
                  clear hK K
                  try simp only [Act.put, List.setIfInBounds_toArray, List.set_cons_zero, List.set_cons_succ]
                  refine wpAnyH_take (i := 11) (oi := ?oi1012) (v := ?v1012) ?hi1012 (by kernel_rfl) (by kernel_rfl) (by kernel_rfl) ?hq1012 ?hy1012 (by assumption) ?hr1012
                  case hi1012 => (simp only [List.getElem?_toArray, List.getElem?_cons_succ, List.getElem?_cons_zero]; rfl)
                  case hq1012 => exact fun _ _ _ h => h
                  case hy1012 => exact Or.inl ⟨by rfl, by intro whSw hSw'; (try dsimp only at hSw'); (first | (go_simp; done) | (go_simp; with_reducible rfl))⟩
                  try simp only [Act.put, List.setIfInBounds_toArray, List.set_cons_zero, List.set_cons_succ]
                  refine wpAnyH_done (by kernel_rfl) ?_ _
                  have hrow : Rows 2 ESp zz4 vc R := by
                    have hr := HRR.out
                    have e1 : ([] ++ (m.take ku).flatMap spV) ++ [(b, e)].flatMap spV ++ (m.drop ku).flatMap spV = R.flatMap spV := by rw [hr]; simp
                    have e2 : 0 + (m.take ku).length + [(b, e)].length + (m.drop ku).length = R.length := by rw [hr]; simp; omega
                    have ho := HOzz4.out
                    rw [e1, e2] at ho
                    exact own_sp ho
                  have HROW := Lib.hid (And.intro hrow (HBX.out.1.trans (HBzz4.out.1.mono HBX.out.2)))
                  clear hrow
                  go_wp2_with fail
                  all_goals (go_ret; exact ⟨⟨_, rfl, HROW.out.1⟩, HROW.out.2⟩)
                exact AllReadyH.nil
              exact AllReadyH.nil
            exact AllReadyH.nil
          refine AllReadyH.cons (o := ?oo1013) ?hi1013 (fun K hK => ?hs1013) ?hm1013
          case hi1013 => (simp only [List.getElem?_toArray, List.getElem?_cons_succ, List.getElem?_cons_zero]; rfl)
          · go_simp
            obtain ⟨zz5, hzz5⟩ : ∃ W', w0.alloc (.cells #[.int .i64 b, .int .i64 e] 31) = W' := ⟨_, rfl⟩
            rw [hzz5]
            have HEzz5 : Hid (zz5.heap[w0.heap.size]? = some (.cells #[.int .i64 b, .int .i64 e] 31 (0, 0))) := Lib.hid (by rw [← hzz5]; exact block_new _ _)
            have HBzz5 : Hid (Below X.heap.size X zz5 ∧ X.heap.size ≤ zz5.heap.size) := Lib.hid (by rw [← hzz5]; exact ⟨HB0.out.1.trans ((below_box _ _).mono HB0.out.2), by rw [alloc_sz]; have := HB0.out.2; omega⟩)
            clear hzz5
            refine hK.out _ _ ?_ (fun hHeld => ?_)
            · (try dsimp only); exact HS.out zz5 HBzz5.out.1
            clear hK K
            try simp only [Act.put, List.setIfInBounds_toArray, List.set_cons_zero, List.set_cons_succ]
            refine wpAnyH_ready (rs := [3]) (by kernel_rfl) (by simp) ?_
            refine AllReadyH.cons (o := ?oo1014) ?hi1014 (fun K hK => ?hs1014) ?hm1014
            case hi1014 => (simp only [List.getElem?_toArray, List.getElem?_cons_succ, List.getElem?_cons_zero]; rfl)
            · refine step_rowS rfl _ _ rfl X.heap.size HBzz5.out.2 (.slice none 0 0) 0 [] rfl (World.ownsRow_nil _ _ _ 2) _ (m.take ku) rfl (HT.out zz5 HBzz5.out.1) (by rw [HLT.out.1]; omega) ?_
              intro va zz6 hozz6 hgzz6
              have HOzz6 := Lib.hid hozz6
              have HBzz6 : Hid (Below X.heap.size X zz6 ∧ X.heap.size ≤ zz6.heap.size) := Lib.hid (by have h := HBzz5.out.1.trans (below_of_grown hgzz6 HBzz5.out.2 (fun k e => by simp [Value.ownBlock] at e)); exact ⟨h, h.size⟩)
              have HEzz6 := Lib.hid ((hgzz6.block w0.heap.size (Array.getElem?_eq_some_iff.1 HEzz5.out).1 (fun e => by simp [Value.ownBlock] at e)).trans HEzz5.out)
              clear hozz6 hgzz6
              refine hK.out _ _ ?_ (fun hHeld => ?_)
              · (try dsimp only); exact HS.out zz6 HBzz6.out.1
              clear hK K
              try simp only [Act.put, List.setIfInBounds_toArray, List.set_cons_zero, List.set_cons_succ]
              refine wpAnyH_ready (rs := [6]) (by kernel_rfl) (by simp) ?_
              refine AllReadyH.cons (o := ?oo1015) ?hi1015 (fun K hK => ?hs1015) ?hm1015
              case hi1015 => (simp only [List.getElem?_toArray, List.getElem?_cons_succ, List.getElem?_cons_zero]; rfl)
              · refine step_rowS rfl _ _ rfl X.heap.size HBzz6.out.2 va _ _ rfl HOzz6.out _ [(b, e)] rfl (row_one HEzz6.out) (by rw [HLT.out.1]; simp; omega) ?_
                intro vb zz7 hozz7 hgzz7
                have HOzz7 := Lib.hid hozz7
                have hlow := own_low HOzz6.out
                have HBzz7 : Hid (Below X.heap.size X zz7 ∧ X.heap.size ≤ zz7.heap.size) := Lib.hid (by have h := HBzz6.out.1.trans (below_of_grown hgzz7 HBzz6.out.2 (fun k e => (hlow k e).1)); exact ⟨h, h.size⟩)
                clear hozz7 hgzz7 hlow
                refine hK.out _ _ ?_ (fun hHeld => ?_)
                · (try dsimp only); exact HS.out zz7 HBzz7.out.1
                clear hK K
                try simp only [Act.put, List.setIfInBounds_toArray, List.set_cons_zero, List.set_cons_succ]
                refine wpAnyH_ready (rs := [10]) (by kernel_rfl) (by simp) ?_
                refine AllReadyH.cons (o := ?oo1016) ?hi1016 (fun K hK => ?hs1016) ?hm1016
                case hi1016 => (simp only [List.getElem?_toArray, List.getElem?_cons_succ, List.getElem?_cons_zero]; rfl)
                · refine step_rowS rfl _ _ rfl X.heap.size HBzz7.out.2 vb _ _ rfl HOzz7.out _ (m.drop ku) rfl (HF.out zz7 HBzz7.out.1) (by rw [HLT.out.1, HLT.out.2]; simp; omega) ?_
                  intro vc zz8 hozz8 hgzz8
                  have HOzz8 := Lib.hid hozz8
                  have hlow := own_low HOzz7.out
                  have HBzz8 : Hid (Below X.heap.size X zz8 ∧ X.heap.size ≤ zz8.heap.size) := Lib.hid (by have h := HBzz7.out.1.trans (below_of_grown hgzz8 HBzz7.out.2 (fun k e => (hlow k e).1)); exact ⟨h, h.size⟩)
                  clear hozz8 hgzz8 hlow
                  refine hK.out _ _ ?_ (fun hHeld => ?_)
                  · (try dsimp only); exact HS.out zz8 HBzz8.out.1
                  clear hK K
                  try simp only [Act.put, List.setIfInBounds_toArray, List.set_cons_zero, List.set_cons_succ]
                  refine wpAnyH_take (i := 11) (oi := ?oi1017) (v := ?v1017) ?hi1017 (by kernel_rfl) (by kernel_rfl) (by kernel_rfl) ?hq1017 ?hy1017 (by assumption) ?hr1017
                  case hi1017 => (simp only [List.getElem?_toArray, List.getElem?_cons_succ, List.getElem?_cons_zero]; rfl)
                  case hq1017 => exact fun _ _ _ h => h
                  case hy1017 => exact Or.inl ⟨by rfl, by intro whSw hSw'; (try dsimp only at hSw'); (first | (go_simp; done) | (go_simp; with_reducible rfl))⟩
                  try simp only [Act.put, List.setIfInBounds_toArray, List.set_cons_zero, List.set_cons_succ]
                  refine wpAnyH_done (by kernel_rfl) ?_ _
                  have hrow : Rows 2 ESp zz8 vc R := by
                    have hr := HRR.out
                    have e1 : ([] ++ (m.take ku).flatMap spV) ++ [(b, e)].flatMap spV ++ (m.drop ku).flatMap spV = R.flatMap spV := by rw [hr]; simp
                    have e2 : 0 + (m.take ku).length + [(b, e)].length + (m.drop ku).length = R.length := by rw [hr]; simp; omega
                    have ho := HOzz8.out
                    rw [e1, e2] at ho
                    exact own_sp ho
                  have HROW := Lib.hid (And.intro hrow (HBX.out.1.trans (HBzz8.out.1.mono HBX.out.2)))
                  clear hrow
                  go_wp2_with fail
                  all_goals (go_ret; exact ⟨⟨_, rfl, HROW.out.1⟩, HROW.out.2⟩)
                exact AllReadyH.nil
              exact AllReadyH.nil
            exact AllReadyH.nil
          exact AllReadyH.nil
    · obtain rfl : k = n := by omega
      have hkd : decide ((k : Int) < (k : Int)) = false := by simp
      have hKK : ku = k := by
        have := HI.out
        rw [List.drop_eq_nil_of_le (by rw [HN.out]; exact Nat.le_refl _), HK.out] at this
        simpa [kS] using this
      subst hKK
      have hnone : ¬ m[ku]? = some (b, e) := by rw [List.getElem?_eq_none (by rw [HN.out]; exact Nat.le_refl _)]; simp
      have hRR := HSP.out
      rw [if_neg hnone] at hRR
      have HRR := Lib.hid hRR
      have hkn : ku ≤ ku := Nat.le_refl _
      clear hRR hnone HI HK HSP
      go_wp2_with fail
      go_quiet (fail)
      obtain ⟨W1, hW1⟩ : ∃ W1, wr.drewN nq = W1 := ⟨_, rfl⟩
      have HL1 : Hid (Below X.heap.size X W1) := Lib.hid (by rw [← hW1]; exact below_drewN HL.out nq)
      rw [hW1]
      clear hW1 HL c0 c1
      go_wp2_with fail
      go_quiet (fail)
      obtain ⟨W2, hW2⟩ : ∃ W2, W1.drewN nq = W2 := ⟨_, rfl⟩
      have HL2 : Hid (Below X.heap.size X W2) := Lib.hid (by rw [← hW2]; exact below_drewN HL1.out nq)
      rw [hW2]
      clear hW2 HL1
      (try clear c0' c1')
      have hs1 := sliceS_to A ku cap ku hkn hc
      have hs2 := sliceS_from A ku cap ku hkn
      unfold sliced at hs2
      (try simp only [Option.map_some, add_plain] at hs2)
      (try simp only [Nat.sub_self] at hs2)
      obtain ⟨w0, hw0⟩ : ∃ w0, W2.drew = w0 := ⟨_, rfl⟩
      have HS := Lib.hid (fun W (h : Below X.heap.size X W) => HC.out W h)
      have HB0 : Hid (Below X.heap.size X w0 ∧ X.heap.size ≤ w0.heap.size) := Lib.hid (by rw [← hw0]; exact ⟨HL2.out.drew, HL2.out.size⟩)
      have HW0 := Lib.hid hw0
      have HT := Lib.hid (fun W (h : Below X.heap.size X W) => rows_to (HV.out W (HBX.out.1.trans (h.mono HBX.out.2))) hkn)
      have hF := fun W (h : Below X.heap.size X W) => rows_from (HV.out W (HBX.out.1.trans (h.mono HBX.out.2))) hkn
      unfold sliced at hF
      (try simp only [Option.map_some, add_plain] at hF)
      (try simp only [Nat.sub_self] at hF)
      have HF := Lib.hid hF
      clear hF
      have HLT : Hid ((m.take ku).length = ku ∧ (m.drop ku).length = ku - ku) := Lib.hid ⟨by rw [List.length_take, HN.out]; omega, by rw [List.length_drop, HN.out]⟩
      have HBH : Hid (X.heap.size ≤ w0.heap.size) := Lib.hid HB0.out.2
      clear hw0
      go_wp2_with fail
      refine wp_region_held_drew (S := (fun w' => w'.cell? ⟨B, 0, none⟩ = some (.int .i64 b) ∧ w'.cell? ⟨B, 1, none⟩ = some (.int .i64 e))) (by kernel_rfl) ?_ (fun hHeld => ?_)
      · (try dsimp only); (rw [HW0.out]; exact HS.out w0 HB0.out.1)
      rw [HW0.out] at hHeld ⊢
      refine wpAnyH_take (i := 0) (oi := ?oi2001) (v := ?v2001) ?hi2001 (by kernel_rfl) (by kernel_rfl) (by kernel_rfl) ?hq2001 ?hy2001 (by assumption) ?hr2001
      case hi2001 => (simp only [List.getElem?_toArray, List.getElem?_cons_zero]; rfl)
      case hq2001 => exact fun _ _ _ h => h
      case hy2001 => exact Or.inl ⟨by rfl, by intro whSw hSw'; (try dsimp only at hSw'); (first | (go_simp; done) | (go_simp; with_reducible rfl))⟩
      try simp only [Act.put, List.setIfInBounds_toArray, List.set_cons_zero, List.set_cons_succ]
      refine wpAnyH_take (i := 1) (oi := ?oi2002) (v := ?v2002) ?hi2002 (by kernel_rfl) (by kernel_rfl) (by kernel_rfl) ?hq2002 ?hy2002 (by assumption) ?hr2002
      case hi2002 => (simp only [List.getElem?_toArray, List.getElem?_cons_succ, List.getElem?_cons_zero]; rfl)
      case hq2002 => exact fun _ _ _ h => h
      case hy2002 => exact Or.inl ⟨by rfl, by intro whSw hSw'; (try dsimp only at hSw'); (first | (go_simp; done) | (go_simp; with_reducible rfl))⟩
      try simp only [Act.put, List.setIfInBounds_toArray, List.set_cons_zero, List.set_cons_succ]
      refine wpAnyH_take (i := 2) (oi := ?oi2003) (v := ?v2003) ?hi2003 (by kernel_rfl) (by kernel_rfl) (by kernel_rfl) ?hq2003 ?hy2003 (by assumption) ?hr2003
      case hi2003 => (simp only [List.getElem?_toArray, List.getElem?_cons_succ, List.getElem?_cons_zero]; rfl)
      case hq2003 => exact fun _ _ _ h => h
      case hy2003 => exact Or.inl ⟨by rfl, by intro whSw hSw'; (try dsimp only at hSw'); (first | (go_simp; done) | (go_simp; with_reducible rfl))⟩
      try simp only [Act.put, List.setIfInBounds_toArray, List.set_cons_zero, List.set_cons_succ]
      refine wpAnyH_take (i := 4) (oi := ?oi2004) (v := ?v2004) ?hi2004 (by kernel_rfl) (by kernel_rfl) (by kernel_rfl) ?hq2004 ?hy2004 (by assumption) ?hr2004
      case hi2004 => (simp only [List.getElem?_toArray, List.getElem?_cons_succ, List.getElem?_cons_zero]; rfl)
      case hq2004 => exact fun _ _ _ h => h
      case hy2004 => exact Or.inl ⟨by rfl, by intro whSw hSw'; (try dsimp only at hSw'); (first | (go_simp; done) | (go_simp; with_reducible rfl))⟩
      try simp only [Act.put, List.setIfInBounds_toArray, List.set_cons_zero, List.set_cons_succ]
      refine wpAnyH_take (i := 7) (oi := ?oi2005) (v := ?v2005) ?hi2005 (by kernel_rfl) (by kernel_rfl) (by kernel_rfl) ?hq2005 ?hy2005 (by assumption) ?hr2005
      case hi2005 => (simp only [List.getElem?_toArray, List.getElem?_cons_succ, List.getElem?_cons_zero]; rfl)
      case hq2005 => exact fun _ _ _ h => h
      case hy2005 => exact Or.inl ⟨by rfl, by intro whSw hSw'; (try dsimp only at hSw'); (first | (go_simp; done) | (go_simp; with_reducible rfl))⟩
      try simp only [Act.put, List.setIfInBounds_toArray, List.set_cons_zero, List.set_cons_succ]
      refine wpAnyH_take (i := 8) (oi := ?oi2006) (v := ?v2006) ?hi2006 (by kernel_rfl) (by kernel_rfl) (by kernel_rfl) ?hq2006 ?hy2006 (by assumption) ?hr2006
      case hi2006 => (simp only [List.getElem?_toArray, List.getElem?_cons_succ, List.getElem?_cons_zero]; rfl)
      case hq2006 => exact fun _ _ _ h => h
      case hy2006 => exact Or.inl ⟨by rfl, by intro whSw hSw'; (try dsimp only at hSw'); (first | (go_simp; done) | (go_simp; with_reducible rfl))⟩
      try simp only [Act.put, List.setIfInBounds_toArray, List.set_cons_zero, List.set_cons_succ]
      refine wpAnyH_take (i := 9) (oi := ?oi2007) (v := ?v2007) ?hi2007 (by kernel_rfl) (by kernel_rfl) (by kernel_rfl) ?hq2007 ?hy2007 (by assumption) ?hr2007
      case hi2007 => (simp only [List.getElem?_toArray, List.getElem?_cons_succ, List.getElem?_cons_zero]; rfl)
      case hq2007 => exact fun _ _ _ h => h
      case hy2007 => exact Or.inl ⟨by rfl, by intro whSw hSw'; (try dsimp only at hSw'); (first | (go_simp; done) | (go_simp; with_reducible rfl))⟩
      try simp only [Act.put, List.setIfInBounds_toArray, List.set_cons_zero, List.set_cons_succ]
      refine wpAnyH_ready (rs := [3, 5]) (by kernel_rfl) (by simp) ?_
      refine AllReadyH.cons (o := ?oo2008) ?hi2008 (fun K hK => ?hs2008) ?hm2008
      case hi2008 => (simp only [List.getElem?_toArray, List.getElem?_cons_succ, List.getElem?_cons_zero]; rfl)
      · refine step_rowS rfl _ _ rfl X.heap.size HB0.out.2 (.slice none 0 0) 0 [] rfl (World.ownsRow_nil _ _ _ 2) _ (m.take ku) rfl (HT.out w0 HB0.out.1) (by rw [HLT.out.1]; omega) ?_
        intro va zz1 hozz1 hgzz1
        have HOzz1 := Lib.hid hozz1
        have HBzz1 : Hid (Below X.heap.size X zz1 ∧ X.heap.size ≤ zz1.heap.size) := Lib.hid (by have h := HB0.out.1.trans (below_of_grown hgzz1 HB0.out.2 (fun k e => by simp [Value.ownBlock] at e)); exact ⟨h, h.size⟩)
        clear hozz1 hgzz1
        refine hK.out _ _ ?_ (fun hHeld => ?_)
        · (try dsimp only); exact HS.out zz1 HBzz1.out.1
        clear hK K
        try simp only [Act.put, List.setIfInBounds_toArray, List.set_cons_zero, List.set_cons_succ]
        refine wpAnyH_ready (rs := [5]) (by kernel_rfl) (by simp) ?_
        refine AllReadyH.cons (o := ?oo2009) ?hi2009 (fun K hK => ?hs2009) ?hm2009
        case hi2009 => (simp only [List.getElem?_toArray, List.getElem?_cons_succ, List.getElem?_cons_zero]; rfl)
        · go_simp
          obtain ⟨zz2, hzz2⟩ : ∃ W', zz1.alloc (.cells #[.int .i64 b, .int .i64 e] 31) = W' := ⟨_, rfl⟩
          rw [hzz2]
          have HEzz2 : Hid (zz2.heap[zz1.heap.size]? = some (.cells #[.int .i64 b, .int .i64 e] 31 (0, 0))) := Lib.hid (by rw [← hzz2]; exact block_new _ _)
          have HBzz2 : Hid (Below X.heap.size X zz2 ∧ X.heap.size ≤ zz2.heap.size) := Lib.hid (by rw [← hzz2]; exact ⟨HBzz1.out.1.trans ((below_box _ _).mono HBzz1.out.2), by rw [alloc_sz]; have := HBzz1.out.2; omega⟩)
          have HOzz2 := Lib.hid (by rw [← hzz2]; exact HOzz1.out.alloc _ : zz2.ownsRow X.heap.size 31 2 va (0 + (m.take ku).length) ([] ++ (m.take ku).flatMap spV))
          clear hzz2
          refine hK.out _ _ ?_ (fun hHeld => ?_)
          · (try dsimp only); exact HS.out zz2 HBzz2.out.1
          clear hK K
          try simp only [Act.put, List.setIfInBounds_toArray, List.set_cons_zero, List.set_cons_succ]
          refine wpAnyH_ready (rs := [6]) (by kernel_rfl) (by simp) ?_
          refine AllReadyH.cons (o := ?oo2010) ?hi2010 (fun K hK => ?hs2010) ?hm2010
          case hi2010 => (simp only [List.getElem?_toArray, List.getElem?_cons_succ, List.getElem?_cons_zero]; rfl)
          · refine step_rowS rfl _ _ rfl X.heap.size HBzz2.out.2 va _ _ rfl HOzz2.out _ [(b, e)] rfl (row_one HEzz2.out) (by rw [HLT.out.1]; simp; omega) ?_
            intro vb zz3 hozz3 hgzz3
            have HOzz3 := Lib.hid hozz3
            have hlow := own_low HOzz2.out
            have HBzz3 : Hid (Below X.heap.size X zz3 ∧ X.heap.size ≤ zz3.heap.size) := Lib.hid (by have h := HBzz2.out.1.trans (below_of_grown hgzz3 HBzz2.out.2 (fun k e => (hlow k e).1)); exact ⟨h, h.size⟩)
            clear hozz3 hgzz3 hlow
            refine hK.out _ _ ?_ (fun hHeld => ?_)
            · (try dsimp only); exact HS.out zz3 HBzz3.out.1
            clear hK K
            try simp only [Act.put, List.setIfInBounds_toArray, List.set_cons_zero, List.set_cons_succ]
            refine wpAnyH_ready (rs := [10]) (by kernel_rfl) (by simp) ?_
            refine AllReadyH.cons (o := ?oo2011) ?hi2011 (fun K hK => ?hs2011) ?hm2011
            case hi2011 => (simp only [List.getElem?_toArray, List.getElem?_cons_succ, List.getElem?_cons_zero]; rfl)
            · refine step_rowS rfl _ _ rfl X.heap.size HBzz3.out.2 vb _ _ rfl HOzz3.out _ (m.drop ku) rfl (HF.out zz3 HBzz3.out.1) (by rw [HLT.out.1, HLT.out.2]; simp; omega) ?_
              intro vc zz4 hozz4 hgzz4
              have HOzz4 := Lib.hid hozz4
              have hlow := own_low HOzz3.out
              have HBzz4 : Hid (Below X.heap.size X zz4 ∧ X.heap.size ≤ zz4.heap.size) := Lib.hid (by have h := HBzz3.out.1.trans (below_of_grown hgzz4 HBzz3.out.2 (fun k e => (hlow k e).1)); exact ⟨h, h.size⟩)
              clear hozz4 hgzz4 hlow
              refine hK.out _ _ ?_ (fun hHeld => ?_)
              · (try dsimp only); exact HS.out zz4 HBzz4.out.1
              clear hK K
              try simp only [Act.put, List.setIfInBounds_toArray, List.set_cons_zero, List.set_cons_succ]
              refine wpAnyH_take (i := 11) (oi := ?oi2012) (v := ?v2012) ?hi2012 (by kernel_rfl) (by kernel_rfl) (by kernel_rfl) ?hq2012 ?hy2012 (by assumption) ?hr2012
              case hi2012 => (simp only [List.getElem?_toArray, List.getElem?_cons_succ, List.getElem?_cons_zero]; rfl)
              case hq2012 => exact fun _ _ _ h => h
              case hy2012 => exact Or.inl ⟨by rfl, by intro whSw hSw'; (try dsimp only at hSw'); (first | (go_simp; done) | (go_simp; with_reducible rfl))⟩
              try simp only [Act.put, List.setIfInBounds_toArray, List.set_cons_zero, List.set_cons_succ]
              refine wpAnyH_done (by kernel_rfl) ?_ _
              have hrow : Rows 2 ESp zz4 vc R := by
                have hr := HRR.out
                have e1 : ([] ++ (m.take ku).flatMap spV) ++ [(b, e)].flatMap spV ++ (m.drop ku).flatMap spV = R.flatMap spV := by rw [hr]; simp
                have e2 : 0 + (m.take ku).length + [(b, e)].length + (m.drop ku).length = R.length := by rw [hr]; simp; omega
                have ho := HOzz4.out
                rw [e1, e2] at ho
                exact own_sp ho
              have HROW := Lib.hid (And.intro hrow (HBX.out.1.trans (HBzz4.out.1.mono HBX.out.2)))
              clear hrow
              go_wp2_with fail
              all_goals (go_ret; exact ⟨⟨_, rfl, HROW.out.1⟩, HROW.out.2⟩)
            exact AllReadyH.nil
          exact AllReadyH.nil
        exact AllReadyH.nil
      refine AllReadyH.cons (o := ?oo2013) ?hi2013 (fun K hK => ?hs2013) ?hm2013
      case hi2013 => (simp only [List.getElem?_toArray, List.getElem?_cons_succ, List.getElem?_cons_zero]; rfl)
      · go_simp
        obtain ⟨zz5, hzz5⟩ : ∃ W', w0.alloc (.cells #[.int .i64 b, .int .i64 e] 31) = W' := ⟨_, rfl⟩
        rw [hzz5]
        have HEzz5 : Hid (zz5.heap[w0.heap.size]? = some (.cells #[.int .i64 b, .int .i64 e] 31 (0, 0))) := Lib.hid (by rw [← hzz5]; exact block_new _ _)
        have HBzz5 : Hid (Below X.heap.size X zz5 ∧ X.heap.size ≤ zz5.heap.size) := Lib.hid (by rw [← hzz5]; exact ⟨HB0.out.1.trans ((below_box _ _).mono HB0.out.2), by rw [alloc_sz]; have := HB0.out.2; omega⟩)
        clear hzz5
        refine hK.out _ _ ?_ (fun hHeld => ?_)
        · (try dsimp only); exact HS.out zz5 HBzz5.out.1
        clear hK K
        try simp only [Act.put, List.setIfInBounds_toArray, List.set_cons_zero, List.set_cons_succ]
        refine wpAnyH_ready (rs := [3]) (by kernel_rfl) (by simp) ?_
        refine AllReadyH.cons (o := ?oo2014) ?hi2014 (fun K hK => ?hs2014) ?hm2014
        case hi2014 => (simp only [List.getElem?_toArray, List.getElem?_cons_succ, List.getElem?_cons_zero]; rfl)
        · refine step_rowS rfl _ _ rfl X.heap.size HBzz5.out.2 (.slice none 0 0) 0 [] rfl (World.ownsRow_nil _ _ _ 2) _ (m.take ku) rfl (HT.out zz5 HBzz5.out.1) (by rw [HLT.out.1]; omega) ?_
          intro va zz6 hozz6 hgzz6
          have HOzz6 := Lib.hid hozz6
          have HBzz6 : Hid (Below X.heap.size X zz6 ∧ X.heap.size ≤ zz6.heap.size) := Lib.hid (by have h := HBzz5.out.1.trans (below_of_grown hgzz6 HBzz5.out.2 (fun k e => by simp [Value.ownBlock] at e)); exact ⟨h, h.size⟩)
          have HEzz6 := Lib.hid ((hgzz6.block w0.heap.size (Array.getElem?_eq_some_iff.1 HEzz5.out).1 (fun e => by simp [Value.ownBlock] at e)).trans HEzz5.out)
          clear hozz6 hgzz6
          refine hK.out _ _ ?_ (fun hHeld => ?_)
          · (try dsimp only); exact HS.out zz6 HBzz6.out.1
          clear hK K
          try simp only [Act.put, List.setIfInBounds_toArray, List.set_cons_zero, List.set_cons_succ]
          refine wpAnyH_ready (rs := [6]) (by kernel_rfl) (by simp) ?_
          refine AllReadyH.cons (o := ?oo2015) ?hi2015 (fun K hK => ?hs2015) ?hm2015
          case hi2015 => (simp only [List.getElem?_toArray, List.getElem?_cons_succ, List.getElem?_cons_zero]; rfl)
          · refine step_rowS rfl _ _ rfl X.heap.size HBzz6.out.2 va _ _ rfl HOzz6.out _ [(b, e)] rfl (row_one HEzz6.out) (by rw [HLT.out.1]; simp; omega) ?_
            intro vb zz7 hozz7 hgzz7
            have HOzz7 := Lib.hid hozz7
            have hlow := own_low HOzz6.out
            have HBzz7 : Hid (Below X.heap.size X zz7 ∧ X.heap.size ≤ zz7.heap.size) := Lib.hid (by have h := HBzz6.out.1.trans (below_of_grown hgzz7 HBzz6.out.2 (fun k e => (hlow k e).1)); exact ⟨h, h.size⟩)
            clear hozz7 hgzz7 hlow
            refine hK.out _ _ ?_ (fun hHeld => ?_)
            · (try dsimp only); exact HS.out zz7 HBzz7.out.1
            clear hK K
            try simp only [Act.put, List.setIfInBounds_toArray, List.set_cons_zero, List.set_cons_succ]
            refine wpAnyH_ready (rs := [10]) (by kernel_rfl) (by simp) ?_
            refine AllReadyH.cons (o := ?oo2016) ?hi2016 (fun K hK => ?hs2016) ?hm2016
            case hi2016 => (simp only [List.getElem?_toArray, List.getElem?_cons_succ, List.getElem?_cons_zero]; rfl)
            · refine step_rowS rfl _ _ rfl X.heap.size HBzz7.out.2 vb _ _ rfl HOzz7.out _ (m.drop ku) rfl (HF.out zz7 HBzz7.out.1) (by rw [HLT.out.1, HLT.out.2]; simp; omega) ?_
              intro vc zz8 hozz8 hgzz8
              have HOzz8 := Lib.hid hozz8
              have hlow := own_low HOzz7.out
              have HBzz8 : Hid (Below X.heap.size X zz8 ∧ X.heap.size ≤ zz8.heap.size) := Lib.hid (by have h := HBzz7.out.1.trans (below_of_grown hgzz8 HBzz7.out.2 (fun k e => (hlow k e).1)); exact ⟨h, h.size⟩)
              clear hozz8 hgzz8 hlow
              refine hK.out _ _ ?_ (fun hHeld => ?_)
              · (try dsimp only); exact HS.out zz8 HBzz8.out.1
              clear hK K
              try simp only [Act.put, List.setIfInBounds_toArray, List.set_cons_zero, List.set_cons_succ]
              refine wpAnyH_take (i := 11) (oi := ?oi2017) (v := ?v2017) ?hi2017 (by kernel_rfl) (by kernel_rfl) (by kernel_rfl) ?hq2017 ?hy2017 (by assumption) ?hr2017
              case hi2017 => (simp only [List.getElem?_toArray, List.getElem?_cons_succ, List.getElem?_cons_zero]; rfl)
              case hq2017 => exact fun _ _ _ h => h
              case hy2017 => exact Or.inl ⟨by rfl, by intro whSw hSw'; (try dsimp only at hSw'); (first | (go_simp; done) | (go_simp; with_reducible rfl))⟩
              try simp only [Act.put, List.setIfInBounds_toArray, List.set_cons_zero, List.set_cons_succ]
              refine wpAnyH_done (by kernel_rfl) ?_ _
              have hrow : Rows 2 ESp zz8 vc R := by
                have hr := HRR.out
                have e1 : ([] ++ (m.take ku).flatMap spV) ++ [(b, e)].flatMap spV ++ (m.drop ku).flatMap spV = R.flatMap spV := by rw [hr]; simp
                have e2 : 0 + (m.take ku).length + [(b, e)].length + (m.drop ku).length = R.length := by rw [hr]; simp; omega
                have ho := HOzz8.out
                rw [e1, e2] at ho
                exact own_sp ho
              have HROW := Lib.hid (And.intro hrow (HBX.out.1.trans (HBzz8.out.1.mono HBX.out.2)))
              clear hrow
              go_wp2_with fail
              all_goals (go_ret; exact ⟨⟨_, rfl, HROW.out.1⟩, HROW.out.2⟩)
            exact AllReadyH.nil
          exact AllReadyH.nil
        exact AllReadyH.nil
      exact AllReadyH.nil
end Go.Proofs.Ytpkkebojiengpaa
