/-
  WALKS over the reference of package huffman: items in memory; merge.
-/
import Derived.Test.YteennnhinfnahaaHuMq
import Derived.Test.YteennnhinfnahaaDaRq
import Derived.Maps.AppendAt
import Derived.BigQuiet
import Derived.Deep.QuietTactic
namespace Go.Proofs.Yteennnhinfnahaa
open Go.RowKit Go.Shelf Go.Lib
set_option linter.unusedVariables false
set_option linter.unusedSimpArgs false

/-- A leaf or a package as it lies in a row: its weight, whether it is a leaf, the block of how often each symbol occurs in it. -/
structure ItH where
  wt : Nat
  lf : Bool
  b : Nat
  n : Nat
def itVR (x : ItH) : List Value := [.int .i64 x.wt, .bool x.lf, .slice (some ⟨x.b, 0, none⟩) x.n x.n]
theorem itVR_len (x : ItH) : (itVR x).length = 3 := rfl
def EItR (_ : World) (cs : List Value) (x : ItH) : Prop := cs = itVR x
theorem stays_itR : Stays EItR := fun _ _ _ _ _ h => h
theorem at_itR {w : World} {A : Option Addr} {n cap : Nat} {xs : List ItH} (h : Rows 3 EItR w (.slice A n cap) xs) (h0 : 0 < xs.length) :
    ∃ b off, A = some ⟨b, off, none⟩ ∧ b < w.heap.size ∧ ∀ (j : Nat) (x : ItH), xs[j]? = some x → w.cell? ⟨b, off + j * 3, none⟩ = some (.int .i64 x.wt) ∧ w.cell? ⟨b, off + j * 3 + 1, none⟩ = some (.bool x.lf) ∧ w.cell? ⟨b, off + j * 3 + 2, none⟩ = some (.slice (some ⟨x.b, 0, none⟩) x.n x.n) := by
  obtain ⟨b, off, hA, hb, hj⟩ := h.at' h0
  refine ⟨b, off, hA, hb, fun j x hx => ?_⟩
  obtain ⟨cs, _, rfl, h3⟩ := hj j x hx
  exact ⟨h3 0 _ rfl, h3 1 _ rfl, h3 2 _ rfl⟩
theorem infoItR : (Try.prog.info? 52).map (fun i => (i.zero, i.size, i.bytes)) = some (some (.agg #[.int .i64 0, .bool false, .slice none 0 0]), 3, 40) := by kernel_rfl
/-- append of one item to a row of the call's own. -/
theorem wpList_pushT {w : World} {ops : Array Oper} {rest : List Oper} {o : Oper} {a : Act} {Q : Exit → Act → World → Prop} (hgd : o.guard = none) (s x : Operand)
    (ho : o.op = .call { callee := .builtin .append, args := #[s, x], argTypes := #[50, 50] })
    (base : Nat) (v : Value) (F : List ItH) (p : ItH) (hs : a.eval s = v) (hx : a.eval x = .slice (some ⟨w.heap.size, 0, none⟩) 1 1)
    (hown : w.ownsRow base 52 3 v F.length (F.flatMap itVR)) (hn : F.length ≤ 1000000) (hbase : base ≤ w.heap.size)
    (h : ∀ v' w', Hid (w'.ownsRow base 52 3 v' (F ++ [p]).length ((F ++ [p]).flatMap itVR)) → Hid (w.grownBy w' v.ownBlock) → Hid (∀ k, v'.ownBlock = some k → v.ownBlock = some k ∨ w.heap.size < k) → wpList Try.prog ops Q rest (a.put o.dst v') w') :
    wpList Try.prog ops Q (o :: rest) a (w.alloc (.cells #[.int .i64 p.wt, .bool p.lf, .slice (some ⟨p.b, 0, none⟩) p.n p.n] 52)) := by
  obtain ⟨i0, hi, hz0, hz1, hz2⟩ := info_parts' infoItR
  refine wpList_append_own_at _ hgd s x 50 ho base 52 i0 _ 3 40 Try.underlying50 hi hz0 hz1 hz2 rfl (by decide) v F.length _ hs (hown.alloc _) _ 1 1 (itVR p) hx rfl (news_at w (itVR p) 52) (by simp [Value.oneCell', itVR]) (by unfold maxLen; omega) (by omega) (by simp; omega) ?_
  intro v' w' h1 h2 _ h4
  refine h v' w' (Lib.hid ?_) (Lib.hid ?_) (Lib.hid fun k hk => ?_)
  · rw [List.length_append, List.length_singleton, List.flatMap_append, List.flatMap_cons, List.flatMap_nil, List.append_nil]
    exact h1
  · exact ⟨h2.os, h2.tape, h2.output, Nat.le_trans (by simp) h2.size, fun k hk hne => (h2.block k (by simp; omega) hne).trans ((below_box w _).block k hk)⟩
  · rcases h4 with h5 | h5
    · exact .inl (by rw [← h5]; exact hk)
    · rw [h5] at hk
      injection hk with hk
      rw [alloc_sz] at hk
      exact .inr (by omega)
/-- What merge has made. -/
structure MgAt (w : World) (A B M : List ItH) (k i : Nat) (F : List ItH) (lv : Value) (wr : World) : Prop where
  bl : Below w.heap.size w wr
  o : wr.ownsRow w.heap.size 52 3 lv F.length (F.flatMap itVR)
  e : F ++ mergeA ItH.wt (A.drop i) (B.drop k) = M
  il : i ≤ A.length
  ln : F.length ≤ i + k
theorem own_snocT {w : World} {base : Nat} {v : Value} {F : List ItH} {x : ItH} (h : w.ownsRow base 52 3 v (F.length + 1) (F.flatMap itVR ++ itVR x)) : w.ownsRow base 52 3 v (F ++ [x]).length ((F ++ [x]).flatMap itVR) := by
  rw [List.length_append, List.length_singleton, List.flatMap_append, List.flatMap_cons, List.flatMap_nil, List.append_nil]
  exact h
theorem slice_fromT (A : Option Addr) (n cap k : Nat) (hk : k ≤ n) (hn : n ≤ cap) (w : World) : (Instr.slice 50 (.slice A n cap) (some (.int .i64 (k : Int))) none none).run Try.prog w = .ok (sliced A k n cap 3) w := by
  rw [run_slice_l w 50 _ _ _ (by kernel_rfl) .i64 k (by omega) (by omega)]
  have hz1 : (sizeOf (Try.prog.elem 50)).run Try.prog w = .ok 3 w := by kernel_rfl
  rw [hz1]
  simp [Result.andThen]
/-- The items behind the first k, as cells. -/
theorem from_cells {w : World} {A : Option Addr} {n cap k : Nat} {xs : List ItH} (h : Rows 3 EItR w (.slice A n cap) xs) (hk : k ≤ n) (hz : A = none → cap = 0) :
    (sliced A k n cap 3 = .slice none 0 0 ∧ n = k) ∨ (∃ ad c, sliced A k n cap 3 = .slice (some ad) (n - k) c ∧ ∀ (j : Nat) (u : Value), ((xs.drop k).flatMap itVR)[j]? = some u → w.cell? (ad.add j) = some u) := by
  obtain ⟨hn, hc⟩ := h.len
  unfold sliced
  by_cases h0 : n = k
  · subst h0
    have hd : (xs.drop n).flatMap itVR = [] := by rw [List.drop_eq_nil_of_le (by omega)]; rfl
    rw [hd]
    cases A with
    | none =>
      have hz := hz rfl
      have h0 : n = 0 := by omega
      subst h0
      exact .inl ⟨by simp [hz], rfl⟩
    | some ad =>
      refine .inr ⟨if cap = n then ad else ad.add (n * 3), cap - n, ?_, fun j u hu => by simp at hu⟩
      split <;> rfl
  · obtain ⟨b, off, hA, hb, hj⟩ := h.at' (by omega)
    subst hA
    rw [if_neg (by omega)]
    have ha : ∀ o m : Nat, (⟨b, o, none⟩ : Addr).add m = ⟨b, o + m, none⟩ := fun o m => by unfold Addr.add; split <;> simp_all
    refine .inr ⟨⟨b, off + k * 3, none⟩, _, by rw [Option.map_some, ha], fun j u hu => ?_⟩
    have hjl : j < (xs.drop k).length * 3 := by
      have h1 := (List.getElem?_eq_some_iff.1 hu).1
      rw [flatM_len itVR_len] at h1
      exact h1
    obtain ⟨x, hx⟩ : ∃ x, (xs.drop k)[j / 3]? = some x := ⟨_, List.getElem?_eq_getElem (by omega)⟩
    have h2 := flatM_get (enc := itVR) (sz := 3) itVR_len (xs.drop k) (j / 3) x (j % 3) hx (by omega)
    rw [show j / 3 * 3 + j % 3 = j by omega, hu] at h2
    rw [List.getElem?_drop] at hx
    obtain ⟨cs, _, hcs, h3⟩ := hj (k + j / 3) x hx
    have h4 := h3 (j % 3) u (by rw [show cs = itVR x from hcs]; exact h2.symm)
    rw [ha]
    rw [show off + k * 3 + j = off + (k + j / 3) * 3 + j % 3 by rw [Nat.add_mul]; omega]
    exact h4
/-- Inside a round of merge: the package p lies in the box X. -/
structure MjAt (w : World) (A B M : List ItH) (p : ItH) (X k i : Nat) (F : List ItH) (lv : Value) (wr : World) : Prop where
  g : MgAt w A B M k i F lv wr
  x : wr.heap[X]? = some (.cells #[.int .i64 p.wt, .bool p.lf, .slice (some ⟨p.b, 0, none⟩) p.n p.n] 52 (0, 0))
  ne : lv.ownBlock ≠ some X
theorem MgAt.drewN {w : World} {A B M : List ItH} {k i : Nat} {F : List ItH} {lv : Value} {wr : World} (h : MgAt w A B M k i F lv wr) (n : Nat) : MgAt w A B M k i F lv (wr.drewN n) := ⟨below_drewN h.bl n, h.o, h.e, h.il, h.ln⟩
theorem merge_take {A B : List ItH} {i k : Nat} {p x : ItH} (hp : B[k]? = some p) (hx : A[i]? = some x) (hle : x.wt ≤ p.wt) : mergeA ItH.wt (A.drop i) (B.drop k) = x :: mergeA ItH.wt (A.drop (i + 1)) (B.drop k) := by
  have e1 : B.drop k = p :: B.drop (k + 1) := by
    obtain ⟨hk, rfl⟩ := List.getElem?_eq_some_iff.1 hp
    exact List.drop_eq_getElem_cons hk
  have e2 : A.drop i = x :: A.drop (i + 1) := by
    obtain ⟨hk, rfl⟩ := List.getElem?_eq_some_iff.1 hx
    exact List.drop_eq_getElem_cons hk
  rw [e1, e2]
  simp only [mergeA]
  rw [List.takeWhile_cons_of_pos (by simpa using hle), List.dropWhile_cons_of_pos (by simpa using hle)]
  rfl
theorem merge_next {A B : List ItH} {i k : Nat} {p : ItH} (hp : B[k]? = some p) (hx : ∀ x, A[i]? = some x → ¬ x.wt ≤ p.wt) : mergeA ItH.wt (A.drop i) (B.drop k) = p :: mergeA ItH.wt (A.drop i) (B.drop (k + 1)) := by
  have e1 : B.drop k = p :: B.drop (k + 1) := by
    obtain ⟨hk, rfl⟩ := List.getElem?_eq_some_iff.1 hp
    exact List.drop_eq_getElem_cons hk
  rw [e1]
  simp only [mergeA]
  cases hd : A.drop i with
  | nil => rfl
  | cons x r =>
    have hxi : A[i]? = some x := by
      have := congrArg (·[0]?) hd
      simpa using this
    rw [List.takeWhile_cons_of_neg (by simpa using hx x hxi), List.dropWhile_cons_of_neg (by simpa using hx x hxi)]
    rfl
set_option maxRecDepth 100000 in
set_option maxHeartbeats 4000000 in
theorem refMerge_any {w : World} {va vb : Value} {A B : List ItH} (ha : Rows 3 EItR w va A) (hb : Rows 3 EItR w vb B) (hva : va = .slice none 0 0 ∨ ∃ ad n c, va = .slice (some ad) n c) (hA : A.length ≤ 100000) (hB : B.length ≤ 100000) :
    Calls Try.prog 20 #[va, vb] w fun e w' => ∃ v', e = .returned v' ∧ w'.ownsRow w.heap.size 52 3 v' (mergeA ItH.wt A B).length ((mergeA ItH.wt A B).flatMap itVR) ∧ Below w.heap.size w w' := by
  obtain ⟨Aa, capa, rfl, hca⟩ := ha.form
  have hz : Aa = none → capa = 0 := fun h => by
    subst h
    rcases hva with h1 | ⟨_, _, _, h1⟩
    · injection h1
    · cases h1
  clear hva
  obtain ⟨Ab, capb, rfl, hcb⟩ := hb.form
  obtain ⟨n, hn⟩ : ∃ n, A.length = n := ⟨_, rfl⟩
  obtain ⟨m, hm⟩ : ∃ n, B.length = n := ⟨_, rfl⟩
  obtain ⟨M, hM⟩ : ∃ M, mergeA ItH.wt A B = M := ⟨_, rfl⟩
  have HA := Lib.hid (fun W (h : Below w.heap.size w W) => ha.below stays_itR h)
  have HB := Lib.hid (fun W (h : Below w.heap.size w W) => hb.below stays_itR h)
  rw [hn] at HA hca hA ⊢
  rw [hm] at HB hcb hB ⊢
  rw [hM]
  have HST0 : Hid (MgAt w A B M 0 0 [] (.slice none 0 0) w) := Lib.hid ⟨Below.refl _ _, World.ownsRow_nil _ _ _ _, by simpa using hM, Nat.zero_le _, Nat.zero_le _⟩
  have HN := Lib.hid hn
  have HM := Lib.hid hm
  clear ha hb hn hm hM
  go_enter Try.func20, Try.ntmps20
  go_wp2_with fail
  go_loopw [5, 6, 11] (fun lv0 iv kv wr => ∃ (lv : Value) (k i : Nat) (F : List ItH), lv = lv0 ∧ k ≤ m ∧ iv = .int .i64 i ∧ kv = .int .i64 k ∧ Hid (MgAt w A B M k i F lv wr)) (fun _ _ kv _ => m - (Go.RowKit.intOf kv).toNat)
  case atStart => exact ⟨_, 0, 0, [], rfl, Nat.zero_le _, rfl, rfl, HST0⟩
  case round =>
    clear HST0
    obtain ⟨lv, k, i, F, rfl, hk, rfl, rfl, HS⟩ := hrel
    by_cases hlt : k < m
    · have hlti : (k : Int) < (m : Int) := by omega
      obtain ⟨p, hp⟩ : ∃ p, B[k]? = some p := ⟨_, List.getElem?_eq_getElem (by rw [HM.out]; exact hlt)⟩
      obtain ⟨b1, o1, rfl, -, hj⟩ := at_itR (HB.out _ HS.out.bl) (by rw [HM.out]; omega)
      obtain ⟨u0, u1, u2⟩ := hj k p hp
      obtain ⟨X, hX⟩ : ∃ X, wr.heap.size = X := ⟨_, rfl⟩
      have HSJ : Hid (MjAt w A B M p X k i F lv (wr.alloc (.cells #[.int .i64 p.wt, .bool p.lf, .slice (some ⟨p.b, 0, none⟩) p.n p.n] 52))) := Lib.hid (by
        have h1 := below_box wr (.cells #[.int .i64 p.wt, .bool p.lf, .slice (some ⟨p.b, 0, none⟩) p.n p.n] 52)
        refine ⟨⟨HS.out.bl.trans (h1.mono HS.out.bl.size), own_below HS.out.o fun c ec => h1.block c (own_low HS.out.o c ec).2, HS.out.e, HS.out.il, HS.out.ln⟩, by rw [← hX]; exact block_new wr _, fun e => ?_⟩
        have := (own_low HS.out.o X e).2
        omega)
      have HPP := Lib.hid hp
      have HXW := Lib.hid (show w.heap.size ≤ X by rw [← hX]; exact HS.out.bl.size)
      clear hj hp HS
      go_wp2_with fail
      clear hX u0 u1 u2
      go_loopw [5, 6] (fun lv0 iv wx => ∃ (lv : Value) (i : Nat) (F : List ItH), lv = lv0 ∧ iv = .int .i64 i ∧ Hid (MjAt w A B M p X k i F lv wx)) (fun _ iv _ => n - (Go.RowKit.intOf iv).toNat)
      case atStart => exact ⟨_, i, F, rfl, rfl, HSJ⟩
      case round =>
        clear HSJ
        obtain ⟨lv, i, F, rfl, rfl, HJ⟩ := hrel
        have hil := HJ.out.g.il
        rw [HN.out] at hil
        have hfl := HJ.out.g.ln
        have c0 : wr.cell? ⟨X, 0, none⟩ = some (.int .i64 p.wt) := cell_of HJ.out.x rfl
        by_cases hin : i < n
        · have hini : (i : Int) < (n : Int) := by omega
          obtain ⟨x, hx⟩ : ∃ x, A[i]? = some x := ⟨_, List.getElem?_eq_getElem (by rw [HN.out]; exact hin)⟩
          obtain ⟨b2, o2, rfl, -, hj2⟩ := at_itR (HA.out _ HJ.out.g.bl) (by rw [HN.out]; omega)
          obtain ⟨q0, q1, q2⟩ := hj2 i x hx
          by_cases hle : x.wt ≤ p.wt
          · have hlei : (x.wt : Int) ≤ (p.wt : Int) := by omega
            have hmt := merge_take (A := A) (B := B) (k := k) HPP.out hx hle
            have HMT := Lib.hid hmt
            clear hj2 hx hmt
            go_wp2_with fail
            go_quiet (fail)
            obtain ⟨w3, hw3⟩ : ∃ W, wr.drewN nq = W := ⟨_, rfl⟩
            have HJ3 : Hid (MjAt w A B M p X k i F lv w3) := Lib.hid (by rw [← hw3]; exact ⟨HJ.out.g.drewN nq, HJ.out.x, HJ.out.ne⟩)
            have q0' : w3.cell? ⟨b2, o2 + i * 3, none⟩ = some (.int .i64 x.wt) := by rw [← hw3]; exact q0
            have q1' : w3.cell? ⟨b2, o2 + i * 3 + 1, none⟩ = some (.bool x.lf) := by rw [← hw3]; exact q1
            have q2' : w3.cell? ⟨b2, o2 + i * 3 + 2, none⟩ = some (.slice (some ⟨x.b, 0, none⟩) x.n x.n) := by rw [← hw3]; exact q2
            rw [hw3]
            clear hw3 q0 q1 q2 c0 HJ
            go_wp2_with (at_builtin; refine wpList_pushT rfl (.tmp 29) (.tmp 34) rfl w.heap.size lv F x rfl rfl HJ3.out.g.o (by omega) HJ3.out.g.bl.size ?_)
            intro v' w4 HO4 HG4 HL4
            have HNX : Hid (MjAt w A B M p X k (i + 1) (F ++ [x]) v' w4) := Lib.hid (by
              have hX3 : X < w3.heap.size := (Array.getElem?_eq_some_iff.1 HJ3.out.x).1
              refine ⟨⟨HJ3.out.g.bl.grown HG4.out HJ3.out.g.bl.size (fun c ec => (own_low HJ3.out.g.o c ec).1), own_snocT HO4.out, ?_, by rw [HN.out]; omega, by rw [List.length_append, List.length_singleton]; omega⟩, (HG4.out.block X hX3 (fun e => HJ3.out.ne e.symm)).trans HJ3.out.x, fun e => ?_⟩
              · rw [← HJ3.out.g.e, HMT.out, List.append_assoc]
                rfl
              · rcases HL4.out X e with h | h
                · exact HJ3.out.ne h
                · omega)
            clear HO4 HG4 HL4 HJ3 HMT
            go_wp2_with fail
            exact ⟨⟨_, i + 1, F ++ [x], rfl, by go_num, HNX⟩, by simp only [Go.RowKit.intOf]; omega⟩
          · have hlei : ¬ (x.wt : Int) ≤ (p.wt : Int) := by omega
            have hmn : mergeA ItH.wt (A.drop i) (B.drop k) = p :: mergeA ItH.wt (A.drop i) (B.drop (k + 1)) := merge_next HPP.out (fun y hy => by rw [hx] at hy; cases hy; exact hle)
            have HMN := Lib.hid hmn
            clear hmn hj2 hx
            go_wp2_with fail
            go_quiet (fail)
            obtain ⟨w3, hw3⟩ : ∃ W, wr.drewN nq = W := ⟨_, rfl⟩
            have HJ3 : Hid (MjAt w A B M p X k i F lv w3) := Lib.hid (by rw [← hw3]; exact ⟨HJ.out.g.drewN nq, HJ.out.x, HJ.out.ne⟩)
            have c0' : w3.cell? ⟨X, 0, none⟩ = some (.int .i64 p.wt) := cell_of HJ3.out.x rfl
            have c1' : w3.cell? ⟨X, 1, none⟩ = some (.bool p.lf) := cell_of HJ3.out.x rfl
            have c2' : w3.cell? ⟨X, 2, none⟩ = some (.slice (some ⟨p.b, 0, none⟩) p.n p.n) := cell_of HJ3.out.x rfl
            rw [hw3]
            clear hw3 c0 HJ q0 q1 q2
            go_wp2_with (at_builtin; refine wpList_pushT rfl (.tmp 38) (.tmp 40) rfl w.heap.size lv F p rfl rfl HJ3.out.g.o (by omega) HJ3.out.g.bl.size ?_)
            intro v' w4 HO4 HG4 HL4
            have HNX : Hid (MgAt w A B M (k + 1) i (F ++ [p]) v' w4) := Lib.hid (by
              refine ⟨HJ3.out.g.bl.grown HG4.out HJ3.out.g.bl.size (fun c ec => (own_low HJ3.out.g.o c ec).1), own_snocT HO4.out, ?_, HJ3.out.g.il, by rw [List.length_append, List.length_singleton]; omega⟩
              rw [← HJ3.out.g.e, HMN.out, List.append_assoc]
              rfl)
            clear HO4 HG4 HL4 HJ3 HMN
            go_wp2_with fail
            exact ⟨⟨_, k + 1, i, F ++ [p], rfl, by omega, rfl, by go_num, HNX⟩, by simp only [Go.RowKit.intOf]; omega⟩
        · have hini : ¬ (i : Int) < (n : Int) := by omega
          have hmn : mergeA ItH.wt (A.drop i) (B.drop k) = p :: mergeA ItH.wt (A.drop i) (B.drop (k + 1)) := merge_next HPP.out (fun y hy => absurd (List.getElem?_eq_some_iff.1 hy).1 (by rw [HN.out]; exact hin))
          have HMN := Lib.hid hmn
          clear hmn
          go_wp2_with fail
          go_quiet (fail)
          obtain ⟨w3, hw3⟩ : ∃ W, wr.drewN nq = W := ⟨_, rfl⟩
          have HJ3 : Hid (MjAt w A B M p X k i F lv w3) := Lib.hid (by rw [← hw3]; exact ⟨HJ.out.g.drewN nq, HJ.out.x, HJ.out.ne⟩)
          have c0' : w3.cell? ⟨X, 0, none⟩ = some (.int .i64 p.wt) := cell_of HJ3.out.x rfl
          have c1' : w3.cell? ⟨X, 1, none⟩ = some (.bool p.lf) := cell_of HJ3.out.x rfl
          have c2' : w3.cell? ⟨X, 2, none⟩ = some (.slice (some ⟨p.b, 0, none⟩) p.n p.n) := cell_of HJ3.out.x rfl
          rw [hw3]
          clear hw3 c0 HJ
          go_wp2_with (at_builtin; refine wpList_pushT rfl (.tmp 38) (.tmp 40) rfl w.heap.size lv F p rfl rfl HJ3.out.g.o (by omega) HJ3.out.g.bl.size ?_)
          intro v' w4 HO4 HG4 HL4
          have HNX : Hid (MgAt w A B M (k + 1) i (F ++ [p]) v' w4) := Lib.hid (by
            refine ⟨HJ3.out.g.bl.grown HG4.out HJ3.out.g.bl.size (fun c ec => (own_low HJ3.out.g.o c ec).1), own_snocT HO4.out, ?_, HJ3.out.g.il, by rw [List.length_append, List.length_singleton]; omega⟩
            rw [← HJ3.out.g.e, HMN.out, List.append_assoc]
            rfl)
          clear HO4 HG4 HL4 HJ3 HMN
          go_wp2_with fail
          exact ⟨⟨_, k + 1, i, F ++ [p], rfl, by omega, rfl, by go_num, HNX⟩, by simp only [Go.RowKit.intOf]; omega⟩
    · obtain rfl : k = m := by omega
      have hlti : ¬ (k : Int) < (k : Int) := by omega
      have hil := HS.out.il
      have hfl := HS.out.ln
      rw [HN.out] at hil
      have hME : F ++ A.drop i = M := by
        have h := HS.out.e
        have hbd : B.drop k = [] := List.drop_eq_nil_of_le (by rw [HM.out]; exact Nat.le_refl _)
        rw [hbd] at h
        exact h
      have hsl := slice_fromT Aa n capa i hil hca wr
      obtain ⟨i0, hi, hz0, hz1, hz2⟩ := info_parts' infoItR
      have hdl : (A.drop i).length = n - i := by rw [List.length_drop, HN.out]
      rcases from_cells (HA.out _ HS.out.bl) hil hz with ⟨hu, hni⟩ | ⟨ad, c, hu, hcells⟩
      · rw [hu] at hsl
        have hd : A.drop i = [] := List.drop_eq_nil_of_le (by rw [HN.out]; omega)
        rw [hd, List.append_nil] at hME
        have HF : Hid (wr.ownsRow w.heap.size 52 3 lv M.length (M.flatMap itVR) ∧ Below w.heap.size w wr) := Lib.hid (by rw [← hME]; exact ⟨HS.out.o, HS.out.bl⟩)
        have HO := Lib.hid HS.out.o
        clear hME hd hu HS hni hdl
        go_wp2_with (at_builtin; refine wpList_append_own_none rfl (.tmp 43) (.tmp 46) 50 rfl w.heap.size 52 i0 3 Try.underlying50 hi lv _ _ rfl HO.out rfl ?_)
        go_wp2_with fail
        go_ret
        exact ⟨_, rfl, HF.out.1, HF.out.2⟩
      · rw [hu] at hsl
        have HCC := Lib.hid hcells
        have HO := Lib.hid HS.out.o
        have HBL := Lib.hid HS.out.bl
        have HME := Lib.hid hME
        have HDL := Lib.hid hdl
        have hfl3 : ((A.drop i).flatMap itVR).length = (n - i) * 3 := by rw [flatM_len itVR_len, hdl]
        have HFL := Lib.hid hfl3
        have hone : ∀ u ∈ (A.drop i).flatMap itVR, u.oneCell' = true := fun u hu => by
          obtain ⟨x, _, hx⟩ := List.mem_flatMap.1 hu
          simp only [itVR, List.mem_cons, List.not_mem_nil, or_false] at hx
          rcases hx with rfl | rfl | rfl <;> rfl
        have HONE := Lib.hid hone
        clear hcells hME hdl hu HS hfl3 hone
        go_wp2_with (at_builtin; refine wpList_append_own _ rfl (.tmp 43) (.tmp 46) 50 rfl w.heap.size 52 i0 _ 3 40 Try.underlying50 hi hz0 hz1 hz2 rfl (by decide) lv _ _ rfl HO.out ad (n - i) c _ rfl HFL.out HCC.out HONE.out (by unfold maxLen; omega) (by omega) HBL.out.size ?_)
        intro v' w' h1 h2 _
        have HF : Hid (w'.ownsRow w.heap.size 52 3 v' M.length (M.flatMap itVR) ∧ Below w.heap.size w w') := Lib.hid (by
          refine ⟨?_, HBL.out.grown h2 HBL.out.size (fun c ec => (own_low HO.out c ec).1)⟩
          rw [← HME.out, List.length_append, HDL.out, List.flatMap_append]
          exact h1)
        clear h1 h2
        go_wp2_with fail
        go_ret
        exact ⟨_, rfl, HF.out.1, HF.out.2⟩
end Go.Proofs.Yteennnhinfnahaa
