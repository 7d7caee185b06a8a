/-
  WALKS over package huffman: pack.
-/
import Derived.Test.YteennnhinfnahaaTzD
import Derived.StillTailTactics
namespace Go.Proofs.Yteennnhinfnahaa
open Go.RowKit Go.Shelf Go.Lib
set_option linter.unusedVariables false
set_option linter.unusedSimpArgs false

/-- Indices, as a row. -/
def idxV (ns : List Nat) : List Value := ns.map fun (j : Nat) => Value.int .i64 (j : Int)
theorem idxV_range (n : Nat) : idxV (List.range n) = rangeV n := rfl
/-- The packages of items by their indices. -/
def wI (its : List It) (n : Nat) : Int := (its.getD n (0, 0, 0)).1
def pkIt (its : List It) : List Nat → List It
  | a :: b :: l => (wI its a + wI its b, (a : Int), (b : Int)) :: pkIt its l
  | _ => []
theorem pkIt_len (its : List It) : ∀ l : List Nat, (pkIt its l).length = l.length / 2
  | [] => by simp [pkIt]
  | [a] => by simp [pkIt]
  | a :: b :: l => by
    simp only [pkIt, List.length_cons, pkIt_len its l]
    omega
theorem pkIt_two (its : List It) (a b : Nat) : ∀ l : List Nat, l.length % 2 = 0 → pkIt its (l ++ [a, b]) = pkIt its l ++ [(wI its a + wI its b, (a : Int), (b : Int))]
  | [], _ => by simp [pkIt]
  | [x], h => by simp at h
  | x :: y :: l, h => by
    show (_ :: pkIt its (l ++ [a, b])) = _
    rw [pkIt_two its a b l (by simp only [List.length_cons] at h; omega)]
    rfl
theorem pkIt_step {its : List It} {ns : List Nat} {j a b : Nat} (ha : ns[2 * j]? = some a) (hb : ns[2 * j + 1]? = some b) : pkIt its (ns.take (2 * (j + 1))) = pkIt its (ns.take (2 * j)) ++ [(wI its a + wI its b, (a : Int), (b : Int))] := by
  have hl := (List.getElem?_eq_some_iff.1 hb).1
  have e : ns.take (2 * (j + 1)) = ns.take (2 * j) ++ [a, b] := by
    rw [show 2 * (j + 1) = 2 * j + 1 + 1 by omega, List.take_add_one, hb, List.take_add_one, ha]
    simp
  rw [e, pkIt_two its a b _ (by rw [List.length_take]; omega)]
theorem pkIt_odd (its : List It) (a : Nat) : ∀ l : List Nat, l.length % 2 = 0 → pkIt its (l ++ [a]) = pkIt its l
  | [], _ => rfl
  | [x], h => by simp at h
  | x :: y :: l, h => by
    show (_ :: pkIt its (l ++ [a])) = _
    rw [pkIt_odd its a l (by simp only [List.length_cons] at h; omega)]
    rfl
theorem pkIt_all (its : List It) {ns : List Nat} {j : Nat} (h1 : 2 * j ≤ ns.length) (h2 : ns.length ≤ 2 * j + 1) : pkIt its (ns.take (2 * j)) = pkIt its ns := by
  rcases Nat.lt_or_ge (2 * j) ns.length with h | h
  · have e : ns = ns.take (2 * j) ++ [ns[2 * j]] := by
      have h3 := List.take_append_getElem h
      rw [List.take_of_length_le (by omega : ns.length ≤ 2 * j + 1)] at h3
      exact h3.symm
    conv => rhs; rw [e]
    rw [pkIt_odd its _ _ (by rw [List.length_take]; omega)]
  · rw [List.take_of_length_le h]
/-- From number m on. -/
def fromV (m j : Nat) : List Value := (List.range j).map fun (i : Nat) => Value.int .i64 ((m + i : Nat) : Int)
theorem fromV_succ (m j : Nat) : fromV m (j + 1) = fromV m j ++ [.int .i64 ((m + j : Nat) : Int)] := by simp [fromV, List.range_succ]
def EIt (_ : World) (cs : List Value) (x : It) : Prop := cs = itV x
theorem stays_it : Stays EIt := fun _ _ _ _ _ h => h
theorem at_it {w : World} {A : Option Addr} {n cap : Nat} {xs : List It} (h : Rows 3 EIt w (.slice A n cap) xs) (h0 : 0 < xs.length) :
    ∃ b off, A = some ⟨b, off, none⟩ ∧ b < w.heap.size ∧ ∀ (j : Nat) (x : It), xs[j]? = some x → w.cell? ⟨b, off + j * 3, none⟩ = some (.int .i64 x.1) ∧ w.cell? ⟨b, off + j * 3 + 1, none⟩ = some (.int .i64 x.2.1) ∧ w.cell? ⟨b, off + j * 3 + 2, none⟩ = some (.int .i64 x.2.2) := by
  obtain ⟨b, off, hA, hb, hj⟩ := h.at' h0
  refine ⟨b, off, hA, hb, fun j x hx => ?_⟩
  obtain ⟨cs, _, rfl, h3⟩ := hj j x hx
  exact ⟨h3 0 _ rfl, h3 1 _ rfl, h3 2 _ rfl⟩
theorem FAt.rows {w : World} {B F : Nat} {vi vl : Value} {its : List It} (h : FAt w B F vi vl its) : Rows 3 EIt w vi its := rows_of_own (enc := itV) itV_len h.own
theorem FAt.drewN {w : World} {B F : Nat} {vi vl : Value} {its : List It} (h : FAt w B F vi vl its) (q : Nat) : FAt (w.drewN q) B F vi vl its := ⟨h.hB, h.box, h.own⟩
theorem FAt.drew {w : World} {B F : Nat} {vi vl : Value} {its : List It} (h : FAt w B F vi vl its) : FAt w.drew B F vi vl its := ⟨h.hB, h.box, h.own⟩
theorem FAt.alloc {w : World} {B F : Nat} {vi vl : Value} {its : List It} (h : FAt w B F vi vl its) (o : Obj) : FAt (w.alloc o) B F vi vl its :=
  ⟨h.hB, by rw [Below.heap_alloc _ _ _ h.lt]; exact h.box, h.own.alloc _⟩
/-- The weights of items stay where the forest grows. -/
theorem wI_app (its ys : List It) {n : Nat} (h : n < its.length) : wI (its ++ ys) n = wI its n := by
  unfold wI
  rw [List.getD_eq_getElem?_getD, List.getD_eq_getElem?_getD, List.getElem?_append_left h]
theorem wI_at {its : List It} {n : Nat} {x : It} (h : its[n]? = some x) : wI its n = x.1 := by
  unfold wI
  rw [List.getD_eq_getElem?_getD, h]; rfl
/-- The row of numbers that is read in pack. -/
theorem own_int {w : World} {M : Nat} {v : Value} {ns : List Nat} (h : w.ownsRow M 3 1 v ns.length (idxV ns)) : Rows 1 EInt w v (ns.map fun (j : Nat) => (j : Int)) := by
  have e : idxV ns = (ns.map fun (j : Nat) => (j : Int)).map fun x => Value.int .i64 x := by simp [idxV]
  rw [e, show ns.length = (ns.map fun (j : Nat) => (j : Int)).length by simp] at h
  exact own_rows h
/-- Between two rounds of pack. -/
structure KAt (w : World) (N B F : Nat) (vl : Value) (its : List It) (ns : List Nat) (j : Nat) (v : Value) (wr : World) : Prop where
  f : ∃ vi, FAt wr B F vi vl (its ++ pkIt its (ns.take (2 * j)))
  o : wr.ownsRow N 3 1 v j (fromV its.length j)
  s : FStep B F w wr
def PackV (w : World) (N B F : Nat) (vl : Value) (its : List It) (ns : List Nat) (e : Ending) (w' : World) : Prop :=
  ∃ v, e = .returned v ∧ KAt w N B F vl its ns (ns.length / 2) v w'
/-- Behind an append to the packages. -/
theorem KAt.push {w w2 X3 wa : World} {N B F m : Nat} {vi2 vl v v' : Value} {its its2 : List It} {o : Obj} (hN : w.heap.size = N) (hBN : B ≤ N) (hFN : F < N) (hf : FAt w2 B F vi2 vl its2) (hl : w2.ownsRow N 3 1 v m (fromV its.length m)) (hs : FStep B F w w2)
    (hX : w2.alloc o = X3) (ho : wa.ownsRow N 3 1 v' (m + 1) (fromV its.length m ++ [.int .i64 ((its.length + m : Nat) : Int)])) (hg : X3.grownBy wa v.ownBlock) :
    FAt wa B F vi2 vl its2 ∧ wa.ownsRow N 3 1 v' (m + 1) (fromV its.length (m + 1)) ∧ FStep B F w wa := by
  have hf3 : FAt X3 B F vi2 vl its2 := by rw [← hX]; exact hf.alloc _
  have hl3 : X3.ownsRow N 3 1 v m (fromV its.length m) := by rw [← hX]; exact hl.alloc _
  have hs3 : FStep B F w X3 := by rw [← hX]; exact hs.alloc (by have := hf.lt; have := hf.hB; omega) _
  have hlow := own_low hl3
  have hne : v.ownBlock ≠ some F := fun e => by have := (hlow F e).1; omega
  refine ⟨⟨hf.hB, ?_, own_below hf3.own fun k hk => hg.block k (own_low hf3.own k hk).2 (fun e => ?_)⟩, by rw [fromV_succ]; exact ho, ⟨hs3.be.grown hg (by have := hf3.lt; have := hf3.hB; omega) (fun k e => by have := (hlow k e).1; omega), fun k o' h1 h2 h3 => ?_⟩⟩
  · rw [hg.block F hf3.lt (fun e => hne e.symm)]; exact hf3.box
  · obtain ⟨cs, hcs⟩ : ∃ cs, X3.heap[k]? = some (.cells cs 79 (0, 0)) := by
      rcases hf3.own.2 with ⟨rfl, _⟩ | ⟨g, cap, cur, rfl, _, hh, _⟩
      · simp [Value.ownBlock] at hk
      · simp only [Value.ownBlock, Option.some.injEq] at hk
        subst hk
        exact ⟨_, hh⟩
    exact own_other hl3 hcs (by decide) e.symm
  · have hk := hs3.keep k o' h1 h2 h3
    rw [hg.block k (heap_lt hk) (fun e => by have := (hlow k e.symm).1; have := heap_lt h1; omega)]
    exact hk

set_option maxRecDepth 100000 in
set_option maxHeartbeats 8000000 in
theorem fpack_any {w : World} {B F M : Nat} {vi vl lv : Value} {its : List It} {ns : List Nat} (h : FAt w B F vi vl its) (hv : w.ownsRow M 3 1 lv ns.length (idxV ns))
    (hin : ∀ n ∈ ns, n < its.length) (hw : ∀ n ∈ ns, 0 ≤ wI its n ∧ wI its n ≤ 1000000000000) (hsz : its.length + ns.length ≤ 1000000) :
    Calls Try.prog 36 #[.pointer (some ⟨F, 0, none⟩), lv] w (PackV w w.heap.size B F vl its ns) := by
  obtain ⟨N, hN⟩ : ∃ N, w.heap.size = N := ⟨_, rfl⟩
  have hFN : F < N := by rw [← hN]; exact h.lt
  have hBN : B ≤ N := by have := h.hB; omega
  have hlF : lv.ownBlock ≠ some F := own_other hv h.box (by decide)
  have HV := Lib.hid (show ∀ W, FStep B F w W → Rows 1 EInt W lv (ns.map fun (j : Nat) => (j : Int)) from fun W hs => own_int (hs.own hv hlF (by decide)))
  obtain ⟨A, cap, rfl, hc⟩ := own_formI hv
  obtain ⟨n, hn⟩ : ∃ n, ns.length = n := ⟨_, rfl⟩
  have HN := Lib.hid hN
  have HCN := Lib.hid hn
  have HIN := Lib.hid hin
  have HWT := Lib.hid hw
  have HBN := Lib.hid hBN
  have HFN := Lib.hid hFN
  obtain ⟨m, hm⟩ : ∃ m, its.length = m := ⟨_, rfl⟩
  have HM := Lib.hid hm
  rw [hm, hn] at hsz
  have hst0 : KAt w N B F vl its ns 0 (.slice none 0 0) w := ⟨⟨vi, by simpa [pkIt] using h⟩, World.ownsRow_nil _ _ _ 1, FStep.refl _ _ _⟩
  have HST0 := Lib.hid hst0
  rw [hn] at hc HV
  rw [hN, hn]
  obtain ⟨i0, hi, hz0, hz1, hz2⟩ := info_parts' Try.infoInt2
  clear hst0 hN hv hn hm h hin hw hlF hFN hBN
  go_enter Try.func36, Try.ntmps36
  go_wp2_with fail
  go_loopw [5, 6] (fun lv sv wr => ∃ j : Nat, 2 * j ≤ n ∧ sv = .int .i64 ((2 * j + 1 : Nat) : Int) ∧ Hid (KAt w N B F vl its ns j lv wr)) (fun _ sv _ => n + 2 - (Go.RowKit.intOf sv).toNat)
  case atStart => exact ⟨0, Nat.zero_le _, rfl, HST0⟩
  case round =>
    clear HST0
    obtain ⟨j, hj, rfl, HS⟩ := hrel
    by_cases hlt : 2 * j + 1 < n
    · have hlti : ((2 * j + 1 : Nat) : Int) < (n : Int) := by omega
      obtain ⟨a, hax⟩ : ∃ a, ns[2 * j]? = some a := ⟨_, List.getElem?_eq_getElem (by rw [HCN.out]; omega)⟩
      obtain ⟨b, hbx⟩ : ∃ b, ns[2 * j + 1]? = some b := ⟨_, List.getElem?_eq_getElem (by rw [HCN.out]; omega)⟩
      obtain ⟨bk, o, rfl, -, hjj⟩ := at_int (HV.out wr HS.out.s) (by rw [List.length_map, HCN.out]; omega)
      have u0 := hjj (2 * j) (a : Int) (by rw [List.getElem?_map, hax]; rfl)
      have u1 := hjj (2 * j + 1) (b : Int) (by rw [List.getElem?_map, hbx]; rfl)
      have ha1 := HIN.out a (List.mem_of_getElem? hax)
      have hb1 := HIN.out b (List.mem_of_getElem? hbx)
      have hwa := HWT.out a (List.mem_of_getElem? hax)
      have hwb := HWT.out b (List.mem_of_getElem? hbx)
      have hstep := pkIt_step (its := its) hax hbx
      obtain ⟨vi, hf⟩ := HS.out.f
      have hro := hf.rows
      obtain ⟨Av, cv, rfl, hcv⟩ := hro.form
      obtain ⟨its2, hits⟩ : ∃ its2, its ++ pkIt its (ns.take (2 * j)) = its2 := ⟨_, rfl⟩
      have hl2 : its2.length = m + j := by
        rw [← hits, List.length_append, pkIt_len, List.length_take, HM.out, HCN.out]; omega
      have hxa : its2[a]? = its[a]? := by rw [← hits, List.getElem?_append_left ha1]
      have hxb : its2[b]? = its[b]? := by rw [← hits, List.getElem?_append_left hb1]
      obtain ⟨xa, hxa2⟩ : ∃ x, its[a]? = some x := ⟨_, List.getElem?_eq_getElem ha1⟩
      obtain ⟨xb, hxb2⟩ : ∃ x, its[b]? = some x := ⟨_, List.getElem?_eq_getElem hb1⟩
      rw [wI_at hxa2] at hwa hstep
      rw [wI_at hxb2] at hwb hstep
      rw [hits] at hf hro hcv
      obtain ⟨bi, oi, rfl, -, hcel⟩ := at_it hro (by have := HM.out; omega)
      have p0 := (hcel a xa (by rw [hxa, hxa2])).1
      have p1 := (hcel b xb (by rw [hxb, hxb2])).1
      obtain ⟨x, hx⟩ : ∃ x, xa.1 = x := ⟨_, rfl⟩
      obtain ⟨y, hy⟩ : ∃ y, xb.1 = y := ⟨_, rfl⟩
      rw [hx] at p0 hwa hstep
      rw [hy] at p1 hwb hstep
      rw [HM.out] at ha1 hb1
      have c0 := cell_of (i := 0) hf.box rfl
      have HF := Lib.hid hf
      have HSTEP := Lib.hid (show its ++ pkIt its (ns.take (2 * (j + 1))) = its2 ++ [(x + y, (a : Int), (b : Int))] from by rw [hstep, ← List.append_assoc, hits])
      rw [hl2] at hcv c0
      have HL2 := Lib.hid hl2
      have hsum : IntKind.i64.wrap (x + y) = x + y := by rw [IntKind.wrap_i64]; omega
      have hsum2 : wrap64 (x + y) = x + y := by unfold wrap64; omega
      clear hjj hax hbx hwa hwb hstep hf hro hits hl2 hxa hxb hxa2 hxb2 hcel hx hy
      have q1 : wrap64 (((2 * j + 1 : Nat) : Int) - 1) = ((2 * j : Nat) : Int) := by unfold wrap64; omega
      go_wp2_with fail
      go_quiet (fail)
      go_wp2_with fail
      obtain ⟨Wq, hWq⟩ : ∃ W, wr.drewN nq = W := ⟨_, rfl⟩
      have c0q : Wq.cell? ⟨F, 0, none⟩ = some (.slice (some ⟨bi, oi, none⟩) (m + j) cv) := by rw [← hWq]; exact c0
      have p0q : Wq.cell? ⟨bi, oi + a * 3, none⟩ = some (.int .i64 x) := by rw [← hWq]; exact p0
      have p1q : Wq.cell? ⟨bi, oi + b * 3, none⟩ = some (.int .i64 y) := by rw [← hWq]; exact p1
      have HFQ : Hid (FAt Wq.drew B F (.slice (some ⟨bi, oi, none⟩) (m + j) cv) vl its2) := Lib.hid (by rw [← hWq]; have h0 := (HF.out.drewN nq).drew; rw [HL2.out] at h0; exact h0)
      have HOQ : Hid (Wq.drew.ownsRow N 3 1 u5 j (fromV its.length j)) := Lib.hid (by rw [← hWq]; exact HS.out.o)
      have HSQ : Hid (FStep B F w Wq.drew) := Lib.hid (by rw [← hWq]; exact (HS.out.s.drewN nq).drew)
      have HADD := Lib.hid (add_any HFQ.out (by have := HL2.out; omega) (x + y) (a : Int) (b : Int))
      have hpF : u5.ownBlock ≠ some F := own_other HOQ.out HFQ.out.box (by decide)
      rw [hWq]
      have ha2 : (a : Int) < (m : Int) + (j : Int) := by omega
      have hb2 : (b : Int) < (m : Int) + (j : Int) := by omega
      clear hWq c0 p0 p1 u0 u1 HS HF
      refine wp_region_any (by kernel_rfl) ?_
      change wpAny _ _ _ _ _ _ _ (World.drew _)
      refine wpAny_take (i := 0) (oi := ?oi1) (v := ?v1) ?hi1 (by kernel_rfl) (by kernel_rfl) (by kernel_rfl) ?hq1 ?hy1 ?hr1
      case hi1 => (simp only [List.getElem?_toArray, List.getElem?_cons_zero]; rfl)
      case hq1 => exact fun _ _ _ h => h
      case hy1 => exact Or.inl ⟨by rfl, by intro w; (first | (go_simp; done) | (go_simp; with_reducible rfl))⟩
      try simp only [Act.put, List.setIfInBounds_toArray, List.set_cons_zero, List.set_cons_succ]
      refine wpAny_take (i := 1) (oi := ?oi2) (v := ?v2) ?hi2 (by kernel_rfl) (by kernel_rfl) (by kernel_rfl) ?hq2 ?hy2 ?hr2
      case hi2 => (simp only [List.getElem?_toArray, List.getElem?_cons_succ, List.getElem?_cons_zero]; rfl)
      case hq2 => exact fun _ _ _ h => h
      case hy2 => exact Or.inl ⟨by rfl, by intro w; (first | (go_simp; done) | (go_simp; with_reducible rfl))⟩
      try simp only [Act.put, List.setIfInBounds_toArray, List.set_cons_zero, List.set_cons_succ]
      refine wpAny_take (i := 2) (oi := ?oi3) (v := ?v3) ?hi3 (by kernel_rfl) (by kernel_rfl) (by kernel_rfl) ?hq3 ?hy3 ?hr3
      case hi3 => (simp only [List.getElem?_toArray, List.getElem?_cons_succ, List.getElem?_cons_zero]; rfl)
      case hq3 => exact fun _ _ _ h => h
      case hy3 => exact Or.inl ⟨by rfl, by intro w; (first | (go_simp; done) | (go_simp; with_reducible rfl))⟩
      try simp only [Act.put, List.setIfInBounds_toArray, List.set_cons_zero, List.set_cons_succ]
      refine wpAny_take (i := 3) (oi := ?oi4) (v := ?v4) ?hi4 (by kernel_rfl) (by kernel_rfl) (by kernel_rfl) ?hq4 ?hy4 ?hr4
      case hi4 => (simp only [List.getElem?_toArray, List.getElem?_cons_succ, List.getElem?_cons_zero]; rfl)
      case hq4 => exact fun _ _ _ h => h
      case hy4 => exact Or.inl ⟨by rfl, by intro w; (first | (go_simp; done) | (go_simp; with_reducible rfl))⟩
      try simp only [Act.put, List.setIfInBounds_toArray, List.set_cons_zero, List.set_cons_succ]
      refine wpAny_take (i := 4) (oi := ?oi5) (v := ?v5) ?hi5 (by kernel_rfl) (by kernel_rfl) (by kernel_rfl) ?hq5 ?hy5 ?hr5
      case hi5 => (simp only [List.getElem?_toArray, List.getElem?_cons_succ, List.getElem?_cons_zero]; rfl)
      case hq5 => exact fun _ _ _ h => h
      case hy5 => exact Or.inl ⟨by rfl, by intro w; (first | (go_simp; done) | (go_simp; with_reducible rfl))⟩
      try simp only [Act.put, List.setIfInBounds_toArray, List.set_cons_zero, List.set_cons_succ]
      refine wpAny_take (i := 6) (oi := ?oi6) (v := ?v6) ?hi6 (by kernel_rfl) (by kernel_rfl) (by kernel_rfl) ?hq6 ?hy6 ?hr6
      case hi6 => (simp only [List.getElem?_toArray, List.getElem?_cons_succ, List.getElem?_cons_zero]; rfl)
      case hq6 => exact fun _ _ _ h => h
      case hy6 => exact Or.inl ⟨by rfl, by intro w; (first | (go_simp; done) | (go_simp; with_reducible rfl))⟩
      try simp only [Act.put, List.setIfInBounds_toArray, List.set_cons_zero, List.set_cons_succ]
      refine wpAny_take (i := 10) (oi := ?oi7) (v := ?v7) ?hi7 (by kernel_rfl) (by kernel_rfl) (by kernel_rfl) ?hq7 ?hy7 ?hr7
      case hi7 => (simp only [List.getElem?_toArray, List.getElem?_cons_succ, List.getElem?_cons_zero]; rfl)
      case hq7 => exact fun _ _ _ h => h
      case hy7 => exact Or.inl ⟨by rfl, by intro w; (first | (go_simp; done) | (go_simp; with_reducible rfl))⟩
      try simp only [Act.put, List.setIfInBounds_toArray, List.set_cons_zero, List.set_cons_succ]
      refine wpAny_take (i := 11) (oi := ?oi8) (v := ?v8) ?hi8 (by kernel_rfl) (by kernel_rfl) (by kernel_rfl) ?hq8 ?hy8 ?hr8
      case hi8 => (simp only [List.getElem?_toArray, List.getElem?_cons_succ, List.getElem?_cons_zero]; rfl)
      case hq8 => exact fun _ _ _ h => h
      case hy8 => exact Or.inl ⟨by rfl, by intro w; (first | (go_simp; done) | (go_simp; with_reducible rfl))⟩
      try simp only [Act.put, List.setIfInBounds_toArray, List.set_cons_zero, List.set_cons_succ]
      refine wpAny_take (i := 12) (oi := ?oi9) (v := ?v9) ?hi9 (by kernel_rfl) (by kernel_rfl) (by kernel_rfl) ?hq9 ?hy9 ?hr9
      case hi9 => (simp only [List.getElem?_toArray, List.getElem?_cons_succ, List.getElem?_cons_zero]; rfl)
      case hq9 => exact fun _ _ _ h => h
      case hy9 => exact Or.inl ⟨by rfl, by intro w; (first | (go_simp; done) | (go_simp; with_reducible rfl))⟩
      try simp only [Act.put, List.setIfInBounds_toArray, List.set_cons_zero, List.set_cons_succ]
      refine wpAny_take (i := 14) (oi := ?oi10) (v := ?v10) ?hi10 (by kernel_rfl) (by kernel_rfl) (by kernel_rfl) ?hq10 ?hy10 ?hr10
      case hi10 => (simp only [List.getElem?_toArray, List.getElem?_cons_succ, List.getElem?_cons_zero]; rfl)
      case hq10 => exact fun _ _ _ h => h
      case hy10 => exact Or.inl ⟨by rfl, by intro w; (first | (go_simp; done) | (go_simp; with_reducible rfl))⟩
      try simp only [Act.put, List.setIfInBounds_toArray, List.set_cons_zero, List.set_cons_succ]
      refine wpAny_take (i := 19) (oi := ?oi11) (v := ?v11) ?hi11 (by kernel_rfl) (by kernel_rfl) (by kernel_rfl) ?hq11 ?hy11 ?hr11
      case hi11 => (simp only [List.getElem?_toArray, List.getElem?_cons_succ, List.getElem?_cons_zero]; rfl)
      case hq11 => exact fun _ _ _ h => h
      case hy11 => exact Or.inl ⟨by rfl, by intro w; (first | (go_simp; done) | (go_simp; with_reducible rfl))⟩
      try simp only [Act.put, List.setIfInBounds_toArray, List.set_cons_zero, List.set_cons_succ]
      refine wpAny_take (i := 20) (oi := ?oi12) (v := ?v12) ?hi12 (by kernel_rfl) (by kernel_rfl) (by kernel_rfl) ?hq12 ?hy12 ?hr12
      case hi12 => (simp only [List.getElem?_toArray, List.getElem?_cons_succ, List.getElem?_cons_zero]; rfl)
      case hq12 => exact fun _ _ _ h => h
      case hy12 => exact Or.inl ⟨by rfl, by intro w; (first | (go_simp; done) | (go_simp; with_reducible rfl))⟩
      try simp only [Act.put, List.setIfInBounds_toArray, List.set_cons_zero, List.set_cons_succ]
      refine wpAny_ready (rs := [5, 13]) (by kernel_rfl) (by simp) ?_
      refine AllReady.cons (o := ?oo13) ?hi13 (fun K hK => ?hs13) ?hm13
      case hi13 => (simp only [List.getElem?_toArray, List.getElem?_cons_succ, List.getElem?_cons_zero]; rfl)
      · go_simp
        refine hK _ _ ?_; clear hK K
        try simp only [Act.put, List.setIfInBounds_toArray, List.set_cons_zero, List.set_cons_succ]
        refine wpAny_take (i := 7) (oi := ?oi14) (v := ?v14) ?hi14 (by kernel_rfl) (by kernel_rfl) (by kernel_rfl) ?hq14 ?hy14 ?hr14
        case hi14 => (simp only [List.getElem?_toArray, List.getElem?_cons_succ, List.getElem?_cons_zero]; rfl)
        case hq14 => exact fun _ _ _ h => h
        case hy14 => exact Or.inl ⟨by rfl, by intro w; (first | (go_simp; done) | (go_simp; with_reducible rfl))⟩
        try simp only [Act.put, List.setIfInBounds_toArray, List.set_cons_zero, List.set_cons_succ]
        refine wpAny_take (i := 8) (oi := ?oi15) (v := ?v15) ?hi15 (by kernel_rfl) (by kernel_rfl) (by kernel_rfl) ?hq15 ?hy15 ?hr15
        case hi15 => (simp only [List.getElem?_toArray, List.getElem?_cons_succ, List.getElem?_cons_zero]; rfl)
        case hq15 => exact fun _ _ _ h => h
        case hy15 => exact Or.inl ⟨by rfl, by intro w; (first | (go_simp; done) | (go_simp; with_reducible rfl))⟩
        try simp only [Act.put, List.setIfInBounds_toArray, List.set_cons_zero, List.set_cons_succ]
        refine wpAny_ready (rs := [9, 13]) (by kernel_rfl) (by simp) ?_
        refine AllReady.cons (o := ?oo16) ?hi16 (fun K hK => ?hs16) ?hm16
        case hi16 => (simp only [List.getElem?_toArray, List.getElem?_cons_succ, List.getElem?_cons_zero]; rfl)
        · go_simp
          refine hK _ _ ?_; clear hK K
          try simp only [Act.put, List.setIfInBounds_toArray, List.set_cons_zero, List.set_cons_succ]
          refine wpAny_ready (rs := [13]) (by kernel_rfl) (by simp) ?_
          refine AllReady.cons (o := ?oo17) ?hi17 (fun K hK => ?hs17) ?hm17
          case hi17 => (simp only [List.getElem?_toArray, List.getElem?_cons_succ, List.getElem?_cons_zero]; rfl)
          · go_simp
            refine hK _ _ ?_; clear hK K
            try simp only [Act.put, List.setIfInBounds_toArray, List.set_cons_zero, List.set_cons_succ]
            refine wpAny_take (i := 15) (oi := ?oi18) (v := ?v18) ?hi18 (by kernel_rfl) (by kernel_rfl) (by kernel_rfl) ?hq18 ?hy18 ?hr18
            case hi18 => (simp only [List.getElem?_toArray, List.getElem?_cons_succ, List.getElem?_cons_zero]; rfl)
            case hq18 => exact fun _ _ _ h => h
            case hy18 => exact Or.inl ⟨by rfl, by intro w; (first | (go_simp; done) | (go_simp; with_reducible rfl))⟩
            try simp only [Act.put, List.setIfInBounds_toArray, List.set_cons_zero, List.set_cons_succ]
            refine wpAny_take (i := 16) (oi := ?oi19) (v := ?v19) ?hi19 (by kernel_rfl) (by kernel_rfl) (by kernel_rfl) ?hq19 ?hy19 ?hr19
            case hi19 => (simp only [List.getElem?_toArray, List.getElem?_cons_succ, List.getElem?_cons_zero]; rfl)
            case hq19 => exact fun _ _ _ h => h
            case hy19 => exact Or.inl ⟨by rfl, by intro w; (first | (go_simp; done) | (go_simp; with_reducible rfl))⟩
            try simp only [Act.put, List.setIfInBounds_toArray, List.set_cons_zero, List.set_cons_succ]
            refine wpAny_ready (rs := [17]) (by kernel_rfl) (by simp) ?_
            refine AllReady.cons (o := ?oo20) ?hi20 (fun K hK => ?hs20) ?hm20
            case hi20 => (simp only [List.getElem?_toArray, List.getElem?_cons_succ, List.getElem?_cons_zero]; rfl)
            · go_simp
              refine hK _ _ ?_; clear hK K
              try simp only [Act.put, List.setIfInBounds_toArray, List.set_cons_zero, List.set_cons_succ]
              refine wpAny_take (i := 18) (oi := ?oi21) (v := ?v21) ?hi21 (by kernel_rfl) (by kernel_rfl) (by kernel_rfl) ?hq21 ?hy21 ?hr21
              case hi21 => (simp only [List.getElem?_toArray, List.getElem?_cons_succ, List.getElem?_cons_zero]; rfl)
              case hq21 => exact fun _ _ _ h => h
              case hy21 => exact Or.inl ⟨by rfl, by intro w; (first | (go_simp; done) | (go_simp; with_reducible rfl))⟩
              try simp only [Act.put, List.setIfInBounds_toArray, List.set_cons_zero, List.set_cons_succ]
              refine wpAny_take (i := 21) (oi := ?oi22) (v := ?v22) ?hi22 (by kernel_rfl) (by kernel_rfl) (by kernel_rfl) ?hq22 ?hy22 ?hr22
              case hi22 => (simp only [List.getElem?_toArray, List.getElem?_cons_succ, List.getElem?_cons_zero]; rfl)
              case hq22 => exact fun _ _ _ h => h
              case hy22 => exact Or.inl ⟨by rfl, by intro w; (first | (go_simp; done) | (go_simp; with_reducible rfl))⟩
              try simp only [Act.put, List.setIfInBounds_toArray, List.set_cons_zero, List.set_cons_succ]
              refine wpAny_ready (rs := [22]) (by kernel_rfl) (by simp) ?_
              refine AllReady.cons (o := ?oo23) ?hi23 (fun K hK => ?hs23) ?hm23
              case hi23 => (simp only [List.getElem?_toArray, List.getElem?_cons_succ, List.getElem?_cons_zero]; rfl)
              · go_simp
                refine HADD.out.mono ?_
                rintro e w2 ⟨vi2, rfl, hf2, hs2⟩
                rw [HL2.out]
                obtain ⟨r, hr⟩ : ∃ r, m + j = r := ⟨_, rfl⟩
                rw [hr]
                have HO2 := Lib.hid (hs2.own HOQ.out hpF (by decide))
                have HS2 := Lib.hid (HSQ.out.trans hs2)
                have HF2 := Lib.hid hf2
                obtain ⟨X3, hX3⟩ : ∃ X3, w2.alloc (.cells #[.int .i64 (r : Int)] 3) = X3 := ⟨_, rfl⟩
                have HO3 : Hid (X3.ownsRow N 3 1 u5 j (fromV its.length j)) := Lib.hid (by rw [← hX3]; exact HO2.out.alloc _)
                have HSV : Hid (SeesC X3 X3.heap.size (.slice (some ⟨w2.heap.size, 0, none⟩) 1 1) [.int .i64 (r : Int)]) := Lib.hid (by rw [← hX3]; exact sees_valH _ _ _)
                have hNX : N ≤ X3.heap.size := by
                  have h1 := HS2.out.be.size
                  rw [HN.out] at h1
                  rw [← hX3, alloc_sz]; omega
                have HX3 := Lib.hid hX3
                have HR := Lib.hid hr
                clear hf2 hs2 hX3 hr
                go_wp2_with fail
                try simp only [Act.put, List.setIfInBounds_toArray, List.set_cons_zero, List.set_cons_succ]
                refine wpAny_ready (rs := [23]) (by kernel_rfl) (by simp) ?_
                refine AllReady.cons (o := ?oo24) ?hi24 (fun K hK => ?hs24) ?hm24
                case hi24 => (simp only [List.getElem?_toArray, List.getElem?_cons_succ, List.getElem?_cons_zero]; rfl)
                · go_simp
                  refine hK _ _ ?_; clear hK K
                  try simp only [Act.put, List.setIfInBounds_toArray, List.set_cons_zero, List.set_cons_succ]
                  refine wpAny_ready (rs := [24]) (by kernel_rfl) (by simp) ?_
                  refine AllReady.cons (o := ?oo25) ?hi25 (fun K hK => ?hs25) ?hm25
                  case hi25 => (simp only [List.getElem?_toArray, List.getElem?_cons_succ, List.getElem?_cons_zero]; rfl)
                  · rw [HX3.out]
                    refine step_append_any rfl (.tmp 24) (.tmp 47) 22 rfl N 3 i0 _ 8 Try.underlying22 hi hz0 hz1 hz2 rfl u5 j (fromV its.length j) rfl HO3.out _ X3.heap.size [.int .i64 (r : Int)] rfl HSV.out (by simp [Value.oneCell']) (by show j + 1 ≤ _; unfold maxLen; omega) (by show (j + 1) * 8 ≤ _; omega) hNX ?_
                    intro v' wa ho hg _
                    have hp := KAt.push HN.out HBN.out HFN.out HF2.out HO2.out HS2.out HX3.out (by rw [HM.out, HR.out]; rw [HM.out] at ho; exact ho) hg
                    have HP4 := Lib.hid hp
                    clear ho hg hp
                    refine hK _ _ ?_; clear hK K
                    try simp only [Act.put, List.setIfInBounds_toArray, List.set_cons_zero, List.set_cons_succ]
                    refine wpAny_take (i := 25) (oi := ?oi26) (v := ?v26) ?hi26 (by kernel_rfl) (by kernel_rfl) (by kernel_rfl) ?hq26 ?hy26 ?hr26
                    case hi26 => (simp only [List.getElem?_toArray, List.getElem?_cons_succ, List.getElem?_cons_zero]; rfl)
                    case hq26 => exact fun _ _ _ h => h
                    case hy26 => exact Or.inl ⟨by rfl, by intro w; (first | (go_simp; done) | (go_simp; with_reducible rfl))⟩
                    try simp only [Act.put, List.setIfInBounds_toArray, List.set_cons_zero, List.set_cons_succ]
                    refine wpAny_done (by kernel_rfl) ?_ _
                    have HKN : Hid (KAt w N B F vl its ns (j + 1) v' wa) := Lib.hid ⟨⟨vi2, by rw [HSTEP.out]; exact HP4.out.1⟩, HP4.out.2.1, HP4.out.2.2⟩
                    clear HP4 HO3 HSV HX3 HO2 HS2 HF2 HADD HFQ HOQ HSQ HSTEP c0q p0q p1q
                    go_wp2_with fail
                    exact ⟨⟨j + 1, by omega, by go_num, HKN⟩, by simp only [Go.RowKit.intOf]; omega⟩
                  exact AllReady.nil
                exact AllReady.nil
              exact AllReady.nil
            exact AllReady.nil
          exact AllReady.nil
        refine AllReady.cons (o := ?oo27) ?hi27 (fun K hK => ?hs27) ?hm27
        case hi27 => (simp only [List.getElem?_toArray, List.getElem?_cons_succ, List.getElem?_cons_zero]; rfl)
        · go_simp
          refine hK _ _ ?_; clear hK K
          try simp only [Act.put, List.setIfInBounds_toArray, List.set_cons_zero, List.set_cons_succ]
          refine wpAny_take (i := 15) (oi := ?oi28) (v := ?v28) ?hi28 (by kernel_rfl) (by kernel_rfl) (by kernel_rfl) ?hq28 ?hy28 ?hr28
          case hi28 => (simp only [List.getElem?_toArray, List.getElem?_cons_succ, List.getElem?_cons_zero]; rfl)
          case hq28 => exact fun _ _ _ h => h
          case hy28 => exact Or.inl ⟨by rfl, by intro w; (first | (go_simp; done) | (go_simp; with_reducible rfl))⟩
          try simp only [Act.put, List.setIfInBounds_toArray, List.set_cons_zero, List.set_cons_succ]
          refine wpAny_take (i := 16) (oi := ?oi29) (v := ?v29) ?hi29 (by kernel_rfl) (by kernel_rfl) (by kernel_rfl) ?hq29 ?hy29 ?hr29
          case hi29 => (simp only [List.getElem?_toArray, List.getElem?_cons_succ, List.getElem?_cons_zero]; rfl)
          case hq29 => exact fun _ _ _ h => h
          case hy29 => exact Or.inl ⟨by rfl, by intro w; (first | (go_simp; done) | (go_simp; with_reducible rfl))⟩
          try simp only [Act.put, List.setIfInBounds_toArray, List.set_cons_zero, List.set_cons_succ]
          refine wpAny_ready (rs := [9, 17]) (by kernel_rfl) (by simp) ?_
          refine AllReady.cons (o := ?oo30) ?hi30 (fun K hK => ?hs30) ?hm30
          case hi30 => (simp only [List.getElem?_toArray, List.getElem?_cons_succ, List.getElem?_cons_zero]; rfl)
          · go_simp
            refine hK _ _ ?_; clear hK K
            try simp only [Act.put, List.setIfInBounds_toArray, List.set_cons_zero, List.set_cons_succ]
            refine wpAny_ready (rs := [17]) (by kernel_rfl) (by simp) ?_
            refine AllReady.cons (o := ?oo31) ?hi31 (fun K hK => ?hs31) ?hm31
            case hi31 => (simp only [List.getElem?_toArray, List.getElem?_cons_succ, List.getElem?_cons_zero]; rfl)
            · go_simp
              refine hK _ _ ?_; clear hK K
              try simp only [Act.put, List.setIfInBounds_toArray, List.set_cons_zero, List.set_cons_succ]
              refine wpAny_take (i := 18) (oi := ?oi32) (v := ?v32) ?hi32 (by kernel_rfl) (by kernel_rfl) (by kernel_rfl) ?hq32 ?hy32 ?hr32
              case hi32 => (simp only [List.getElem?_toArray, List.getElem?_cons_succ, List.getElem?_cons_zero]; rfl)
              case hq32 => exact fun _ _ _ h => h
              case hy32 => exact Or.inl ⟨by rfl, by intro w; (first | (go_simp; done) | (go_simp; with_reducible rfl))⟩
              try simp only [Act.put, List.setIfInBounds_toArray, List.set_cons_zero, List.set_cons_succ]
              refine wpAny_take (i := 21) (oi := ?oi33) (v := ?v33) ?hi33 (by kernel_rfl) (by kernel_rfl) (by kernel_rfl) ?hq33 ?hy33 ?hr33
              case hi33 => (simp only [List.getElem?_toArray, List.getElem?_cons_succ, List.getElem?_cons_zero]; rfl)
              case hq33 => exact fun _ _ _ h => h
              case hy33 => exact Or.inl ⟨by rfl, by intro w; (first | (go_simp; done) | (go_simp; with_reducible rfl))⟩
              try simp only [Act.put, List.setIfInBounds_toArray, List.set_cons_zero, List.set_cons_succ]
              refine wpAny_ready (rs := [22]) (by kernel_rfl) (by simp) ?_
              refine AllReady.cons (o := ?oo34) ?hi34 (fun K hK => ?hs34) ?hm34
              case hi34 => (simp only [List.getElem?_toArray, List.getElem?_cons_succ, List.getElem?_cons_zero]; rfl)
              · go_simp
                refine HADD.out.mono ?_
                rintro e w2 ⟨vi2, rfl, hf2, hs2⟩
                rw [HL2.out]
                obtain ⟨r, hr⟩ : ∃ r, m + j = r := ⟨_, rfl⟩
                rw [hr]
                have HO2 := Lib.hid (hs2.own HOQ.out hpF (by decide))
                have HS2 := Lib.hid (HSQ.out.trans hs2)
                have HF2 := Lib.hid hf2
                obtain ⟨X3, hX3⟩ : ∃ X3, w2.alloc (.cells #[.int .i64 (r : Int)] 3) = X3 := ⟨_, rfl⟩
                have HO3 : Hid (X3.ownsRow N 3 1 u5 j (fromV its.length j)) := Lib.hid (by rw [← hX3]; exact HO2.out.alloc _)
                have HSV : Hid (SeesC X3 X3.heap.size (.slice (some ⟨w2.heap.size, 0, none⟩) 1 1) [.int .i64 (r : Int)]) := Lib.hid (by rw [← hX3]; exact sees_valH _ _ _)
                have hNX : N ≤ X3.heap.size := by
                  have h1 := HS2.out.be.size
                  rw [HN.out] at h1
                  rw [← hX3, alloc_sz]; omega
                have HX3 := Lib.hid hX3
                have HR := Lib.hid hr
                clear hf2 hs2 hX3 hr
                go_wp2_with fail
                try simp only [Act.put, List.setIfInBounds_toArray, List.set_cons_zero, List.set_cons_succ]
                refine wpAny_ready (rs := [23]) (by kernel_rfl) (by simp) ?_
                refine AllReady.cons (o := ?oo35) ?hi35 (fun K hK => ?hs35) ?hm35
                case hi35 => (simp only [List.getElem?_toArray, List.getElem?_cons_succ, List.getElem?_cons_zero]; rfl)
                · go_simp
                  refine hK _ _ ?_; clear hK K
                  try simp only [Act.put, List.setIfInBounds_toArray, List.set_cons_zero, List.set_cons_succ]
                  refine wpAny_ready (rs := [24]) (by kernel_rfl) (by simp) ?_
                  refine AllReady.cons (o := ?oo36) ?hi36 (fun K hK => ?hs36) ?hm36
                  case hi36 => (simp only [List.getElem?_toArray, List.getElem?_cons_succ, List.getElem?_cons_zero]; rfl)
                  · rw [HX3.out]
                    refine step_append_any rfl (.tmp 24) (.tmp 47) 22 rfl N 3 i0 _ 8 Try.underlying22 hi hz0 hz1 hz2 rfl u5 j (fromV its.length j) rfl HO3.out _ X3.heap.size [.int .i64 (r : Int)] rfl HSV.out (by simp [Value.oneCell']) (by show j + 1 ≤ _; unfold maxLen; omega) (by show (j + 1) * 8 ≤ _; omega) hNX ?_
                    intro v' wa ho hg _
                    have hp := KAt.push HN.out HBN.out HFN.out HF2.out HO2.out HS2.out HX3.out (by rw [HM.out, HR.out]; rw [HM.out] at ho; exact ho) hg
                    have HP4 := Lib.hid hp
                    clear ho hg hp
                    refine hK _ _ ?_; clear hK K
                    try simp only [Act.put, List.setIfInBounds_toArray, List.set_cons_zero, List.set_cons_succ]
                    refine wpAny_take (i := 25) (oi := ?oi37) (v := ?v37) ?hi37 (by kernel_rfl) (by kernel_rfl) (by kernel_rfl) ?hq37 ?hy37 ?hr37
                    case hi37 => (simp only [List.getElem?_toArray, List.getElem?_cons_succ, List.getElem?_cons_zero]; rfl)
                    case hq37 => exact fun _ _ _ h => h
                    case hy37 => exact Or.inl ⟨by rfl, by intro w; (first | (go_simp; done) | (go_simp; with_reducible rfl))⟩
                    try simp only [Act.put, List.setIfInBounds_toArray, List.set_cons_zero, List.set_cons_succ]
                    refine wpAny_done (by kernel_rfl) ?_ _
                    have HKN : Hid (KAt w N B F vl its ns (j + 1) v' wa) := Lib.hid ⟨⟨vi2, by rw [HSTEP.out]; exact HP4.out.1⟩, HP4.out.2.1, HP4.out.2.2⟩
                    clear HP4 HO3 HSV HX3 HO2 HS2 HF2 HADD HFQ HOQ HSQ HSTEP c0q p0q p1q
                    go_wp2_with fail
                    exact ⟨⟨j + 1, by omega, by go_num, HKN⟩, by simp only [Go.RowKit.intOf]; omega⟩
                  exact AllReady.nil
                exact AllReady.nil
              exact AllReady.nil
            exact AllReady.nil
          refine AllReady.cons (o := ?oo38) ?hi38 (fun K hK => ?hs38) ?hm38
          case hi38 => (simp only [List.getElem?_toArray, List.getElem?_cons_succ, List.getElem?_cons_zero]; rfl)
          · go_simp
            refine hK _ _ ?_; clear hK K
            try simp only [Act.put, List.setIfInBounds_toArray, List.set_cons_zero, List.set_cons_succ]
            refine wpAny_ready (rs := [9]) (by kernel_rfl) (by simp) ?_
            refine AllReady.cons (o := ?oo39) ?hi39 (fun K hK => ?hs39) ?hm39
            case hi39 => (simp only [List.getElem?_toArray, List.getElem?_cons_succ, List.getElem?_cons_zero]; rfl)
            · go_simp
              refine hK _ _ ?_; clear hK K
              try simp only [Act.put, List.setIfInBounds_toArray, List.set_cons_zero, List.set_cons_succ]
              refine wpAny_take (i := 18) (oi := ?oi40) (v := ?v40) ?hi40 (by kernel_rfl) (by kernel_rfl) (by kernel_rfl) ?hq40 ?hy40 ?hr40
              case hi40 => (simp only [List.getElem?_toArray, List.getElem?_cons_succ, List.getElem?_cons_zero]; rfl)
              case hq40 => exact fun _ _ _ h => h
              case hy40 => exact Or.inl ⟨by rfl, by intro w; (first | (go_simp; done) | (go_simp; with_reducible rfl))⟩
              try simp only [Act.put, List.setIfInBounds_toArray, List.set_cons_zero, List.set_cons_succ]
              refine wpAny_take (i := 21) (oi := ?oi41) (v := ?v41) ?hi41 (by kernel_rfl) (by kernel_rfl) (by kernel_rfl) ?hq41 ?hy41 ?hr41
              case hi41 => (simp only [List.getElem?_toArray, List.getElem?_cons_succ, List.getElem?_cons_zero]; rfl)
              case hq41 => exact fun _ _ _ h => h
              case hy41 => exact Or.inl ⟨by rfl, by intro w; (first | (go_simp; done) | (go_simp; with_reducible rfl))⟩
              try simp only [Act.put, List.setIfInBounds_toArray, List.set_cons_zero, List.set_cons_succ]
              refine wpAny_ready (rs := [22]) (by kernel_rfl) (by simp) ?_
              refine AllReady.cons (o := ?oo42) ?hi42 (fun K hK => ?hs42) ?hm42
              case hi42 => (simp only [List.getElem?_toArray, List.getElem?_cons_succ, List.getElem?_cons_zero]; rfl)
              · go_simp
                refine HADD.out.mono ?_
                rintro e w2 ⟨vi2, rfl, hf2, hs2⟩
                rw [HL2.out]
                obtain ⟨r, hr⟩ : ∃ r, m + j = r := ⟨_, rfl⟩
                rw [hr]
                have HO2 := Lib.hid (hs2.own HOQ.out hpF (by decide))
                have HS2 := Lib.hid (HSQ.out.trans hs2)
                have HF2 := Lib.hid hf2
                obtain ⟨X3, hX3⟩ : ∃ X3, w2.alloc (.cells #[.int .i64 (r : Int)] 3) = X3 := ⟨_, rfl⟩
                have HO3 : Hid (X3.ownsRow N 3 1 u5 j (fromV its.length j)) := Lib.hid (by rw [← hX3]; exact HO2.out.alloc _)
                have HSV : Hid (SeesC X3 X3.heap.size (.slice (some ⟨w2.heap.size, 0, none⟩) 1 1) [.int .i64 (r : Int)]) := Lib.hid (by rw [← hX3]; exact sees_valH _ _ _)
                have hNX : N ≤ X3.heap.size := by
                  have h1 := HS2.out.be.size
                  rw [HN.out] at h1
                  rw [← hX3, alloc_sz]; omega
                have HX3 := Lib.hid hX3
                have HR := Lib.hid hr
                clear hf2 hs2 hX3 hr
                go_wp2_with fail
                try simp only [Act.put, List.setIfInBounds_toArray, List.set_cons_zero, List.set_cons_succ]
                refine wpAny_ready (rs := [23]) (by kernel_rfl) (by simp) ?_
                refine AllReady.cons (o := ?oo43) ?hi43 (fun K hK => ?hs43) ?hm43
                case hi43 => (simp only [List.getElem?_toArray, List.getElem?_cons_succ, List.getElem?_cons_zero]; rfl)
                · go_simp
                  refine hK _ _ ?_; clear hK K
                  try simp only [Act.put, List.setIfInBounds_toArray, List.set_cons_zero, List.set_cons_succ]
                  refine wpAny_ready (rs := [24]) (by kernel_rfl) (by simp) ?_
                  refine AllReady.cons (o := ?oo44) ?hi44 (fun K hK => ?hs44) ?hm44
                  case hi44 => (simp only [List.getElem?_toArray, List.getElem?_cons_succ, List.getElem?_cons_zero]; rfl)
                  · rw [HX3.out]
                    refine step_append_any rfl (.tmp 24) (.tmp 47) 22 rfl N 3 i0 _ 8 Try.underlying22 hi hz0 hz1 hz2 rfl u5 j (fromV its.length j) rfl HO3.out _ X3.heap.size [.int .i64 (r : Int)] rfl HSV.out (by simp [Value.oneCell']) (by show j + 1 ≤ _; unfold maxLen; omega) (by show (j + 1) * 8 ≤ _; omega) hNX ?_
                    intro v' wa ho hg _
                    have hp := KAt.push HN.out HBN.out HFN.out HF2.out HO2.out HS2.out HX3.out (by rw [HM.out, HR.out]; rw [HM.out] at ho; exact ho) hg
                    have HP4 := Lib.hid hp
                    clear ho hg hp
                    refine hK _ _ ?_; clear hK K
                    try simp only [Act.put, List.setIfInBounds_toArray, List.set_cons_zero, List.set_cons_succ]
                    refine wpAny_take (i := 25) (oi := ?oi45) (v := ?v45) ?hi45 (by kernel_rfl) (by kernel_rfl) (by kernel_rfl) ?hq45 ?hy45 ?hr45
                    case hi45 => (simp only [List.getElem?_toArray, List.getElem?_cons_succ, List.getElem?_cons_zero]; rfl)
                    case hq45 => exact fun _ _ _ h => h
                    case hy45 => exact Or.inl ⟨by rfl, by intro w; (first | (go_simp; done) | (go_simp; with_reducible rfl))⟩
                    try simp only [Act.put, List.setIfInBounds_toArray, List.set_cons_zero, List.set_cons_succ]
                    refine wpAny_done (by kernel_rfl) ?_ _
                    have HKN : Hid (KAt w N B F vl its ns (j + 1) v' wa) := Lib.hid ⟨⟨vi2, by rw [HSTEP.out]; exact HP4.out.1⟩, HP4.out.2.1, HP4.out.2.2⟩
                    clear HP4 HO3 HSV HX3 HO2 HS2 HF2 HADD HFQ HOQ HSQ HSTEP c0q p0q p1q
                    go_wp2_with fail
                    exact ⟨⟨j + 1, by omega, by go_num, HKN⟩, by simp only [Go.RowKit.intOf]; omega⟩
                  exact AllReady.nil
                exact AllReady.nil
              exact AllReady.nil
            exact AllReady.nil
          exact AllReady.nil
        exact AllReady.nil
      refine AllReady.cons (o := ?oo46) ?hi46 (fun K hK => ?hs46) ?hm46
      case hi46 => (simp only [List.getElem?_toArray, List.getElem?_cons_succ, List.getElem?_cons_zero]; rfl)
      · go_simp
        refine hK _ _ ?_; clear hK K
        try simp only [Act.put, List.setIfInBounds_toArray, List.set_cons_zero, List.set_cons_succ]
        refine wpAny_take (i := 15) (oi := ?oi47) (v := ?v47) ?hi47 (by kernel_rfl) (by kernel_rfl) (by kernel_rfl) ?hq47 ?hy47 ?hr47
        case hi47 => (simp only [List.getElem?_toArray, List.getElem?_cons_succ, List.getElem?_cons_zero]; rfl)
        case hq47 => exact fun _ _ _ h => h
        case hy47 => exact Or.inl ⟨by rfl, by intro w; (first | (go_simp; done) | (go_simp; with_reducible rfl))⟩
        try simp only [Act.put, List.setIfInBounds_toArray, List.set_cons_zero, List.set_cons_succ]
        refine wpAny_take (i := 16) (oi := ?oi48) (v := ?v48) ?hi48 (by kernel_rfl) (by kernel_rfl) (by kernel_rfl) ?hq48 ?hy48 ?hr48
        case hi48 => (simp only [List.getElem?_toArray, List.getElem?_cons_succ, List.getElem?_cons_zero]; rfl)
        case hq48 => exact fun _ _ _ h => h
        case hy48 => exact Or.inl ⟨by rfl, by intro w; (first | (go_simp; done) | (go_simp; with_reducible rfl))⟩
        try simp only [Act.put, List.setIfInBounds_toArray, List.set_cons_zero, List.set_cons_succ]
        refine wpAny_ready (rs := [5, 17]) (by kernel_rfl) (by simp) ?_
        refine AllReady.cons (o := ?oo49) ?hi49 (fun K hK => ?hs49) ?hm49
        case hi49 => (simp only [List.getElem?_toArray, List.getElem?_cons_succ, List.getElem?_cons_zero]; rfl)
        · go_simp
          refine hK _ _ ?_; clear hK K
          try simp only [Act.put, List.setIfInBounds_toArray, List.set_cons_zero, List.set_cons_succ]
          refine wpAny_take (i := 7) (oi := ?oi50) (v := ?v50) ?hi50 (by kernel_rfl) (by kernel_rfl) (by kernel_rfl) ?hq50 ?hy50 ?hr50
          case hi50 => (simp only [List.getElem?_toArray, List.getElem?_cons_succ, List.getElem?_cons_zero]; rfl)
          case hq50 => exact fun _ _ _ h => h
          case hy50 => exact Or.inl ⟨by rfl, by intro w; (first | (go_simp; done) | (go_simp; with_reducible rfl))⟩
          try simp only [Act.put, List.setIfInBounds_toArray, List.set_cons_zero, List.set_cons_succ]
          refine wpAny_take (i := 8) (oi := ?oi51) (v := ?v51) ?hi51 (by kernel_rfl) (by kernel_rfl) (by kernel_rfl) ?hq51 ?hy51 ?hr51
          case hi51 => (simp only [List.getElem?_toArray, List.getElem?_cons_succ, List.getElem?_cons_zero]; rfl)
          case hq51 => exact fun _ _ _ h => h
          case hy51 => exact Or.inl ⟨by rfl, by intro w; (first | (go_simp; done) | (go_simp; with_reducible rfl))⟩
          try simp only [Act.put, List.setIfInBounds_toArray, List.set_cons_zero, List.set_cons_succ]
          refine wpAny_ready (rs := [9, 17]) (by kernel_rfl) (by simp) ?_
          refine AllReady.cons (o := ?oo52) ?hi52 (fun K hK => ?hs52) ?hm52
          case hi52 => (simp only [List.getElem?_toArray, List.getElem?_cons_succ, List.getElem?_cons_zero]; rfl)
          · go_simp
            refine hK _ _ ?_; clear hK K
            try simp only [Act.put, List.setIfInBounds_toArray, List.set_cons_zero, List.set_cons_succ]
            refine wpAny_ready (rs := [17]) (by kernel_rfl) (by simp) ?_
            refine AllReady.cons (o := ?oo53) ?hi53 (fun K hK => ?hs53) ?hm53
            case hi53 => (simp only [List.getElem?_toArray, List.getElem?_cons_succ, List.getElem?_cons_zero]; rfl)
            · go_simp
              refine hK _ _ ?_; clear hK K
              try simp only [Act.put, List.setIfInBounds_toArray, List.set_cons_zero, List.set_cons_succ]
              refine wpAny_take (i := 18) (oi := ?oi54) (v := ?v54) ?hi54 (by kernel_rfl) (by kernel_rfl) (by kernel_rfl) ?hq54 ?hy54 ?hr54
              case hi54 => (simp only [List.getElem?_toArray, List.getElem?_cons_succ, List.getElem?_cons_zero]; rfl)
              case hq54 => exact fun _ _ _ h => h
              case hy54 => exact Or.inl ⟨by rfl, by intro w; (first | (go_simp; done) | (go_simp; with_reducible rfl))⟩
              try simp only [Act.put, List.setIfInBounds_toArray, List.set_cons_zero, List.set_cons_succ]
              refine wpAny_take (i := 21) (oi := ?oi55) (v := ?v55) ?hi55 (by kernel_rfl) (by kernel_rfl) (by kernel_rfl) ?hq55 ?hy55 ?hr55
              case hi55 => (simp only [List.getElem?_toArray, List.getElem?_cons_succ, List.getElem?_cons_zero]; rfl)
              case hq55 => exact fun _ _ _ h => h
              case hy55 => exact Or.inl ⟨by rfl, by intro w; (first | (go_simp; done) | (go_simp; with_reducible rfl))⟩
              try simp only [Act.put, List.setIfInBounds_toArray, List.set_cons_zero, List.set_cons_succ]
              refine wpAny_ready (rs := [22]) (by kernel_rfl) (by simp) ?_
              refine AllReady.cons (o := ?oo56) ?hi56 (fun K hK => ?hs56) ?hm56
              case hi56 => (simp only [List.getElem?_toArray, List.getElem?_cons_succ, List.getElem?_cons_zero]; rfl)
              · go_simp
                refine HADD.out.mono ?_
                rintro e w2 ⟨vi2, rfl, hf2, hs2⟩
                rw [HL2.out]
                obtain ⟨r, hr⟩ : ∃ r, m + j = r := ⟨_, rfl⟩
                rw [hr]
                have HO2 := Lib.hid (hs2.own HOQ.out hpF (by decide))
                have HS2 := Lib.hid (HSQ.out.trans hs2)
                have HF2 := Lib.hid hf2
                obtain ⟨X3, hX3⟩ : ∃ X3, w2.alloc (.cells #[.int .i64 (r : Int)] 3) = X3 := ⟨_, rfl⟩
                have HO3 : Hid (X3.ownsRow N 3 1 u5 j (fromV its.length j)) := Lib.hid (by rw [← hX3]; exact HO2.out.alloc _)
                have HSV : Hid (SeesC X3 X3.heap.size (.slice (some ⟨w2.heap.size, 0, none⟩) 1 1) [.int .i64 (r : Int)]) := Lib.hid (by rw [← hX3]; exact sees_valH _ _ _)
                have hNX : N ≤ X3.heap.size := by
                  have h1 := HS2.out.be.size
                  rw [HN.out] at h1
                  rw [← hX3, alloc_sz]; omega
                have HX3 := Lib.hid hX3
                have HR := Lib.hid hr
                clear hf2 hs2 hX3 hr
                go_wp2_with fail
                try simp only [Act.put, List.setIfInBounds_toArray, List.set_cons_zero, List.set_cons_succ]
                refine wpAny_ready (rs := [23]) (by kernel_rfl) (by simp) ?_
                refine AllReady.cons (o := ?oo57) ?hi57 (fun K hK => ?hs57) ?hm57
                case hi57 => (simp only [List.getElem?_toArray, List.getElem?_cons_succ, List.getElem?_cons_zero]; rfl)
                · go_simp
                  refine hK _ _ ?_; clear hK K
                  try simp only [Act.put, List.setIfInBounds_toArray, List.set_cons_zero, List.set_cons_succ]
                  refine wpAny_ready (rs := [24]) (by kernel_rfl) (by simp) ?_
                  refine AllReady.cons (o := ?oo58) ?hi58 (fun K hK => ?hs58) ?hm58
                  case hi58 => (simp only [List.getElem?_toArray, List.getElem?_cons_succ, List.getElem?_cons_zero]; rfl)
                  · rw [HX3.out]
                    refine step_append_any rfl (.tmp 24) (.tmp 47) 22 rfl N 3 i0 _ 8 Try.underlying22 hi hz0 hz1 hz2 rfl u5 j (fromV its.length j) rfl HO3.out _ X3.heap.size [.int .i64 (r : Int)] rfl HSV.out (by simp [Value.oneCell']) (by show j + 1 ≤ _; unfold maxLen; omega) (by show (j + 1) * 8 ≤ _; omega) hNX ?_
                    intro v' wa ho hg _
                    have hp := KAt.push HN.out HBN.out HFN.out HF2.out HO2.out HS2.out HX3.out (by rw [HM.out, HR.out]; rw [HM.out] at ho; exact ho) hg
                    have HP4 := Lib.hid hp
                    clear ho hg hp
                    refine hK _ _ ?_; clear hK K
                    try simp only [Act.put, List.setIfInBounds_toArray, List.set_cons_zero, List.set_cons_succ]
                    refine wpAny_take (i := 25) (oi := ?oi59) (v := ?v59) ?hi59 (by kernel_rfl) (by kernel_rfl) (by kernel_rfl) ?hq59 ?hy59 ?hr59
                    case hi59 => (simp only [List.getElem?_toArray, List.getElem?_cons_succ, List.getElem?_cons_zero]; rfl)
                    case hq59 => exact fun _ _ _ h => h
                    case hy59 => exact Or.inl ⟨by rfl, by intro w; (first | (go_simp; done) | (go_simp; with_reducible rfl))⟩
                    try simp only [Act.put, List.setIfInBounds_toArray, List.set_cons_zero, List.set_cons_succ]
                    refine wpAny_done (by kernel_rfl) ?_ _
                    have HKN : Hid (KAt w N B F vl its ns (j + 1) v' wa) := Lib.hid ⟨⟨vi2, by rw [HSTEP.out]; exact HP4.out.1⟩, HP4.out.2.1, HP4.out.2.2⟩
                    clear HP4 HO3 HSV HX3 HO2 HS2 HF2 HADD HFQ HOQ HSQ HSTEP c0q p0q p1q
                    go_wp2_with fail
                    exact ⟨⟨j + 1, by omega, by go_num, HKN⟩, by simp only [Go.RowKit.intOf]; omega⟩
                  exact AllReady.nil
                exact AllReady.nil
              exact AllReady.nil
            exact AllReady.nil
          refine AllReady.cons (o := ?oo60) ?hi60 (fun K hK => ?hs60) ?hm60
          case hi60 => (simp only [List.getElem?_toArray, List.getElem?_cons_succ, List.getElem?_cons_zero]; rfl)
          · go_simp
            refine hK _ _ ?_; clear hK K
            try simp only [Act.put, List.setIfInBounds_toArray, List.set_cons_zero, List.set_cons_succ]
            refine wpAny_ready (rs := [9]) (by kernel_rfl) (by simp) ?_
            refine AllReady.cons (o := ?oo61) ?hi61 (fun K hK => ?hs61) ?hm61
            case hi61 => (simp only [List.getElem?_toArray, List.getElem?_cons_succ, List.getElem?_cons_zero]; rfl)
            · go_simp
              refine hK _ _ ?_; clear hK K
              try simp only [Act.put, List.setIfInBounds_toArray, List.set_cons_zero, List.set_cons_succ]
              refine wpAny_take (i := 18) (oi := ?oi62) (v := ?v62) ?hi62 (by kernel_rfl) (by kernel_rfl) (by kernel_rfl) ?hq62 ?hy62 ?hr62
              case hi62 => (simp only [List.getElem?_toArray, List.getElem?_cons_succ, List.getElem?_cons_zero]; rfl)
              case hq62 => exact fun _ _ _ h => h
              case hy62 => exact Or.inl ⟨by rfl, by intro w; (first | (go_simp; done) | (go_simp; with_reducible rfl))⟩
              try simp only [Act.put, List.setIfInBounds_toArray, List.set_cons_zero, List.set_cons_succ]
              refine wpAny_take (i := 21) (oi := ?oi63) (v := ?v63) ?hi63 (by kernel_rfl) (by kernel_rfl) (by kernel_rfl) ?hq63 ?hy63 ?hr63
              case hi63 => (simp only [List.getElem?_toArray, List.getElem?_cons_succ, List.getElem?_cons_zero]; rfl)
              case hq63 => exact fun _ _ _ h => h
              case hy63 => exact Or.inl ⟨by rfl, by intro w; (first | (go_simp; done) | (go_simp; with_reducible rfl))⟩
              try simp only [Act.put, List.setIfInBounds_toArray, List.set_cons_zero, List.set_cons_succ]
              refine wpAny_ready (rs := [22]) (by kernel_rfl) (by simp) ?_
              refine AllReady.cons (o := ?oo64) ?hi64 (fun K hK => ?hs64) ?hm64
              case hi64 => (simp only [List.getElem?_toArray, List.getElem?_cons_succ, List.getElem?_cons_zero]; rfl)
              · go_simp
                refine HADD.out.mono ?_
                rintro e w2 ⟨vi2, rfl, hf2, hs2⟩
                rw [HL2.out]
                obtain ⟨r, hr⟩ : ∃ r, m + j = r := ⟨_, rfl⟩
                rw [hr]
                have HO2 := Lib.hid (hs2.own HOQ.out hpF (by decide))
                have HS2 := Lib.hid (HSQ.out.trans hs2)
                have HF2 := Lib.hid hf2
                obtain ⟨X3, hX3⟩ : ∃ X3, w2.alloc (.cells #[.int .i64 (r : Int)] 3) = X3 := ⟨_, rfl⟩
                have HO3 : Hid (X3.ownsRow N 3 1 u5 j (fromV its.length j)) := Lib.hid (by rw [← hX3]; exact HO2.out.alloc _)
                have HSV : Hid (SeesC X3 X3.heap.size (.slice (some ⟨w2.heap.size, 0, none⟩) 1 1) [.int .i64 (r : Int)]) := Lib.hid (by rw [← hX3]; exact sees_valH _ _ _)
                have hNX : N ≤ X3.heap.size := by
                  have h1 := HS2.out.be.size
                  rw [HN.out] at h1
                  rw [← hX3, alloc_sz]; omega
                have HX3 := Lib.hid hX3
                have HR := Lib.hid hr
                clear hf2 hs2 hX3 hr
                go_wp2_with fail
                try simp only [Act.put, List.setIfInBounds_toArray, List.set_cons_zero, List.set_cons_succ]
                refine wpAny_ready (rs := [23]) (by kernel_rfl) (by simp) ?_
                refine AllReady.cons (o := ?oo65) ?hi65 (fun K hK => ?hs65) ?hm65
                case hi65 => (simp only [List.getElem?_toArray, List.getElem?_cons_succ, List.getElem?_cons_zero]; rfl)
                · go_simp
                  refine hK _ _ ?_; clear hK K
                  try simp only [Act.put, List.setIfInBounds_toArray, List.set_cons_zero, List.set_cons_succ]
                  refine wpAny_ready (rs := [24]) (by kernel_rfl) (by simp) ?_
                  refine AllReady.cons (o := ?oo66) ?hi66 (fun K hK => ?hs66) ?hm66
                  case hi66 => (simp only [List.getElem?_toArray, List.getElem?_cons_succ, List.getElem?_cons_zero]; rfl)
                  · rw [HX3.out]
                    refine step_append_any rfl (.tmp 24) (.tmp 47) 22 rfl N 3 i0 _ 8 Try.underlying22 hi hz0 hz1 hz2 rfl u5 j (fromV its.length j) rfl HO3.out _ X3.heap.size [.int .i64 (r : Int)] rfl HSV.out (by simp [Value.oneCell']) (by show j + 1 ≤ _; unfold maxLen; omega) (by show (j + 1) * 8 ≤ _; omega) hNX ?_
                    intro v' wa ho hg _
                    have hp := KAt.push HN.out HBN.out HFN.out HF2.out HO2.out HS2.out HX3.out (by rw [HM.out, HR.out]; rw [HM.out] at ho; exact ho) hg
                    have HP4 := Lib.hid hp
                    clear ho hg hp
                    refine hK _ _ ?_; clear hK K
                    try simp only [Act.put, List.setIfInBounds_toArray, List.set_cons_zero, List.set_cons_succ]
                    refine wpAny_take (i := 25) (oi := ?oi67) (v := ?v67) ?hi67 (by kernel_rfl) (by kernel_rfl) (by kernel_rfl) ?hq67 ?hy67 ?hr67
                    case hi67 => (simp only [List.getElem?_toArray, List.getElem?_cons_succ, List.getElem?_cons_zero]; rfl)
                    case hq67 => exact fun _ _ _ h => h
                    case hy67 => exact Or.inl ⟨by rfl, by intro w; (first | (go_simp; done) | (go_simp; with_reducible rfl))⟩
                    try simp only [Act.put, List.setIfInBounds_toArray, List.set_cons_zero, List.set_cons_succ]
                    refine wpAny_done (by kernel_rfl) ?_ _
                    have HKN : Hid (KAt w N B F vl its ns (j + 1) v' wa) := Lib.hid ⟨⟨vi2, by rw [HSTEP.out]; exact HP4.out.1⟩, HP4.out.2.1, HP4.out.2.2⟩
                    clear HP4 HO3 HSV HX3 HO2 HS2 HF2 HADD HFQ HOQ HSQ HSTEP c0q p0q p1q
                    go_wp2_with fail
                    exact ⟨⟨j + 1, by omega, by go_num, HKN⟩, by simp only [Go.RowKit.intOf]; omega⟩
                  exact AllReady.nil
                exact AllReady.nil
              exact AllReady.nil
            exact AllReady.nil
          exact AllReady.nil
        refine AllReady.cons (o := ?oo68) ?hi68 (fun K hK => ?hs68) ?hm68
        case hi68 => (simp only [List.getElem?_toArray, List.getElem?_cons_succ, List.getElem?_cons_zero]; rfl)
        · go_simp
          refine hK _ _ ?_; clear hK K
          try simp only [Act.put, List.setIfInBounds_toArray, List.set_cons_zero, List.set_cons_succ]
          refine wpAny_ready (rs := [5]) (by kernel_rfl) (by simp) ?_
          refine AllReady.cons (o := ?oo69) ?hi69 (fun K hK => ?hs69) ?hm69
          case hi69 => (simp only [List.getElem?_toArray, List.getElem?_cons_succ, List.getElem?_cons_zero]; rfl)
          · go_simp
            refine hK _ _ ?_; clear hK K
            try simp only [Act.put, List.setIfInBounds_toArray, List.set_cons_zero, List.set_cons_succ]
            refine wpAny_take (i := 7) (oi := ?oi70) (v := ?v70) ?hi70 (by kernel_rfl) (by kernel_rfl) (by kernel_rfl) ?hq70 ?hy70 ?hr70
            case hi70 => (simp only [List.getElem?_toArray, List.getElem?_cons_succ, List.getElem?_cons_zero]; rfl)
            case hq70 => exact fun _ _ _ h => h
            case hy70 => exact Or.inl ⟨by rfl, by intro w; (first | (go_simp; done) | (go_simp; with_reducible rfl))⟩
            try simp only [Act.put, List.setIfInBounds_toArray, List.set_cons_zero, List.set_cons_succ]
            refine wpAny_take (i := 8) (oi := ?oi71) (v := ?v71) ?hi71 (by kernel_rfl) (by kernel_rfl) (by kernel_rfl) ?hq71 ?hy71 ?hr71
            case hi71 => (simp only [List.getElem?_toArray, List.getElem?_cons_succ, List.getElem?_cons_zero]; rfl)
            case hq71 => exact fun _ _ _ h => h
            case hy71 => exact Or.inl ⟨by rfl, by intro w; (first | (go_simp; done) | (go_simp; with_reducible rfl))⟩
            try simp only [Act.put, List.setIfInBounds_toArray, List.set_cons_zero, List.set_cons_succ]
            refine wpAny_ready (rs := [9]) (by kernel_rfl) (by simp) ?_
            refine AllReady.cons (o := ?oo72) ?hi72 (fun K hK => ?hs72) ?hm72
            case hi72 => (simp only [List.getElem?_toArray, List.getElem?_cons_succ, List.getElem?_cons_zero]; rfl)
            · go_simp
              refine hK _ _ ?_; clear hK K
              try simp only [Act.put, List.setIfInBounds_toArray, List.set_cons_zero, List.set_cons_succ]
              refine wpAny_take (i := 18) (oi := ?oi73) (v := ?v73) ?hi73 (by kernel_rfl) (by kernel_rfl) (by kernel_rfl) ?hq73 ?hy73 ?hr73
              case hi73 => (simp only [List.getElem?_toArray, List.getElem?_cons_succ, List.getElem?_cons_zero]; rfl)
              case hq73 => exact fun _ _ _ h => h
              case hy73 => exact Or.inl ⟨by rfl, by intro w; (first | (go_simp; done) | (go_simp; with_reducible rfl))⟩
              try simp only [Act.put, List.setIfInBounds_toArray, List.set_cons_zero, List.set_cons_succ]
              refine wpAny_take (i := 21) (oi := ?oi74) (v := ?v74) ?hi74 (by kernel_rfl) (by kernel_rfl) (by kernel_rfl) ?hq74 ?hy74 ?hr74
              case hi74 => (simp only [List.getElem?_toArray, List.getElem?_cons_succ, List.getElem?_cons_zero]; rfl)
              case hq74 => exact fun _ _ _ h => h
              case hy74 => exact Or.inl ⟨by rfl, by intro w; (first | (go_simp; done) | (go_simp; with_reducible rfl))⟩
              try simp only [Act.put, List.setIfInBounds_toArray, List.set_cons_zero, List.set_cons_succ]
              refine wpAny_ready (rs := [22]) (by kernel_rfl) (by simp) ?_
              refine AllReady.cons (o := ?oo75) ?hi75 (fun K hK => ?hs75) ?hm75
              case hi75 => (simp only [List.getElem?_toArray, List.getElem?_cons_succ, List.getElem?_cons_zero]; rfl)
              · go_simp
                refine HADD.out.mono ?_
                rintro e w2 ⟨vi2, rfl, hf2, hs2⟩
                rw [HL2.out]
                obtain ⟨r, hr⟩ : ∃ r, m + j = r := ⟨_, rfl⟩
                rw [hr]
                have HO2 := Lib.hid (hs2.own HOQ.out hpF (by decide))
                have HS2 := Lib.hid (HSQ.out.trans hs2)
                have HF2 := Lib.hid hf2
                obtain ⟨X3, hX3⟩ : ∃ X3, w2.alloc (.cells #[.int .i64 (r : Int)] 3) = X3 := ⟨_, rfl⟩
                have HO3 : Hid (X3.ownsRow N 3 1 u5 j (fromV its.length j)) := Lib.hid (by rw [← hX3]; exact HO2.out.alloc _)
                have HSV : Hid (SeesC X3 X3.heap.size (.slice (some ⟨w2.heap.size, 0, none⟩) 1 1) [.int .i64 (r : Int)]) := Lib.hid (by rw [← hX3]; exact sees_valH _ _ _)
                have hNX : N ≤ X3.heap.size := by
                  have h1 := HS2.out.be.size
                  rw [HN.out] at h1
                  rw [← hX3, alloc_sz]; omega
                have HX3 := Lib.hid hX3
                have HR := Lib.hid hr
                clear hf2 hs2 hX3 hr
                go_wp2_with fail
                try simp only [Act.put, List.setIfInBounds_toArray, List.set_cons_zero, List.set_cons_succ]
                refine wpAny_ready (rs := [23]) (by kernel_rfl) (by simp) ?_
                refine AllReady.cons (o := ?oo76) ?hi76 (fun K hK => ?hs76) ?hm76
                case hi76 => (simp only [List.getElem?_toArray, List.getElem?_cons_succ, List.getElem?_cons_zero]; rfl)
                · go_simp
                  refine hK _ _ ?_; clear hK K
                  try simp only [Act.put, List.setIfInBounds_toArray, List.set_cons_zero, List.set_cons_succ]
                  refine wpAny_ready (rs := [24]) (by kernel_rfl) (by simp) ?_
                  refine AllReady.cons (o := ?oo77) ?hi77 (fun K hK => ?hs77) ?hm77
                  case hi77 => (simp only [List.getElem?_toArray, List.getElem?_cons_succ, List.getElem?_cons_zero]; rfl)
                  · rw [HX3.out]
                    refine step_append_any rfl (.tmp 24) (.tmp 47) 22 rfl N 3 i0 _ 8 Try.underlying22 hi hz0 hz1 hz2 rfl u5 j (fromV its.length j) rfl HO3.out _ X3.heap.size [.int .i64 (r : Int)] rfl HSV.out (by simp [Value.oneCell']) (by show j + 1 ≤ _; unfold maxLen; omega) (by show (j + 1) * 8 ≤ _; omega) hNX ?_
                    intro v' wa ho hg _
                    have hp := KAt.push HN.out HBN.out HFN.out HF2.out HO2.out HS2.out HX3.out (by rw [HM.out, HR.out]; rw [HM.out] at ho; exact ho) hg
                    have HP4 := Lib.hid hp
                    clear ho hg hp
                    refine hK _ _ ?_; clear hK K
                    try simp only [Act.put, List.setIfInBounds_toArray, List.set_cons_zero, List.set_cons_succ]
                    refine wpAny_take (i := 25) (oi := ?oi78) (v := ?v78) ?hi78 (by kernel_rfl) (by kernel_rfl) (by kernel_rfl) ?hq78 ?hy78 ?hr78
                    case hi78 => (simp only [List.getElem?_toArray, List.getElem?_cons_succ, List.getElem?_cons_zero]; rfl)
                    case hq78 => exact fun _ _ _ h => h
                    case hy78 => exact Or.inl ⟨by rfl, by intro w; (first | (go_simp; done) | (go_simp; with_reducible rfl))⟩
                    try simp only [Act.put, List.setIfInBounds_toArray, List.set_cons_zero, List.set_cons_succ]
                    refine wpAny_done (by kernel_rfl) ?_ _
                    have HKN : Hid (KAt w N B F vl its ns (j + 1) v' wa) := Lib.hid ⟨⟨vi2, by rw [HSTEP.out]; exact HP4.out.1⟩, HP4.out.2.1, HP4.out.2.2⟩
                    clear HP4 HO3 HSV HX3 HO2 HS2 HF2 HADD HFQ HOQ HSQ HSTEP c0q p0q p1q
                    go_wp2_with fail
                    exact ⟨⟨j + 1, by omega, by go_num, HKN⟩, by simp only [Go.RowKit.intOf]; omega⟩
                  exact AllReady.nil
                exact AllReady.nil
              exact AllReady.nil
            exact AllReady.nil
          exact AllReady.nil
        exact AllReady.nil
      exact AllReady.nil
    · have hlti : ¬ ((2 * j + 1 : Nat) : Int) < (n : Int) := by omega
      obtain rfl : n / 2 = j := by omega
      go_wp2_with fail
      go_ret
      exact ⟨_, rfl, by rw [HCN.out]; exact HS.out⟩
end Go.Proofs.Yteennnhinfnahaa
