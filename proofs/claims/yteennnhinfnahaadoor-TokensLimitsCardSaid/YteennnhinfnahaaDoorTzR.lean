/-
  MATHEMATICS for package tokens, second part: streams, their encodings, and what is read back from their blocks.
  MEMORY for package tokens: streams; a stream to which blocks are appended.
-/
import Derived.Test.YteennnhinfnahaaDoorToM
import Derived.Test.YteennnhinfnahaaDoorTzN
import Derived.Test.YteennnhinfnahaaDoorTzQ
import Derived.RangeFuncBox
namespace Go.Proofs.YteennnhinfnahaaDoor
open Go.RowKit Go.Shelf Go.Lib
set_option linter.unusedVariables false
set_option linter.unusedSimpArgs false

/-- A stream: how many numbers, its kind, the lengths of its codes, its blocks. -/
structure Stm where
  size : Nat
  kind : Nat
  lens : List Nat
  blks : List (Nat × List UInt8)
def lnT (ns : List Nat) : List Nat := natLs (hufLs (cntT (topT ns) ns) 15)
def pkB (ns : List Nat) (i : Nat) : Nat × List UInt8 := ((packB (castB (blkT ns i))).length, packB (castB (blkT ns i)))
def cdB (ns : List Nat) (i : Nat) : Nat × List UInt8 := ((encB (lnT ns) (blkT ns i)).length, pack (encB (lnT ns) (blkT ns i)))
def pkS (ns : List Nat) : Stm := ⟨ns.length, 0, [], (List.range (nbT ns.length)).map (pkB ns)⟩
def cdS (ns : List Nat) : Stm := ⟨ns.length, 1, lnT ns, (List.range (nbT ns.length)).map (cdB ns)⟩
def payP (l : List (Nat × List UInt8)) : List UInt8 := l.flatMap fun p => enc p.1 ++ p.2
def payH (S : Stm) : List UInt8 := if S.kind = 1 then enc S.lens.length ++ S.lens.map UInt8.ofNat else []
def payS (S : Stm) : List UInt8 := enc S.size ++ enc S.kind ++ payH S ++ payP S.blks
def bstS (ns : List Nat) : Stm := if (payS (cdS ns)).length < (payS (pkS ns)).length then cdS ns else pkS ns
/-- What numbersOf answers. -/
noncomputable def nosB (S : Stm) (i : Nat) (p : Nat × List UInt8) : List Nat :=
  if S.kind = 0 then (unpB (prs1 p.2) p.2).getD [] else if S.kind = 1 then (decF (castN' S.lens) p.2 (p.1 : Nat) ((min 64 (S.size - 64 * i) : Nat) : Int)).1 else []
/-- What the walks ask of a stream. -/
def okS (S : Stm) : Prop := S.size ≤ 4096 ∧ S.kind ≤ 4096 ∧ S.lens.length ≤ 12500 ∧ (∀ n ∈ S.lens, n < 256) ∧ S.blks.length = nbT S.size ∧ ∀ p ∈ S.blks, p.1 ≤ 4096 ∧ p.2.length ≤ 12500

theorem ok31_blk {ns : List Nat} (h : okT ns) (i : Nat) : ok31 (blkT ns i) := ⟨by have := blkT_le ns i; omega, fun v hv => by have := h.part i v hv; omega⟩
theorem chkB_blk {ns : List Nat} (h : okT ns) (i : Nat) : chkB (castB (blkT ns i)) = 0 := chk_nat (ok31_blk h i)
theorem packB_blk (ns : List Nat) (i : Nat) : packB (castB (blkT ns i)) = blkB (blkT ns i) (wid (blkT ns i)) := by
  unfold packB
  rw [natB_cast]
theorem packB_le {ns : List Nat} (h : okT ns) (i : Nat) : (packB (castB (blkT ns i))).length ≤ 1410 := by
  rw [packB_blk]
  exact cst_le (ok31_blk h i) (wid_le _)
theorem chkH_cnt {ns : List Nat} (h : okT ns) : chkH (cntT (topT ns) ns) ((15 : Nat) : Int) = 0 := by
  have h1 := topT_le h.2
  unfold chkH
  rw [if_neg (by omega), cntT_len, if_neg (by omega), if_neg, if_neg]
  · have h1 := presN_le (cntT (topT ns) ns)
    rw [cntT_len] at h1
    rw [Int.toNat_natCast]
    have : (2 : Nat) ^ 15 = 32768 := by decide
    omega
  · intro h2
    obtain ⟨c, hc, hb⟩ := List.any_eq_true.1 h2
    unfold cntT at hc
    obtain ⟨j, _, rfl⟩ := List.mem_map.1 hc
    have := List.count_le_length (a := j) (l := ns)
    have := h.1
    unfold badC at hb
    rw [decide_eq_true_eq] at hb
    omega
theorem okLH_cnt {ns : List Nat} (h : okT ns) : okLH (hufLs (cntT (topT ns) ns) 15) := okLH_huf (chkH_cnt h)
theorem cast_lnT {ns : List Nat} (h : okT ns) : castN' (lnT ns) = hufLs (cntT (topT ns) ns) 15 := nat_cast fun c hc => ((okLH_cnt h).2.1 c hc).1
theorem lnT_len (ns : List Nat) : (lnT ns).length = topT ns := by unfold lnT natLs; rw [List.length_map, hufLs_len, cntT_len]
theorem lnT_lt {ns : List Nat} (h : okT ns) : ∀ n ∈ lnT ns, n ≤ 15 := fun n hn => by
  unfold lnT natLs at hn
  obtain ⟨c, hc, rfl⟩ := List.mem_map.1 hn
  have := (okLH_cnt h).2.1 c hc
  omega
theorem okSym_blk {ns : List Nat} (h : okT ns) (i : Nat) : ∀ s ∈ blkT ns i, okSym (natLs (hufLs (cntT (topT ns) ns) 15)) s := fun s hs =>
  huf_sym (chkH_cnt h) (cntT_at ns (topT_lt (blkT_mem hs))) (by have := List.count_pos_iff.2 (blkT_mem hs); omega)
theorem encE_blk {ns : List Nat} (h : okT ns) (i : Nat) : encE (hufLs (cntT (topT ns) ns) 15) (castN' (blkT ns i)) = 0 :=
  enc_zero (chkH_cnt h) (fun s hs => ⟨_, cntT_at ns (topT_lt (blkT_mem hs)), by have := List.count_pos_iff.2 (blkT_mem hs); omega⟩) (by have := blkT_le ns i; omega)
theorem encB_le {ns : List Nat} (h : okT ns) (i : Nat) : (encB (lnT ns) (blkT ns i)).length ≤ 960 := by
  have h1 := encB_len (okLH_cnt h).lens (blkT ns i)
  have := blkT_le ns i
  unfold lnT
  omega
theorem pkS_blks (ns : List Nat) {i : Nat} (h : i < nbT ns.length) : (pkS ns).blks[i]? = some (pkB ns i) := by
  unfold pkS
  simp only [List.getElem?_map, List.getElem?_range h, Option.map_some]
theorem cdS_blks (ns : List Nat) {i : Nat} (h : i < nbT ns.length) : (cdS ns).blks[i]? = some (cdB ns i) := by
  unfold cdS
  simp only [List.getElem?_map, List.getElem?_range h, Option.map_some]
theorem nos_pk {ns : List Nat} (h : okT ns) (i : Nat) : nosB (pkS ns) i (pkB ns i) = blkT ns i := by
  unfold nosB pkS pkB
  simp only
  rw [if_pos trivial, packB_blk, unpB_pack (ok31_blk h i), Option.getD_some]
theorem nos_cd {ns : List Nat} (h : okT ns) (i : Nat) : nosB (cdS ns) i (cdB ns i) = blkT ns i := by
  unfold nosB cdS cdB
  simp only
  rw [if_neg (by decide), if_pos trivial, cast_lnT h, ← blkT_len]
  unfold lnT
  rw [dec_round (okLH_cnt h) (okSym_blk h i) (by have := blkT_le ns i; omega) rfl]
theorem bst_cases (ns : List Nat) : bstS ns = cdS ns ∨ bstS ns = pkS ns := by
  unfold bstS
  split
  · exact .inl rfl
  · exact .inr rfl
theorem bst_size (ns : List Nat) : (bstS ns).size = ns.length := by rcases bst_cases ns with h | h <;> rw [h] <;> rfl
theorem bst_blks (ns : List Nat) : (bstS ns).blks.length = nbT ns.length := by rcases bst_cases ns with h | h <;> rw [h] <;> simp [cdS, pkS]
theorem nos_bst {ns : List Nat} (h : okT ns) {i : Nat} (hi : i < nbT ns.length) : ∃ p, (bstS ns).blks[i]? = some p ∧ nosB (bstS ns) i p = blkT ns i := by
  rcases bst_cases ns with e | e <;> rw [e]
  · exact ⟨_, cdS_blks ns hi, nos_cd h i⟩
  · exact ⟨_, pkS_blks ns hi, nos_pk h i⟩
theorem enc_two {n : Nat} (h : n < 16384) : (enc n).length ≤ 2 := enc_len 1 n (by omega)
theorem payP_le {M : Nat} : ∀ l : List (Nat × List UInt8), (∀ p ∈ l, p.1 < 16384 ∧ p.2.length ≤ M) → (payP l).length ≤ (M + 2) * l.length
  | [], _ => by simp [payP]
  | p :: l, h => by
    have h1 := h p (List.mem_cons_self ..)
    have h2 := payP_le l fun q hq => h q (List.mem_cons_of_mem _ hq)
    have h3 := enc_two h1.1
    unfold payP at h2 ⊢
    rw [List.flatMap_cons, List.length_append, List.length_append, List.length_cons, Nat.mul_add]
    omega
theorem nbT_le {n : Nat} (h : n ≤ 4096) : nbT n ≤ 64 := by unfold nbT; omega
theorem pkS_ok {ns : List Nat} (h : okT ns) : okS (pkS ns) ∧ (payS (pkS ns)).length ≤ 90400 := by
  have hn := nbT_le h.1
  have hb : ∀ p ∈ (pkS ns).blks, p.1 ≤ 1410 ∧ p.2.length ≤ 1410 := fun p hp => by
    unfold pkS at hp
    obtain ⟨i, _, rfl⟩ := List.mem_map.1 hp
    have := packB_le h i
    exact ⟨this, this⟩
  refine ⟨⟨h.1, by simp [pkS], by simp [pkS], fun n hn => by simp [pkS] at hn, by simp [pkS], fun p hp => ?_⟩, ?_⟩
  · have := hb p hp; omega
  · have h1 := payP_le (M := 1410) (pkS ns).blks fun p hp => by have := hb p hp; omega
    have h2 : (pkS ns).blks.length = nbT ns.length := by simp [pkS]
    have h3 := enc_two (n := (pkS ns).size) (by have := h.1; simp only [pkS]; omega)
    have h4 := enc_two (n := (pkS ns).kind) (by simp [pkS])
    have h5 : payH (pkS ns) = [] := by simp [payH, pkS]
    unfold payS
    rw [h5]
    simp only [List.length_append, List.length_nil]
    rw [h2] at h1
    omega
theorem cdS_ok {ns : List Nat} (h : okT ns) : okS (cdS ns) ∧ (payS (cdS ns)).length ≤ 90400 := by
  have hn := nbT_le h.1
  have ht := topT_le h.2
  have hb : ∀ p ∈ (cdS ns).blks, p.1 ≤ 960 ∧ p.2.length ≤ 120 := fun p hp => by
    unfold cdS at hp
    obtain ⟨i, _, rfl⟩ := List.mem_map.1 hp
    have := encB_le h i
    refine ⟨this, ?_⟩
    unfold cdB
    simp only
    rw [pack_len]
    omega
  have hl : (cdS ns).lens.length ≤ 1024 := by show (lnT ns).length ≤ _; rw [lnT_len]; exact ht
  refine ⟨⟨h.1, by simp [cdS], by omega, fun n hn => ?_, by simp [cdS], fun p hp => ?_⟩, ?_⟩
  · have := lnT_lt h n hn; omega
  · have := hb p hp; omega
  · have h1 := payP_le (M := 120) (cdS ns).blks fun p hp => by have := hb p hp; omega
    have h2 : (cdS ns).blks.length = nbT ns.length := by simp [cdS]
    have h3 := enc_two (n := (cdS ns).size) (by have := h.1; simp only [cdS]; omega)
    have h4 := enc_two (n := (cdS ns).kind) (by simp [cdS])
    have h5 : (payH (cdS ns)).length ≤ 2 + 1024 := by
      unfold payH
      rw [if_pos (show (cdS ns).kind = 1 from rfl), List.length_append, List.length_map]
      have := enc_two (n := (cdS ns).lens.length) (by omega)
      omega
    unfold payS
    simp only [List.length_append]
    rw [h2] at h1
    omega
theorem bst_ok {ns : List Nat} (h : okT ns) : okS (bstS ns) ∧ (payS (bstS ns)).length ≤ 90400 := by
  rcases bst_cases ns with e | e <;> rw [e]
  · exact cdS_ok h
  · exact pkS_ok h
end Go.Proofs.YteennnhinfnahaaDoor
namespace Go.Proofs.YteennnhinfnahaaDoor
open Go.RowKit Go.Shelf Go.Lib
set_option linter.unusedVariables false
set_option linter.unusedSimpArgs false

theorem Tryd.infoPc : (Tryd.prog.info? 55).map (fun i => (i.zero, i.size, i.bytes)) = some (some (.agg #[.int .i64 0, .slice none 0 0]), 2, 32) := by kernel_rfl
def pcV (u : Nat × Value) : List Value := [.int .i64 (u.1 : Nat), u.2]
theorem pcV_len (u : Nat × Value) : (pcV u).length = 2 := rfl
/-- A block of a stream, as it is read. -/
def EPc (w : World) (cs : List Value) (p : Nat × List UInt8) : Prop := ∃ v, cs = [.int .i64 (p.1 : Nat), v] ∧ Sees w w.heap.size v p.2
theorem stays_pc : Stays EPc := fun w w' cs x hb ⟨v, h1, h2⟩ => ⟨v, h1, (h2.below hb).mono hb.size⟩
/-- A stream in memory. -/
def SAt (W : World) (g : Nat) (S : Stm) : Prop :=
  ∃ vl vb, W.heap[g]? = some (.cells #[.int .i64 (S.size : Nat), .int .i64 (S.kind : Nat), vl, vb] 43 (0, 0)) ∧ Rows 1 EInt W vl (castN' S.lens) ∧ Rows 2 EPc W vb S.blks
theorem SAt.lt {W : World} {g : Nat} {S : Stm} (h : SAt W g S) : g < W.heap.size := by
  obtain ⟨vl, vb, h1, _⟩ := h
  exact (Array.getElem?_eq_some_iff.1 h1).1
theorem SAt.below {W W' : World} {g : Nat} {S : Stm} (h : SAt W g S) (hb : Below W.heap.size W W') : SAt W' g S := by
  obtain ⟨vl, vb, h1, h2, h3⟩ := h
  exact ⟨vl, vb, block_below h1 hb (Array.getElem?_eq_some_iff.1 h1).1, h2.below stays_int hb, h3.below stays_pc hb⟩
/-- One block. -/
theorem at_pc {w : World} {A : Option Addr} {n cap : Nat} {xs : List (Nat × List UInt8)} (h : Rows 2 EPc w (.slice A n cap) xs) (h0 : 0 < xs.length) :
    ∃ b off, A = some ⟨b, off, none⟩ ∧ b < w.heap.size ∧ ∀ (j : Nat) (p : Nat × List UInt8), xs[j]? = some p → ∃ v, w.cell? ⟨b, off + j * 2, none⟩ = some (.int .i64 (p.1 : Nat)) ∧ w.cell? ⟨b, off + j * 2 + 1, none⟩ = some v ∧ Sees w w.heap.size v p.2 := by
  obtain ⟨b, off, hA, hb, hj⟩ := h.at' h0
  refine ⟨b, off, hA, hb, fun j p hp => ?_⟩
  obtain ⟨cs, _, ⟨v, rfl, hs⟩, h3⟩ := hj j p hp
  exact ⟨v, h3 0 _ rfl, h3 1 _ rfl, hs⟩
theorem kept_row {X Y : World} {row : Option Nat} {base : Nat} {e : TypeId} {size k : Nat} {v : Value} {xs : List Value} (h : X.ownsRow base e size v k xs) (hg : X.grownBy Y row) (hrow : ∀ r, row = some r → ∃ o : Obj, X.heap[r]? = some o ∧ o.isCells = false) : Y.ownsRow base e size v k xs := by
  refine h.kept hg ?_
  rcases h.2 with ⟨rfl, _⟩ | ⟨g, cap, cur, rfl, _, hgb, _⟩
  · exact .inl rfl
  · refine .inr fun e' => ?_
    obtain ⟨o, ho, hc⟩ := hrow g (by simpa [Value.ownBlock] using e'.symm)
    rw [hgb] at ho; cases ho; cases hc
/-- The block of an own row has its element's type. -/
theorem own_type {w : World} {base : Nat} {e : TypeId} {size k j : Nat} {v : Value} {xs : List Value} (h : w.ownsRow base e size v k xs) (hj : v.ownBlock = some j) : ∃ cur, w.heap[j]? = some (.cells cur e (0, 0)) := by
  rcases h.2 with ⟨rfl, _⟩ | ⟨g, cap, cur, rfl, _, hgb, _⟩
  · simp [Value.ownBlock] at hj
  · obtain rfl : g = j := by simpa [Value.ownBlock] using hj
    exact ⟨cur, hgb⟩
/-- A row lies elsewhere than what grew, if their types differ. -/
theorem own_grown {X Y : World} {base b2 : Nat} {e e2 : TypeId} {size s2 k k2 : Nat} {v v2 : Value} {xs ys : List Value} (h : X.ownsRow base e size v k xs) (h2 : X.ownsRow b2 e2 s2 v2 k2 ys) (hne : e ≠ e2) (hg : X.grownBy Y v2.ownBlock) : Y.ownsRow base e size v k xs :=
  own_below h fun j hj => by
    obtain ⟨c1, h1⟩ := own_type h hj
    refine hg.block j (Array.getElem?_eq_some_iff.1 h1).1 fun e' => ?_
    obtain ⟨c2, h3⟩ := own_type h2 e'.symm
    rw [h1] at h3
    injection h3 with h3
    injection h3 with _ h3 _
    exact hne h3
/-- A stream to which blocks are appended: its box g, and a row of its own. -/
def SbAt (base g : Nat) (sz kd : Nat) (vl : Value) (ps : List (Nat × List UInt8)) (W : World) : Prop :=
  ∃ (vb : Value) (us : List (Nat × Value)), W.heap[g]? = some (.cells #[.int .i64 (sz : Nat), .int .i64 (kd : Nat), vl, vb] 43 (0, 0)) ∧ W.ownsRow base 55 2 vb us.length (us.flatMap pcV) ∧ us.length = ps.length ∧
    ∀ (j : Nat) (u : Nat × Value), us[j]? = some u → ∃ p, ps[j]? = some p ∧ u.1 = p.1 ∧ ∃ b, W.ownsRow b 5 1 u.2 p.2.length (Lib.byteCells p.2)
theorem SbAt.keep {base g sz kd : Nat} {vl : Value} {ps : List (Nat × List UInt8)} {W W' : World} (h : SbAt base g sz kd vl ps W) (hg : W'.heap[g]? = W.heap[g]?) (hr : ∀ (b : Nat) (e : TypeId) (s k : Nat) (v : Value) (xs : List Value), W.ownsRow b e s v k xs → W'.ownsRow b e s v k xs) : SbAt base g sz kd vl ps W' := by
  obtain ⟨vb, us, h1, h2, h3, h4⟩ := h
  refine ⟨vb, us, hg.trans h1, hr _ _ _ _ _ _ h2, h3, fun j u hu => ?_⟩
  obtain ⟨p, k1, k2, b, k3⟩ := h4 j u hu
  exact ⟨p, k1, k2, b, hr _ _ _ _ _ _ k3⟩
theorem SbAt.below {base g sz kd : Nat} {vl : Value} {ps : List (Nat × List UInt8)} {W W' : World} (h : SbAt base g sz kd vl ps W) (hb : Below W.heap.size W W') : SbAt base g sz kd vl ps W' :=
  h.keep (by obtain ⟨vb, us, h1, _⟩ := h; exact hb.block g (Array.getElem?_eq_some_iff.1 h1).1) fun _ _ _ _ _ _ hr => own_below hr fun k e => hb.block k (own_low hr k e).2
theorem sbAt_own {β : Type} (base g sz kd : Nat) (vl : Value) (f : β → List (Nat × List UInt8)) : Own (fun (s : β) W => SbAt base g sz kd vl (f s) W) := by
  intro s X Y row h hg hrow
  refine h.keep ?_ fun _ _ _ _ _ _ hr => kept_row hr hg hrow
  obtain ⟨vb, us, h1, _⟩ := h
  refine hg.block g (Array.getElem?_eq_some_iff.1 h1).1 fun e => ?_
  obtain ⟨o, ho, hc⟩ := hrow g e.symm
  rw [h1] at ho; cases ho; cases hc
theorem sbAt_new (base : Nat) (W : World) (sz kd : Nat) (vl : Value) : SbAt base W.heap.size sz kd vl [] (W.alloc (.cells #[.int .i64 (sz : Nat), .int .i64 (kd : Nat), vl, .slice none 0 0] 43)) :=
  ⟨.slice none 0 0, [], block_new W _, World.ownsRow_nil _ _ _ _, rfl, fun j u hu => by simp at hu⟩
/-- All blocks have been appended. -/
theorem SbAt.done {base g : Nat} {vl : Value} {S : Stm} {W : World} (h : SbAt base g S.size S.kind vl S.blks W) (hl : Rows 1 EInt W vl (castN' S.lens)) : SAt W g S := by
  obtain ⟨vb, us, h1, h2, h3, h4⟩ := h
  refine ⟨vl, vb, h1, hl, ?_⟩
  obtain ⟨A, cap, hv, hc, hr⟩ := rows_of_own (enc := pcV) pcV_len h2
  rw [h3] at hv hc hr
  refine ⟨A, cap, hv, hc, fun h0 => ?_⟩
  obtain ⟨b, off, hA, hb, hj⟩ := hr h0
  refine ⟨b, off, hA, hb, fun j p hp => ?_⟩
  have hjl : j < us.length := by rw [h3]; exact (List.getElem?_eq_some_iff.1 hp).1
  have hu : us[j]? = some us[j] := List.getElem?_eq_getElem hjl
  obtain ⟨cs, k1, rfl, k3⟩ := hj j _ hu
  obtain ⟨p', q1, q2, b', q3⟩ := h4 j _ hu
  rw [hp] at q1
  cases q1
  exact ⟨_, k1, ⟨us[j].2, by rw [← q2]; rfl, sees_own q3⟩, k3⟩
theorem pcV_one {u : Nat × Value} (h : u.2.oneCell' = true) : ∀ y ∈ pcV u, y.oneCell' = true := fun y hy => by
  simp only [pcV, List.mem_cons, List.not_mem_nil, or_false] at hy
  rcases hy with rfl | rfl
  · rfl
  · exact h
/-- append of one block, at a step of a region that draws its order. -/
theorem step_pushPc {w : World} {ops : Array Oper} {o : Oper} {a : Act} {K : Act → World → Prop} {Q : Exit → Act → World → Prop} {E : Prop} (hgd : o.guard = none) (s x : Operand)
    (ho : o.op = .call { callee := .builtin .append, args := #[s, x], argTypes := #[41, 41] })
    (base : Nat) (v : Value) (us : List (Nat × Value)) (z : Nat) (vc : Value) (hs : a.eval s = v) (hx : a.eval x = .slice (some ⟨w.heap.size, 0, none⟩) 1 1)
    (hown : w.ownsRow base 55 2 v us.length (us.flatMap pcV)) (hn : us.length ≤ 1000000) (hbase : base ≤ w.heap.size) (h1 : vc.oneCell' = true)
    (h : ∀ v' w', Hid (w'.ownsRow base 55 2 v' (us ++ [(z, vc)]).length ((us ++ [(z, vc)]).flatMap pcV)) → Hid ((w.alloc (.cells #[.int .i64 (z : Nat), vc] 55)).grownBy w' v.ownBlock) → K (a.put o.dst v') w') :
    if Region.wanted o (yielded ops a.tmps) = true then Oper.wp Tryd.prog o a (w.alloc (.cells #[.int .i64 (z : Nat), vc] 55)) K Q else E := by
  obtain ⟨i0, hi, hz0, hz1, hz2⟩ := info_parts' Tryd.infoPc
  have hw : Region.wanted o (yielded ops a.tmps) = true := by simp [Region.wanted, hgd]
  rw [if_pos hw]
  refine wp_append_own _ s x 41 ho base 55 i0 _ 2 32 Tryd.underlying41 hi hz0 hz1 hz2 rfl (by decide) v us.length _ hs (hown.alloc _) ⟨w.heap.size, 0, none⟩ 1 1 (pcV (z, vc)) hx rfl (news_at w (pcV (z, vc)) 55) (pcV_one h1) (by unfold maxLen; omega) (by omega) (by simp; omega) fun v' w' h2 h3 _ => h v' w' (Lib.hid ?_) (Lib.hid h3)
  rw [List.length_append, List.length_singleton, List.flatMap_append, List.flatMap_cons, List.flatMap_nil, List.append_nil]
  exact h2
/-- append of one block, and the store into the stream. -/
theorem wpList_pushPc {w : World} {ops : Array Oper} {rest : List Oper} {o : Oper} {a : Act} {Q : Exit → Act → World → Prop} (hgd : o.guard = none) (s x : Operand)
    (ho : o.op = .call { callee := .builtin .append, args := #[s, x], argTypes := #[41, 41] })
    (base : Nat) (v : Value) (us : List (Nat × Value)) (u : Nat × Value) (hs : a.eval s = v) (hx : a.eval x = .slice (some ⟨w.heap.size, 0, none⟩) 1 1)
    (hown : w.ownsRow base 55 2 v us.length (us.flatMap pcV)) (hn : us.length ≤ 1000000) (hbase : base ≤ w.heap.size) (h1 : u.2.oneCell' = true)
    (h : ∀ v' w', Hid (w'.ownsRow base 55 2 v' (us ++ [u]).length ((us ++ [u]).flatMap pcV)) → Hid ((w.alloc (.cells #[.int .i64 (u.1 : Nat), u.2] 55)).grownBy w' v.ownBlock) → wpList Tryd.prog ops Q rest (a.put o.dst v') w') :
    wpList Tryd.prog ops Q (o :: rest) a (w.alloc (.cells #[.int .i64 (u.1 : Nat), u.2] 55)) := by
  obtain ⟨i0, hi, hz0, hz1, hz2⟩ := info_parts' Tryd.infoPc
  refine wpList_append_own _ hgd s x 41 ho base 55 i0 _ 2 32 Tryd.underlying41 hi hz0 hz1 hz2 rfl (by decide) v us.length _ hs (hown.alloc _) _ 1 1 (pcV u) hx rfl (news_at w (pcV u) 55) (pcV_one h1) (by unfold maxLen; omega) (by omega) (by simp; omega) ?_
  intro v' w' h1 h2 _
  refine h v' w' (Lib.hid ?_) (Lib.hid h2)
  rw [List.length_append, List.length_singleton, List.flatMap_append, List.flatMap_cons, List.flatMap_nil, List.append_nil]
  exact h1
/-- .. and what holds behind both. -/
theorem SbAt.push {base g sz kd : Nat} {vl vb v' : Value} {ps : List (Nat × List UInt8)} {us : List (Nat × Value)} {W w1 : World} {p : Nat × List UInt8} {u : Nat × Value} {b : Nat}
    (h1 : W.heap[g]? = some (.cells #[.int .i64 (sz : Nat), .int .i64 (kd : Nat), vl, vb] 43 (0, 0))) (h2 : W.ownsRow base 55 2 vb us.length (us.flatMap pcV)) (h3 : us.length = ps.length)
    (h4 : ∀ (j : Nat) (u : Nat × Value), us[j]? = some u → ∃ p, ps[j]? = some p ∧ u.1 = p.1 ∧ ∃ b, W.ownsRow b 5 1 u.2 p.2.length (Lib.byteCells p.2))
    (hu : u.1 = p.1) (ho : W.ownsRow b 5 1 u.2 p.2.length (Lib.byteCells p.2)) (hown : w1.ownsRow base 55 2 v' (us ++ [u]).length ((us ++ [u]).flatMap pcV)) (hg : (W.alloc (.cells #[.int .i64 (u.1 : Nat), u.2] 55)).grownBy w1 vb.ownBlock) :
    w1.heap[g]? = some (.cells #[.int .i64 (sz : Nat), .int .i64 (kd : Nat), vl, vb] 43 (0, 0)) ∧ SbAt base g sz kd vl (ps ++ [p]) (w1.setCell ⟨g, 3, none⟩ v') := by
  have ha : ∀ {b : Nat} {e : TypeId} {s k : Nat} {v : Value} {xs : List Value}, W.ownsRow b e s v k xs → (W.alloc (.cells #[.int .i64 (u.1 : Nat), u.2] 55)).ownsRow b e s v k xs := fun h => h.alloc _
  have hgw : w1.heap[g]? = some (.cells #[.int .i64 (sz : Nat), .int .i64 (kd : Nat), vl, vb] 43 (0, 0)) := by
    have h5 : (W.alloc (.cells #[.int .i64 (u.1 : Nat), u.2] 55)).heap[g]? = _ := block_alloc _ h1
    refine (hg.block g (Array.getElem?_eq_some_iff.1 h5).1 fun e => ?_).trans h5
    obtain ⟨c2, h6⟩ := own_type (ha h2) e.symm
    rw [h5] at h6
    injection h6 with h6
    injection h6 with _ h6 _
    exact absurd h6 (by decide)
  have hset : ∀ {b : Nat} {e : TypeId} {s k : Nat} {v : Value} {xs : List Value}, w1.ownsRow b e s v k xs → e ≠ 43 → (w1.setCell ⟨g, 3, none⟩ v').ownsRow b e s v k xs := fun h hne => own_below h fun j hj => by
    obtain ⟨c2, h6⟩ := own_type h hj
    refine Below.heap_setCell _ _ _ _ fun e => ?_
    rw [e, hgw] at h6
    injection h6 with h6
    injection h6 with _ h6 _
    exact hne h6.symm
  refine ⟨hgw, v', us ++ [u], ?_, hset hown (by decide), by rw [List.length_append, List.length_append, h3]; rfl, fun j u' hu' => ?_⟩
  · rw [set_of hgw]
    rfl
  · have hkeep : ∀ {b : Nat} {v : Value} {L : List UInt8}, W.ownsRow b 5 1 v L.length (Lib.byteCells L) → (w1.setCell ⟨g, 3, none⟩ v').ownsRow b 5 1 v L.length (Lib.byteCells L) := fun h => hset (own_grown (ha h) (ha h2) (by decide) hg) (by decide)
    rcases Nat.lt_or_ge j us.length with hj | hj
    · rw [List.getElem?_append_left hj] at hu'
      obtain ⟨p', k1, k2, b', k3⟩ := h4 j u' hu'
      exact ⟨p', by rw [List.getElem?_append_left (by rw [← h3]; exact hj)]; exact k1, k2, b', hkeep k3⟩
    · rw [List.getElem?_append_right hj] at hu'
      obtain ⟨i, hi⟩ : ∃ i, j - us.length = i := ⟨_, rfl⟩
      rw [hi] at hu'
      match i, hu' with
      | 0, hu' =>
        cases hu'
        exact ⟨p, by rw [List.getElem?_append_right (by omega), show j - ps.length = 0 by omega]; rfl, hu, b, hkeep ho⟩
end Go.Proofs.YteennnhinfnahaaDoor
