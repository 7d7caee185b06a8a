/-
  THE WALK of codepoint.Fold: a builder into which each unit's piece is written in a loop over the units.
-/
import Derived.Test.YtilgbjakhpgkcaaFoM
import Derived.Test.YtilgbjakhpgkcaaBld
namespace Go.Proofs.Ytilgbjakhpgkcaa
open Go.RowKit Go.Shelf Go.Lib

attribute [local go_sem] Oper.semAt_some

/-- The call's builder. -/
abbrev Bd (b : Nat) (bs : List UInt8) (W : World) : Prop := Lib.IsBuilderF 50 5 b b (Lib.byteCells bs) W

theorem bd_grown {X Y : World} {b : Nat} {bs : List UInt8} {row : Option Nat} (h : Bd b bs X) (hg : X.grownBy Y row) (hr : ∀ r, row = some r → ∃ o : Obj, X.heap[r]? = some o ∧ o.isCells = false) : Bd b bs Y := by
  have key : ∀ p, Lib.BuilderAtF 50 5 b b p (Lib.byteCells bs) X → Lib.BuilderAtF 50 5 b b p (Lib.byteCells bs) Y := by
    rintro p ⟨hB, v, hb, hown, hne⟩
    refine ⟨hB, v, cells_own b _ _ _ () X Y row hb hg hr, hown.kept hg ?_, hne⟩
    by_cases h0 : v.ownBlock = none
    · exact .inl h0
    · refine .inr (fun e => ?_)
      rcases hown.2 with ⟨hv, _⟩ | ⟨g, cap, cur, fz, hv, _, hgc, _⟩
      · rw [hv] at h0; exact h0 rfl
      · rw [hv] at e
        obtain ⟨_, ho, hc⟩ := hr g (by rw [← e]; rfl)
        rw [hgc] at ho
        cases ho
        cases hc
  exact h.elim (fun x => .inl (key _ x)) (fun x => .inr (key _ x))
theorem bd_lt {b : Nat} {bs : List UInt8} {W : World} (h : Bd b bs W) : b < W.heap.size := h.elim (fun x => x.lt) (fun x => x.lt)
theorem bd_below {X Y : World} {b : Nat} {bs : List UInt8} (h : Bd b bs X) (hb : Below X.heap.size X Y) : Bd b bs Y :=
  bd_grown (row := none) h ⟨hb.os, hb.tape, hb.output, hb.size, fun k hk _ => hb.block k hk⟩ (fun r e => by cases e)
/-- Of the builder's frame: what a loop over a function asks of a round. -/
theorem others_below {e : TypeId} {b : Option Nat} {X Y : World} (hb : Below X.heap.size X Y) : Lib.OthersKept e b X Y :=
  fun k _ hk _ _ => (hb.block k (Array.getElem?_eq_some_iff.1 hk).1).trans hk
theorem others_object {b : Nat} {bs : List UInt8} {X Y : World} (h : Bd b bs X) (hk : Lib.OthersKept 5 (some b) X Y) {k : Nat} {o : Obj} (ho : X.heap[k]? = some o) (hc : o.isCells = false) : Y.heap[k]? = some o := by
  have hbk : ∃ cs, X.heap[b]? = some (.cells cs 50 (0, 0)) := h.elim (fun ⟨_, v, hb, _⟩ => ⟨_, hb⟩) (fun ⟨_, v, hb, _⟩ => ⟨_, hb⟩)
  obtain ⟨cs, hbk⟩ := hbk
  refine hk k o ho (fun e => ?_) (fun c fz e => by rw [e] at hc; cases hc)
  cases e
  rw [hbk] at ho
  cases ho
  cases hc

theorem bd_size {b : Nat} {bs : List UInt8} {X Y : World} (h : Bd b bs X) {Bn n : Nat} {s : ByteArray} (hn : n ≤ b) (hbn : Bn ≠ b) (hs : X.heap[Bn]? = some (.cells #[.string s] 9 (0, 0))) (hb : Below b X Y) (hk : Lib.OthersKept 5 (some b) X Y) (B : Nat) :
    KeepsFrom B X Y ∧ KeepsIt n Bn X Y ∧ Y.heap[Bn]? = some (.cells #[.string s] 9 (0, 0)) := by
  have hy : Y.heap[Bn]? = some (.cells #[.string s] 9 (0, 0)) := hk Bn _ hs (fun e => hbn (Option.some.inj e)) (fun c fz e => by cases e)
  refine ⟨⟨hb.size, fun k o _ ho hc => others_object h hk ho hc⟩, ⟨hb.mono hn, ⟨hb.size, fun k o ho hw => others_object h hk ho ?_⟩, hy.trans hs.symm⟩, hy⟩
  cases o <;> first | rfl | cases hw

theorem write_round {b Bn : Nat} {L : List UInt8} {W : World} {s : ByteArray} (bd : Bd b L W) (hbn : Bn ≠ b) (bS : W.heap[Bn]? = some (.cells #[.string s] 9 (0, 0))) (hL : L.length ≤ 5000) (B : Nat) (T : ByteArray) (hT : T.size ≤ 4) (w1 : World) (hb1 : Below W.heap.size W w1) :
    Calls Try.prog 31 #[.pointer (some ⟨b, 0, none⟩), .string T] w1 fun e w2 => e = .returned (.tuple #[.int .i64 T.size, .nilIface]) ∧ (KeepsFrom B W w2 ∧ KeepsIt b Bn W w2 ∧ Bd b (L ++ T.data.toList) w2 ∧ w2.heap[Bn]? = some (.cells #[.string s] 9 (0, 0)) ∧ Below b W w2) := by
  have hlt := bd_lt bd
  have hz := hb1.size
  refine (writeString_any b b (Lib.byteCells L) T w1 (bd_below bd hb1) (by rw [Lib.byteCells_length]; omega) (by omega)).mono ?_
  rintro e w2 ⟨rfl, h2, hb2, hk2⟩
  have hbW : Below b W w2 := (hb1.mono (by omega)).trans hb2
  obtain ⟨h3, h4, h5⟩ := bd_size bd (Nat.le_refl b) hbn bS hbW ((others_below hb1).trans hk2) B
  refine ⟨rfl, h3, h4, .inr ?_, h5, hbW⟩
  have e : Lib.byteCells (L ++ T.data.toList) = Lib.byteCells L ++ Lib.strCells T := by simp [Lib.byteCells, Lib.strCells]
  rw [e]
  exact h2

/-- Between two rounds. -/
def FoldI (s : ByteArray) (w : World) (pre : List (Un s)) (W : World) : Prop :=
  (Bd w.heap.size ((pre.map (·.1)).flatMap (pieceF s)) W ∧ W.heap[w.heap.size + 1]? = some (.cells #[.string s] 9 (0, 0)) ∧ w.heap.size + 2 ≤ W.heap.size) ∧ Below w.heap.size w W
theorem foldI_own (s : ByteArray) (w : World) (B : Nat) (hB : w.heap.size ≤ B) : OwnFrom B (FoldI s w) :=
  OwnFrom.and (OwnFrom.and (fun _ _ _ _ hs hg hr => bd_grown hs hg (fun r e => (hr r e).2)) (OwnFrom.and (Own.from (cells_ownF _ _ _ _) _) (size_own _ _))) (ownFrom_below (Nat.le_refl _) hB)

theorem pieces_len (s : ByteArray) : ∀ us : List U, (∀ u ∈ us, u ∈ units s) → (us.flatMap (pieceF s)).length ≤ 4 * us.length
  | [], _ => Nat.le_refl _
  | u :: us, h => by
    have ih := pieces_len s us (fun v hv => h v (by simp [hv]))
    have h4 : (pieceF s u).length ≤ 4 := by
      unfold pieceF
      split
      · unfold txt
        rw [List.length_take]
        have := (units_fit _ _ _ (h u (by simp))).2.2.2.1
        omega
      · exact (enc_len _).2
    rw [List.flatMap_cons, List.length_append, List.length_cons]
    omega

set_option maxRecDepth 100000 in
set_option maxHeartbeats 1000000 in
theorem fold_any (s : ByteArray) (hs : s.size ≤ 1000) (w : World) :
    Calls Try.prog 23 #[.string s] w fun e w' => e = .returned (.string ⟨(foldL s).toArray⟩) ∧ Below w.heap.size w w' := by
  refine (callsIn_wide (n := 3)).1 ?_
  refine callsIn_of_wp_marks Try.func23 rfl trivial ?_ rfl
  simp only [Try.ntmps23, List.size_toArray, List.length_cons, List.length_nil, Nat.reduceAdd, Nat.reduceSub, Array.replicate_succ, Array.replicate_zero, List.push_toArray, List.append_toArray, List.nil_append, List.cons_append]
  gi_wp2_with (refine ⟨trivial, ?_⟩; gi_at_call 29; refine (callsIn_wide.2 (units_fn s _)).mono ?_; rintro e w' ⟨rfl, rfl⟩)
  have bN := block_new (w.alloc (Obj.cells #[Value.pointer none, Value.slice none 0 0] 50)) (Obj.cells #[Value.string s] 9)
  have bB := block_alloc (Obj.cells #[Value.string s] 9) (block_new w (Obj.cells #[Value.pointer none, Value.slice none 0 0] 50))
  rw [World.size_alloc] at bN
  have hB0 : Below w.heap.size w ((w.alloc (Obj.cells #[Value.pointer none, Value.slice none 0 0] 50)).alloc (Obj.cells #[Value.string s] 9)) := ((Below.refl _ w).alloc (Nat.le_refl _) _).alloc (by simp) _
  have hsz : ((w.alloc (Obj.cells #[Value.pointer none, Value.slice none 0 0] 50)).alloc (Obj.cells #[Value.string s] 9)).heap.size = w.heap.size + 2 := by simp
  obtain ⟨W0, hW0⟩ : ∃ W0, (w.alloc (Obj.cells #[Value.pointer none, Value.slice none 0 0] 50)).alloc (Obj.cells #[Value.string s] 9) = W0 := ⟨_, rfl⟩
  rw [hW0] at bN bB hB0 hsz ⊢
  clear hW0
  have hbd0 : Bd w.heap.size [] W0 := .inl ⟨Nat.le_refl _, .slice none 0 0, bB, ⟨rfl, .inl ⟨rfl, rfl⟩⟩, fun e => by cases e⟩
  refine wpIn_rangeFunc_ownH (n := 3) rfl (by omega) (gf := 38) (lb := #[.pointer (some ⟨w.heap.size + 1, 0, none⟩)]) rfl trivial (enters_of Try.func38 (by kernel_rfl) rfl)
    (units_stops 2 (by omega) (w.heap.size + 1) w.heap.size s (by unfold maxLen; omega) W0 (by omega) (cell_of bN rfl)) keepsIt_t (keepsIt_b (by omega) (by omega)) (Below.refl _ _) (fun _ => rfl)
    (FoldI s w) (fun _ _ _ => False) (foldI_own s w _ (by omega)) (fun _ _ _ _ _ hs _ _ => hs)
    ⟨⟨hbd0, bN, by omega⟩, hB0⟩
    (fun x a' W => ∃ Bx, w.heap.size + 1 < Bx ∧ Boxed3 W Bx s x.1 ∧ a' = { tmps := #[.string s, undef, .string ⟨#[]⟩, .pointer (some ⟨w.heap.size, 0, none⟩), .pointer (some ⟨Bx, 0, none⟩), .string s, .func (.func 38) #[] #[.pointer (some ⟨w.heap.size + 1, 0, none⟩)], uval s x.1, undef, undef, undef, undef, undef, undef, undef, undef, undef, undef, undef], defers := [] })
    (fun x a' _ X Y row hs hg hr => by obtain ⟨Bx, h1, h2, h3⟩ := hs; exact ⟨Bx, h1, cells_own Bx _ _ _ () X Y row h2 hg (fun r e => (hr r e).2), h3⟩)
    ?assign ?body ?done ?stop
  case assign =>
    rintro l pre x W K ⟨⟨bd, bS, hz⟩, hB⟩ hK
    unfold encU uval
    gi_wp2
    exact hK _ _ ((KeepsOthers.alloc _ _).from _) (keepsIt_alloc W hB.size (by omega) _) ⟨⟨bd_grown bd (World.grownBy_alloc W _ none) (fun r e => by cases e), block_alloc _ bS, by simp; omega⟩, hB.alloc hB.size _⟩ ⟨W.heap.size, by omega, Boxed3.new W s x.1, rfl⟩
  case body =>
    rintro l pre x a' W hl ⟨r, hr⟩ ⟨⟨bd, bS, hz⟩, hB⟩ ⟨Bx, hBx, bX, rfl⟩ hlt
    have hinv := invalid_any (x.1.c : Int) (x.1.p : Int) (s.extract x.1.p (x.1.p + x.1.w)) W
    rw [ext_size] at hinv
    have hun := (units_fit _ _ _ x.2)
    have hx4 := hun.2.2.2.2.1
    have hpl := pieces_len s (pre.map (·.1)) (fun u hu => by obtain ⟨y, _, rfl⟩ := List.mem_map.1 hu; exact y.2)
    have hul := units_le s
    rw [List.length_map] at hpl
    have hbt : (s.extract x.1.p (x.1.p + x.1.w)).data.toList = txt s x.1 := by
      unfold txt
      rw [Lib.extract_data]
      congr 1
      omega
    have hts := ext_size s x
    have hw4 := hun.2.2.2.1
    have hnx : ((pre ++ [x]).map (·.1)).flatMap (pieceF s) = (pre.map (·.1)).flatMap (pieceF s) ++ pieceF s x.1 := by
      rw [List.map_append, List.flatMap_append]
      simp
    obtain ⟨L, hL⟩ : ∃ L, (pre.map (·.1)).flatMap (pieceF s) = L := ⟨_, rfl⟩
    rw [hL] at bd hpl hnx
    have hL5 : L.length ≤ 5000 := by omega
    have hinvb : invB (x.1.c : Int) x.1.w = badU x.1 := rfl
    rw [hinvb] at hinv
    have hpc : pieceF s x.1 = if badU x.1 then txt s x.1 else (Utf8.encode (foldC x.1.c : Nat)).data.toList := rfl
    rw [hpc] at hnx
    rw [← hbt] at hnx
    obtain ⟨t, ht⟩ : ∃ t, s.extract x.1.p (x.1.p + x.1.w) = t := ⟨_, rfl⟩
    rw [ht] at hinv hnx hts
    have hbx := bX
    unfold Boxed3 at hbx
    rw [ht] at hbx
    obtain ⟨c0, c1, c2⟩ := bX.cells
    rw [ht] at c2
    obtain ⟨b, hb⟩ : ∃ b, badU x.1 = b := ⟨_, rfl⟩
    rw [hb] at hinv hnx
    obtain ⟨c, hc⟩ : ∃ c, x.1.c = c := ⟨_, rfl⟩
    obtain ⟨p, hp⟩ : ∃ p, x.1.p = p := ⟨_, rfl⟩
    rw [hc, hp] at hinv
    rw [hc] at hbx hnx hx4 c0
    rw [hp] at hbx c1
    have HI := Lib.hid hinv
    have HN := Lib.hid hnx
    have HBX := Lib.hid hbx
    have HT := Lib.hid ht
    clear hpc hinv hnx hbx hb hbt hL hlt hr hun hpl hul hc hp bX hinvb
    have hbl : Bx < W.heap.size := (Array.getElem?_eq_some_iff.1 HBX.out).1
    have hcd : ∀ w1, Below W.heap.size W w1 → w1.cell? ⟨Bx, 0, none⟩ = some (.int .i32 (c : Int)) ∧ w1.cell? ⟨Bx, 2, none⟩ = some (.string t) := fun w1 h => ⟨cell_of (block_below HBX.out h hbl) rfl, cell_of (block_below HBX.out h hbl) rfl⟩
    have HCD := Lib.hid hcd
    have HWR := Lib.hid (fun T hT w1 hb1 => write_round bd (by omega) bS hL5 W0.heap.size T hT w1 hb1)
    have hts4 : t.size ≤ 4 := by omega
    have hes4 : (Utf8.encode (foldC c : Nat)).size ≤ 4 := by rw [Lib.size_eq]; exact (enc_len _).2
    have HL4 := Lib.hid (lower_any c hx4)
    clear hcd hbl bd bS
    cases b with
    | true =>
      gi_wp2_with (first
        | (refine ⟨trivial, ?_⟩; gi_at_call 30; refine (CallsIn.inRound l (callsIn_wide.2 HI.out)).mono ?_; rintro e w1 ⟨rfl, hb1⟩; obtain ⟨d0, d2⟩ := HCD.out w1 hb1)
        | (refine ⟨trivial, ?_⟩; gi_at_call 31; refine (CallsIn.inRound l (callsIn_wide.2 (HWR.out t hts4 w1 hb1))).mono ?_; rintro e w2 ⟨rfl, h3, h4, h5, h6, h7⟩))
      refine ⟨h3, h4, ⟨?_, h6, by have := h7.size; omega⟩, hB.trans h7⟩
      rw [HN.out]
      exact h5
    | false =>
      gi_wp2_with (first
        | (refine ⟨trivial, ?_⟩; gi_at_call 30; refine (CallsIn.inRound l (callsIn_wide.2 HI.out)).mono ?_; rintro e w1 ⟨rfl, hb1⟩; obtain ⟨d0, d2⟩ := HCD.out w1 hb1)
        | (refine ⟨trivial, ?_⟩; gi_at_call 32; refine (CallsIn.inRound l (callsIn_wide.2 (HL4.out _))).mono ?_; rintro e w3 ⟨rfl, rfl⟩)
        | (refine ⟨trivial, ?_⟩; gi_at_call 31; refine (CallsIn.inRound l (callsIn_wide.2 (HWR.out _ hes4 w1 hb1))).mono ?_; rintro e w2 ⟨rfl, h3, h4, h5, h6, h7⟩))
      refine ⟨h3, h4, ⟨?_, h6, by have := h7.size; omega⟩, hB.trans h7⟩
      rw [HN.out]
      exact h5
  case done =>
    rintro D xs W hD hx ⟨⟨bd, bS, hz⟩, hB⟩ hK
    have hfl : (xs.map (·.1)).flatMap (pieceF s) = foldL s := congrArg (fun us : List U => us.flatMap (pieceF s)) hx
    rw [hfl] at bd
    have HS := Lib.hid (string_any w.heap.size w.heap.size (foldL s) W bd hB.size)
    clear hfl hx
    gi_wp2_with (refine ⟨trivial, ?_⟩; gi_at_call 33; refine (callsIn_wide.2 HS.out).mono ?_; rintro e w' ⟨rfl, hbd2, hb2, hk2⟩)
    have hK' := others_object bd hk2 hK rfl
    refine ⟨by simp, .inl ⟨_, _, rfl, run_takeDeferred hK', ?_⟩⟩
    exact ⟨_, results_tmp rfl _ _ _, rfl, (hB.trans hb2).trans (belowK_b (w := w) (Nat.le_refl _) _ D _ _ (by omega) hK' rfl rfl)⟩
  case stop =>
    rintro D c pre W _ _ h _
    exact h.elim
end Go.Proofs.Ytilgbjakhpgkcaa
