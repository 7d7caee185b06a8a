/-
  WALKS over package depend, ninth part: Parse, at any text and any number of tokens.
-/
import Derived.Test.YtmjmidgfdjcbfaaGreatDoorDbG
import Derived.Test.YtmjmidgfdjcbfaaGreatDoorDzD
namespace Go.Proofs.YtmjmidgfdjcbfaaGreatDoor.Dep
open Go Go.RowKit Go.Shelf Go.Lib
set_option linter.unusedVariables false
attribute [local go_sem] Oper.semAt_some

/-- Position, errno, heads and relations that Parse returns. -/
def parseH (s : ByteArray) (T : Int) : (Nat × Nat) × Int × List Int × Fs :=
  if T < 0 ∨ 4096 < T then ((0, 0), 1, [], [])
  else if 1048576 < s.size then ((0, 0), 2, [], [])
  else if (textE T.toNat s.data.toList).2 = 0 then ((0, 0), 0, (rd T.toNat (linesL s.data.toList)).hs, (rd T.toNat (linesL s.data.toList)).rs)
  else (posP (before s (textE T.toNat s.data.toList).1), (textE T.toNat s.data.toList).2, [], [])

/-- What Parse leaves behind. -/
def Parsed (w : World) (r : (Nat × Nat) × Int × List Int × Fs) (e : Ending) (W' : World) : Prop :=
  (∃ vh vr, e = .returned (.tuple #[vh, vr, .agg (posV r.1), .int .i64 r.2.1]) ∧ W'.ownsRow w.heap.size 3 1 vh r.2.2.1.length (intV r.2.2.1) ∧ W'.ownsRow w.heap.size 9 1 vr r.2.2.2.length (strsV r.2.2.2) ∧ (r.2.1 ≠ 0 → vh = .slice none 0 0 ∧ vr = .slice none 0 0)) ∧ Below w.heap.size w W'

theorem parsed_bad {w W' : World} {p : Nat × Nat} {er : Int} (hb : Below w.heap.size w W') : Parsed w (p, er, [], []) (.returned (.tuple #[.slice none 0 0, .slice none 0 0, .agg (posV p), .int .i64 er])) W' :=
  ⟨⟨_, _, rfl, World.ownsRow_nil _ _ _ 1, World.ownsRow_nil _ _ _ 1, fun _ => ⟨rfl, rfl⟩⟩, hb⟩
theorem results_parse {tmps : Array Value} {W : World} {B : Nat} {a b : Int} {v4 v5 v7 : Value} (h6 : tmps[6]? = some (.pointer (some ⟨B, 0, none⟩))) (h4 : tmps[4]? = some v4) (h5 : tmps[5]? = some v5) (h7 : tmps[7]? = some v7) (hB : W.heap[B]? = some (.cells #[.int .i64 a, .int .i64 b] 69 (0, 0))) :
    (results Tryz.f15 tmps).run Tryz.prog W = .ok (.tuple #[v4, v5, .agg #[.int .i64 a, .int .i64 b], v7]) W := by
  have q1 := cell_of (i := 0) hB rfl
  have q2 := cell_of (i := 1) hB rfl
  simp [results, Tryz.f15, go_sem, h4, h5, h6, h7, q1, q2]
theorem own_base {w : World} {b1 b2 : Nat} {e : TypeId} {size n : Nat} {v : Value} {xs : List Value} (h : w.ownsRow b2 e size v n xs) (hb : b1 ≤ b2) : w.ownsRow b1 e size v n xs := by
  rcases h.2 with hn | ⟨g, cap, cur, hv, hg, rest⟩
  · exact ⟨h.1, .inl hn⟩
  · exact ⟨h.1, .inr ⟨g, cap, cur, hv, Nat.le_trans hb hg, rest⟩⟩

set_option maxRecDepth 100000 in
set_option maxHeartbeats 4000000 in
theorem parse_any {w : World} (hE : ErrAt w) (s : ByteArray) (T : Int) :
    Calls Tryz.prog 15 #[.string s, .int .i64 T] w (Parsed w (parseH s T)) := by
  unfold parseH
  by_cases h0 : T < 0
  · rw [if_pos (Or.inl h0)]
    have e0 : decide (T < 0) = true := decide_eq_true h0
    clear h0
    go_enter Tryz.func15, Tryz.ntmps15
    go_wp2_with fail
    exact bodyPost_ret (results_parse rfl rfl rfl rfl (block_new w _)) rfl (parsed_bad (p := (0, 0)) (below_box _ _))
  · by_cases h1 : 4096 < T
    · rw [if_pos (Or.inr h1)]
      have e0 : decide (T < 0) = false := decide_eq_false h0
      have e1 : decide (T > 4096) = true := decide_eq_true h1
      clear h0 h1
      go_enter Tryz.func15, Tryz.ntmps15
      go_wp2_with fail
      exact bodyPost_ret (results_parse rfl rfl rfl rfl (block_new w _)) rfl (parsed_bad (p := (0, 0)) (below_box _ _))
    · rw [if_neg (fun h => h.elim h0 h1)]
      by_cases h2 : 1048576 < s.size
      · rw [if_pos h2]
        have e0 : decide (T < 0) = false := decide_eq_false h0
        have e1 : decide (T > 4096) = false := decide_eq_false h1
        have e2 : decide ((s.size : Int) > 1048576) = true := decide_eq_true (by omega)
        clear h0 h1 h2
        go_enter Tryz.func15, Tryz.ntmps15
        go_wp2_with fail
        exact bodyPost_ret (results_parse rfl rfl rfl rfl (block_new w _)) rfl (parsed_bad (p := (0, 0)) (below_box _ _))
      · rw [if_neg h2]
        obtain ⟨t, rfl⟩ : ∃ t : Nat, T = (t : Int) := ⟨T.toNat, by omega⟩
        rw [Int.toNat_natCast]
        have e0 : decide ((t : Int) < 0) = false := decide_eq_false h0
        have e1 : decide ((t : Int) > 4096) = false := decide_eq_false h1
        have e2 : decide ((s.size : Int) > 1048576) = false := decide_eq_false (by omega)
        have hblk : ((w.alloc (.cells #[.int .i64 0, .int .i64 0] 69)).alloc (.cells #[.int .i64 (t : Int), .slice none 0 0, .slice none 0 0, .slice none 0 0] 89)).heap[w.heap.size + 1]? = some (.cells #[.int .i64 (t : Int), .slice none 0 0, .slice none 0 0, .slice none 0 0] 89 (0, 0)) := by
          have := block_new (w.alloc (.cells #[.int .i64 0, .int .i64 0] 69)) (.cells #[.int .i64 (t : Int), .slice none 0 0, .slice none 0 0, .slice none 0 0] 89)
          rw [alloc_sz] at this
          exact this
        have hpb : ((w.alloc (.cells #[.int .i64 0, .int .i64 0] 69)).alloc (.cells #[.int .i64 (t : Int), .slice none 0 0, .slice none 0 0, .slice none 0 0] 89)).heap[w.heap.size]? = some (.cells #[.int .i64 0, .int .i64 0] 69 (0, 0)) := block_alloc _ (block_new _ _)
        have hbw : Below w.heap.size w ((w.alloc (.cells #[.int .i64 0, .int .i64 0] 69)).alloc (.cells #[.int .i64 (t : Int), .slice none 0 0, .slice none 0 0, .slice none 0 0] 89)) := ((Below.refl _ w).alloc (Nat.le_refl _) _).alloc (by simp) _
        have hErr : ErrAt ((w.alloc (.cells #[.int .i64 0, .int .i64 0] 69)).alloc (.cells #[.int .i64 (t : Int), .slice none 0 0, .slice none 0 0, .slice none 0 0] 89)) := ErrAt.same hE (hbw.block _ hE.lt)
        have hne : 5 ≠ w.heap.size + 1 := by have := hE.lt; omega
        have htx := text_any hblk hErr hne (by omega) s (by omega)
        rw [alloc_sz, alloc_sz] at htx
        have hpos := fun (W : World) => position_any s (by omega) (textE t s.data.toList).1 W
        obtain ⟨W0, hW0⟩ : ∃ W0, ((w.alloc (.cells #[.int .i64 0, .int .i64 0] 69)).alloc (.cells #[.int .i64 (t : Int), .slice none 0 0, .slice none 0 0, .slice none 0 0] 89)) = W0 := ⟨_, rfl⟩
        have hsz0 : W0.heap.size = w.heap.size + 2 := by rw [← hW0]; simp
        rw [hW0] at htx hpb hbw
        have htx2 : Calls Tryz.prog 45 #[.pointer (some ⟨w.heap.size + 1, 0, none⟩), .string s] W0 fun e W' => e = .returned (.tuple #[.int .i64 (textE t s.data.toList).1, .int .i64 (textE t s.data.toList).2]) ∧ Below w.heap.size w W' ∧ W'.heap[w.heap.size]? = some (.cells #[.int .i64 0, .int .i64 0] 69 (0, 0)) ∧
            ((textE t s.data.toList).2 = 0 → RdAt W' (w.heap.size + 1) (w.heap.size + 2 + 5) t (rd t (linesL s.data.toList)).bs (rd t (linesL s.data.toList)).hs (rd t (linesL s.data.toList)).rs) := by
          refine htx.mono ?_
          rintro e W' ⟨rfl, q1, q2, q3⟩
          refine ⟨rfl, ⟨q1.os.trans hbw.os, q1.tape.trans hbw.tape, q1.output.trans hbw.output, Nat.le_trans hbw.size q1.size, fun k hk => (q2 k (by omega) (by omega)).trans (hbw.block k hk)⟩, (q2 _ (by omega) (by omega)).trans hpb, q3⟩
        clear htx hblk hErr hpb
        obtain ⟨⟨t1, t2⟩, hte⟩ : ∃ r, textE t s.data.toList = r := ⟨_, rfl⟩
        rw [hte] at htx2 hpos ⊢
        simp only at htx2 hpos ⊢
        have HTX := Lib.hid htx2
        have HPO := Lib.hid hpos
        have HW0 := Lib.hid hW0
        clear htx2 hpos hte hne hW0 hbw hsz0 h0 h1 h2 hE
        by_cases hz : t2 = 0
        · rw [if_pos hz]
          subst hz
          obtain ⟨hs', hhs⟩ : ∃ l, (rd t (linesL s.data.toList)).hs = l := ⟨_, rfl⟩
          obtain ⟨rs', hrs⟩ : ∃ l, (rd t (linesL s.data.toList)).rs = l := ⟨_, rfl⟩
          rw [hhs, hrs] at HTX ⊢
          clear hhs hrs
          go_enter Tryz.func15, Tryz.ntmps15
          go_wp2_with fail
          rw [HW0.out]
          refine HTX.out.mono ?_
          rintro e W1 ⟨rfl, hb1, hp1, hr1⟩
          have HB1 := Lib.hid hb1
          have HP1 := Lib.hid hp1
          obtain ⟨⟨vb, vh, vr, hblk, ob, oh, orr, hd⟩, hlt, hle⟩ : RdAt W1 (w.heap.size + 1) (w.heap.size + 2 + 5) t _ _ _ := by first | exact hr1 rfl | exact hr1 trivial | exact hr1
          have c0 := cell_of (i := 0) (v := .int .i64 0) hp1 rfl
          have f0 := frozen_of (i := 0) hp1
          have c1 := cell_of (i := 1) (v := .int .i64 0) hp1 rfl
          have f1 := frozen_of (i := 1) hp1
          have c2 : W1.cell? ⟨w.heap.size + 1, 2, none⟩ = some vh := cell_of hblk rfl
          have c3 : W1.cell? ⟨w.heap.size + 1, 3, none⟩ = some vr := cell_of hblk rfl
          have HOH := Lib.hid oh
          have HOR := Lib.hid orr
          clear hb1 hp1 hr1 hblk ob oh orr hd hlt hle HTX HPO HW0
          go_wp2_with fail
          refine wp_region_any (by kernel_rfl) ?_
          change wpAny _ _ _ _ _ _ _ (World.drew _)
          refine wpAny_take (i := 0) (oi := ?oi1) (v := ?v1) ?hi1 (by kernel_rfl) (by kernel_rfl) (by kernel_rfl) ?hq1 ?hy1 ?hr1
          case hi1 => (simp only [List.getElem?_toArray, List.getElem?_cons_zero]; rfl)
          case hq1 => exact fun _ _ _ h => h
          case hy1 => exact Or.inl ⟨by rfl, by intro w; (first | (go_simp; done) | (go_simp; with_reducible rfl))⟩
          try simp only [Act.put, List.setIfInBounds_toArray, List.set_cons_zero, List.set_cons_succ]
          refine wpAny_take (i := 2) (oi := ?oi2) (v := ?v2) ?hi2 (by kernel_rfl) (by kernel_rfl) (by kernel_rfl) ?hq2 ?hy2 ?hr2
          case hi2 => (simp only [List.getElem?_toArray, List.getElem?_cons_succ, List.getElem?_cons_zero]; rfl)
          case hq2 => exact fun _ _ _ h => h
          case hy2 => exact Or.inl ⟨by rfl, by intro w; (first | (go_simp; done) | (go_simp; with_reducible rfl))⟩
          try simp only [Act.put, List.setIfInBounds_toArray, List.set_cons_zero, List.set_cons_succ]
          refine wpAny_take (i := 4) (oi := ?oi3) (v := ?v3) ?hi3 (by kernel_rfl) (by kernel_rfl) (by kernel_rfl) ?hq3 ?hy3 ?hr3
          case hi3 => (simp only [List.getElem?_toArray, List.getElem?_cons_succ, List.getElem?_cons_zero]; rfl)
          case hq3 => exact fun _ _ _ h => h
          case hy3 => exact Or.inl ⟨by rfl, by intro w; (first | (go_simp; done) | (go_simp; with_reducible rfl))⟩
          try simp only [Act.put, List.setIfInBounds_toArray, List.set_cons_zero, List.set_cons_succ]
          refine wpAny_ready (rs := [1, 3]) (by kernel_rfl) (by simp) ?_
          refine AllReady.cons (o := ?oo4) ?hi4 (fun K hK => ?hs4) ?hm4
          case hi4 => (simp only [List.getElem?_toArray, List.getElem?_cons_succ, List.getElem?_cons_zero]; rfl)
          go_simp
          refine hK _ _ ?_; clear hK K
          try simp only [Act.put, List.setIfInBounds_toArray, List.set_cons_zero, List.set_cons_succ]
          refine wpAny_take (i := 5) (oi := ?oi5) (v := ?v5) ?hi5 (by kernel_rfl) (by kernel_rfl) (by kernel_rfl) ?hq5 ?hy5 ?hr5
          case hi5 => (simp only [List.getElem?_toArray, List.getElem?_cons_succ, List.getElem?_cons_zero]; rfl)
          case hq5 => exact fun _ _ _ h => h
          case hy5 => exact Or.inl ⟨by rfl, by intro w; (first | (go_simp; done) | (go_simp; with_reducible rfl))⟩
          try simp only [Act.put, List.setIfInBounds_toArray, List.set_cons_zero, List.set_cons_succ]
          refine wpAny_ready (rs := [3]) (by kernel_rfl) (by simp) ?_
          refine AllReady.cons (o := ?oo6) ?hi6 (fun K hK => ?hs6) ?hm6
          case hi6 => (simp only [List.getElem?_toArray, List.getElem?_cons_succ, List.getElem?_cons_zero]; rfl)
          go_simp
          refine hK _ _ ?_; clear hK K
          try simp only [Act.put, List.setIfInBounds_toArray, List.set_cons_zero, List.set_cons_succ]
          refine wpAny_take (i := 6) (oi := ?oi7) (v := ?v7) ?hi7 (by kernel_rfl) (by kernel_rfl) (by kernel_rfl) ?hq7 ?hy7 ?hr7
          case hi7 => (simp only [List.getElem?_toArray, List.getElem?_cons_succ, List.getElem?_cons_zero]; rfl)
          case hq7 => exact fun _ _ _ h => h
          case hy7 => exact Or.inl ⟨by rfl, by intro w; (first | (go_simp; done) | (go_simp; with_reducible rfl))⟩
          try simp only [Act.put, List.setIfInBounds_toArray, List.set_cons_zero, List.set_cons_succ]
          refine wpAny_ready (rs := [7]) (by kernel_rfl) (by simp) ?_
          refine AllReady.cons (o := ?oo8) ?hi8 (fun K hK => ?hs8) ?hm8
          case hi8 => (simp only [List.getElem?_toArray, List.getElem?_cons_succ, List.getElem?_cons_zero]; rfl)
          go_simp
          refine hK _ _ ?_; clear hK K
          try simp only [Act.put, List.setIfInBounds_toArray, List.set_cons_zero, List.set_cons_succ]
          refine wpAny_take (i := 8) (oi := ?oi9) (v := ?v9) ?hi9 (by kernel_rfl) (by kernel_rfl) (by kernel_rfl) ?hq9 ?hy9 ?hr9
          case hi9 => (simp only [List.getElem?_toArray, List.getElem?_cons_succ, List.getElem?_cons_zero]; rfl)
          case hq9 => exact fun _ _ _ h => h
          case hy9 => exact Or.inl ⟨by rfl, by intro w; (first | (go_simp; done) | (go_simp; with_reducible rfl))⟩
          try simp only [Act.put, List.setIfInBounds_toArray, List.set_cons_zero, List.set_cons_succ]
          refine wpAny_done (by kernel_rfl) ?_ _
          rotate_left
          exact AllReady.nil
          exact AllReady.nil
          refine AllReady.cons (o := ?oo10) ?hi10 (fun K hK => ?hs10) ?hm10
          case hi10 => (simp only [List.getElem?_toArray, List.getElem?_cons_succ, List.getElem?_cons_zero]; rfl)
          go_simp
          refine hK _ _ ?_; clear hK K
          try simp only [Act.put, List.setIfInBounds_toArray, List.set_cons_zero, List.set_cons_succ]
          refine wpAny_ready (rs := [1]) (by kernel_rfl) (by simp) ?_
          refine AllReady.cons (o := ?oo11) ?hi11 (fun K hK => ?hs11) ?hm11
          case hi11 => (simp only [List.getElem?_toArray, List.getElem?_cons_succ, List.getElem?_cons_zero]; rfl)
          go_simp
          refine hK _ _ ?_; clear hK K
          try simp only [Act.put, List.setIfInBounds_toArray, List.set_cons_zero, List.set_cons_succ]
          refine wpAny_take (i := 5) (oi := ?oi12) (v := ?v12) ?hi12 (by kernel_rfl) (by kernel_rfl) (by kernel_rfl) ?hq12 ?hy12 ?hr12
          case hi12 => (simp only [List.getElem?_toArray, List.getElem?_cons_succ, List.getElem?_cons_zero]; rfl)
          case hq12 => exact fun _ _ _ h => h
          case hy12 => exact Or.inl ⟨by rfl, by intro w; (first | (go_simp; done) | (go_simp; with_reducible rfl))⟩
          try simp only [Act.put, List.setIfInBounds_toArray, List.set_cons_zero, List.set_cons_succ]
          refine wpAny_take (i := 6) (oi := ?oi13) (v := ?v13) ?hi13 (by kernel_rfl) (by kernel_rfl) (by kernel_rfl) ?hq13 ?hy13 ?hr13
          case hi13 => (simp only [List.getElem?_toArray, List.getElem?_cons_succ, List.getElem?_cons_zero]; rfl)
          case hq13 => exact fun _ _ _ h => h
          case hy13 => exact Or.inl ⟨by rfl, by intro w; (first | (go_simp; done) | (go_simp; with_reducible rfl))⟩
          try simp only [Act.put, List.setIfInBounds_toArray, List.set_cons_zero, List.set_cons_succ]
          refine wpAny_ready (rs := [7]) (by kernel_rfl) (by simp) ?_
          refine AllReady.cons (o := ?oo14) ?hi14 (fun K hK => ?hs14) ?hm14
          case hi14 => (simp only [List.getElem?_toArray, List.getElem?_cons_succ, List.getElem?_cons_zero]; rfl)
          go_simp
          refine hK _ _ ?_; clear hK K
          try simp only [Act.put, List.setIfInBounds_toArray, List.set_cons_zero, List.set_cons_succ]
          refine wpAny_take (i := 8) (oi := ?oi15) (v := ?v15) ?hi15 (by kernel_rfl) (by kernel_rfl) (by kernel_rfl) ?hq15 ?hy15 ?hr15
          case hi15 => (simp only [List.getElem?_toArray, List.getElem?_cons_succ, List.getElem?_cons_zero]; rfl)
          case hq15 => exact fun _ _ _ h => h
          case hy15 => exact Or.inl ⟨by rfl, by intro w; (first | (go_simp; done) | (go_simp; with_reducible rfl))⟩
          try simp only [Act.put, List.setIfInBounds_toArray, List.set_cons_zero, List.set_cons_succ]
          refine wpAny_done (by kernel_rfl) ?_ _
          rotate_left
          exact AllReady.nil
          exact AllReady.nil
          exact AllReady.nil
          all_goals
            go_wp2_with fail
            refine bodyPost_ret (results_parse (B := w.heap.size) (a := 0) (b := 0) rfl rfl rfl rfl ?_) rfl ⟨⟨_, _, rfl, ?_, ?_, fun h => absurd rfl h⟩, ?_⟩
            · exact set_of (i := 1) (set_of (i := 0) HP1.out (.int .i64 0)) (.int .i64 0)
            · exact own_base (World.ownsRow.drew (own_set (own_set HOH.out (by omega)) (by omega))) (by omega)
            · exact own_base (World.ownsRow.drew (own_set (own_set HOR.out (by omega)) (by omega))) (by omega)
            · exact ((HB1.out.setCell (p := ⟨w.heap.size, 0, none⟩) (Nat.le_refl _) _).setCell (p := ⟨w.heap.size, 1, none⟩) (Nat.le_refl _) _).drew
        · rw [if_neg hz]
          have hzb : (t2 != 0) = true := by simp [hz]
          go_enter Tryz.func15, Tryz.ntmps15
          go_wp2_with fail
          rw [HW0.out]
          refine HTX.out.mono ?_
          rintro e W1 ⟨rfl, hb1, hp1, _⟩
          have HB1 := Lib.hid hb1
          have HP1 := Lib.hid hp1
          clear hb1 hp1 HTX HW0 hz
          go_wp2_with fail
          refine (HPO.out _).mono ?_
          rintro e W2 ⟨rfl, hb2⟩
          have HB2 := Lib.hid hb2
          have HP2 := Lib.hid (block_below HP1.out hb2 (Array.getElem?_eq_some_iff.1 HP1.out).1)
          have c0 := cell_of (i := 0) (v := .int .i64 0) HP2.out rfl
          have c1 := cell_of (i := 1) (v := .int .i64 0) HP2.out rfl
          have f0 := frozen_of (i := 0) HP2.out
          have f1 := frozen_of (i := 1) HP2.out
          clear hb2
          unfold posV
          go_wp2_with fail
          exact bodyPost_ret (results_parse rfl rfl rfl rfl (set_of (set_of HP2.out _) _)) rfl (parsed_bad (p := posP (before s t1)) (((HB1.out.trans (HB2.out.mono HB1.out.size)).setCell (p := ⟨w.heap.size, 0, none⟩) (Nat.le_refl _) _).setCell (p := ⟨w.heap.size, 1, none⟩) (Nat.le_refl _) _))
end Go.Proofs.YtmjmidgfdjcbfaaGreatDoor.Dep
