/-
  WALKS over package markup, eighth part: the scanner in memory; fail, skip, expect, spaces, name.
-/
import Derived.Test.YtjablaidbccnbaaGreatDoorMkF
import Derived.Test.YtjablaidbccnbaaGreatDoorMkG
namespace Go.Proofs.YtjablaidbccnbaaGreatDoor
open Go.RowKit Go.Shelf Go.Lib

/-- The scanner: its block, its text, its place. -/
def Scan (w : World) (b : Nat) (s : ByteArray) (i : Nat) : Prop := w.heap[b]? = some (.cells #[.string s, .int .i64 (i : Int)] 45 (0, 0))
/-- What stays: all but the scanner's block. -/
abbrev But (b : Nat) (w w' : World) : Prop := w.grownBy w' (some b)
theorem but_trans {g : Nat} {a b c : World} (h : But g a b) (k : But g b c) : But g a c :=
  ⟨k.os.trans h.os, k.tape.trans h.tape, k.output.trans h.output, Nat.le_trans h.size k.size, fun j hj hne => (k.block j (Nat.lt_of_lt_of_le hj h.size) hne).trans (h.block j hj hne)⟩
theorem but_below {g : Nat} {a b : World} (h : Below a.heap.size a b) : But g a b := ⟨h.os, h.tape, h.output, h.size, fun j hj _ => h.block j hj⟩
theorem but_refl (g : Nat) (a : World) : But g a a := World.grownBy.refl a _
theorem but_drew {g : Nat} {a b : World} (h : But g a b) : But g a b.drew := ⟨h.os, h.tape, h.output, h.size, h.block⟩
theorem grown_drew' (g : Nat) (w : World) (n : Nat) : But g w (w.drewN n) := ⟨rfl, rfl, rfl, Nat.le_refl _, fun _ _ _ => rfl⟩
theorem below_but {g B : Nat} {w w' : World} (h : But g w w') (hg : B ≤ g) (hB : B ≤ w.heap.size) : Below B w w' :=
  (Below.refl B w).grown h hB (fun k e => by cases e; exact hg)
theorem Scan.lt {w : World} {b : Nat} {s : ByteArray} {i : Nat} (h : Scan w b s i) : b < w.heap.size := (Array.getElem?_eq_some_iff.1 h).1
theorem Scan.cells {w : World} {b : Nat} {s : ByteArray} {i : Nat} (h : Scan w b s i) : w.cell? ⟨b, 0, none⟩ = some (.string s) ∧ w.cell? ⟨b, 1, none⟩ = some (.int .i64 (i : Int)) ∧ w.frozen? ⟨b, 1, none⟩ = false :=
  ⟨cell_of (i := 0) h rfl, cell_of (i := 1) h rfl, frozen_of h⟩
theorem Scan.keep {w w' : World} {b : Nat} {s : ByteArray} {i : Nat} (h : Scan w b s i) (hh : w'.heap[b]? = w.heap[b]?) : Scan w' b s i := hh.trans h
theorem Scan.below {w w' : World} {b : Nat} {s : ByteArray} {i : Nat} (h : Scan w b s i) (hb : Below w.heap.size w w') : Scan w' b s i := h.keep (hb.block b h.lt)
theorem Scan.move {w : World} {b : Nat} {s : ByteArray} {i : Nat} (h : Scan w b s i) (k : Nat) (K : Int) (hK : K = k) : Scan (w.setCell ⟨b, 1, none⟩ (.int .i64 K)) b s k ∧ But b w (w.setCell ⟨b, 1, none⟩ (.int .i64 K)) := by
  subst hK
  refine ⟨?_, ⟨rfl, rfl, rfl, by simp [World.setCell], fun j _ hne => Below.heap_setCell _ _ _ _ (fun e => hne (by rw [e]))⟩⟩
  unfold Scan
  rw [set_of h (i := 1)]
  simp
/-- The end of a reading that fails. -/
def failE (a e : Nat) : Ending := .panicked [{ v := .iface 42 (.agg #[.int .i64 (a : Int), .int .i64 (e : Int)]), recovered := false }]
theorem fail_any (b a e : Nat) (w : World) :
    Calls Tryz.prog 34 #[.pointer (some ⟨b, 0, none⟩), .int .i64 (a : Int), .int .i64 (e : Int)] w fun en w' => en = failE a e ∧ w' = w := by
  unfold failE
  go_enter Tryz.func34, Tryz.ntmps34
  go_wp2
  exact ⟨rfl, rfl, rfl⟩
theorem prefix_one (l : Bs) (i : Nat) (c : UInt8) : hasPrefix (l.drop i) [c] = decide (l[i]? = some c) := by
  by_cases h : i < l.length
  · rw [List.drop_eq_getElem_cons h, List.getElem?_eq_getElem h, Bool.eq_iff_iff]
    simp only [hasPrefix, List.isPrefixOf, Bool.and_true, beq_iff_eq, decide_eq_true_eq, Option.some.injEq]
    exact eq_comm
  · rw [List.drop_eq_nil_of_le (by omega), List.getElem?_eq_none (by omega)]
    simp [hasPrefix]

set_option maxHeartbeats 1000000 in
theorem skip_any {w : World} {b : Nat} {s : ByteArray} {i : Nat} (hs : s.size ≤ 1000000) (h : Scan w b s i) (hi : i ≤ s.size) (c : UInt8) :
    Calls Tryz.prog 31 #[.pointer (some ⟨b, 0, none⟩), .string ⟨#[c]⟩] w fun e w' => e = .returned (.bool (decide (s.data.toList[i]? = some c))) ∧ Scan w' b s (if s.data.toList[i]? = some c then i + 1 else i) ∧ But b w w' := by
  obtain ⟨c0, c1, f1⟩ := h.cells
  have hp := Tryz.strings_HasPrefix (s.extract i s.size) ⟨#[c]⟩
  have hd : (s.extract i s.size).data.toList = s.data.toList.drop i := by rw [Lib.extract_from]
  have hd2 : (⟨#[c]⟩ : ByteArray).data.toList = [c] := rfl
  rw [hd, hd2, prefix_one] at hp
  obtain ⟨R, hR⟩ : ∃ R, s.extract i s.size = R := ⟨_, rfl⟩
  rw [hR] at hp
  have HS := Lib.hid h
  by_cases hc : s.data.toList[i]? = some c
  · rw [decide_eq_true hc] at hp ⊢
    rw [if_pos hc]
    have HP := Lib.hid hp
    clear hp hd hd2 hc h
    go_enter Tryz.func31, Tryz.ntmps31
    go_wp2_with fail
    go_quiet ((go_at_call 47; exact Calls.quiet_of_same (HP.out _)))
    go_wp2_with fail
    go_ret
    exact ⟨rfl, (HS.out.move (w := w.drewN nq) (i + 1) _ (by omega)).1, but_trans (grown_drew' b w nq) (HS.out.move (w := w.drewN nq) (i + 1) _ (by omega)).2⟩
  · rw [decide_eq_false hc] at hp ⊢
    rw [if_neg hc]
    have HP := Lib.hid hp
    clear hp hd hd2 hc h
    go_enter Tryz.func31, Tryz.ntmps31
    go_wp2_with fail
    go_quiet ((go_at_call 47; exact Calls.quiet_of_same (HP.out _)))
    go_wp2_with fail
    go_ret
    exact ⟨rfl, HS.out.keep rfl, grown_drew' b w nq⟩
set_option maxHeartbeats 1000000 in
theorem expect_ok {w : World} {b : Nat} {s : ByteArray} {i : Nat} (hs : s.size ≤ 1000000) (h : Scan w b s i) (hi : i ≤ s.size) (c : UInt8) (hc : s.data.toList[i]? = some c) :
    Calls Tryz.prog 30 #[.pointer (some ⟨b, 0, none⟩), .string ⟨#[c]⟩] w fun e w' => e = .returned (.tuple #[]) ∧ Scan w' b s (i + 1) ∧ But b w w' := by
  have hk := skip_any hs h hi c
  rw [if_pos hc, decide_eq_true hc] at hk
  have HK := Lib.hid hk
  clear hk hc h
  go_enter Tryz.func30, Tryz.ntmps30
  go_wp2_with fail
  refine HK.out.mono ?_
  rintro e w1 ⟨rfl, hsc, hb⟩
  have HB := Lib.hid (And.intro hsc hb)
  clear hsc hb
  go_wp2_with fail
  go_end0
  exact ⟨rfl, HB.out.1, HB.out.2⟩
set_option maxHeartbeats 1000000 in
theorem expect_no {w : World} {b : Nat} {s : ByteArray} {i : Nat} (hs : s.size ≤ 1000000) (h : Scan w b s i) (hi : i ≤ s.size) (c : UInt8) (hc : ¬ s.data.toList[i]? = some c) :
    Calls Tryz.prog 30 #[.pointer (some ⟨b, 0, none⟩), .string ⟨#[c]⟩] w fun e w' => e = failE i 3 ∧ But b w w' := by
  have hk := skip_any hs h hi c
  rw [if_neg hc, decide_eq_false hc] at hk
  have HK := Lib.hid hk
  clear hk hc h
  go_enter Tryz.func30, Tryz.ntmps30
  go_wp2_with fail
  refine HK.out.mono ?_
  rintro e w1 ⟨rfl, hsc, hb⟩
  obtain ⟨c0, c1, f1⟩ := hsc.cells
  have HB := Lib.hid hb
  have HF := Lib.hid (fail_any b i 3 w1)
  clear hsc hb
  go_wp2_with fail
  refine HF.out.mono ?_
  rintro e w2 ⟨rfl, rfl⟩
  unfold failE
  go_wp2_with fail
  exact ⟨rfl, rfl, HB.out⟩
/-- How many spaces stand at place i. -/
def spN (L : Bs) (i : Nat) : Nat := ((L.drop i).takeWhile (· == 32)).length
theorem spN_trim (L : Bs) (i : Nat) : (trimLeftB (L.drop i) 32).length + spN L i = (L.drop i).length := by
  unfold trimLeftB spN
  have h := congrArg List.length (List.takeWhile_append_dropWhile (p := (· == (32 : UInt8))) (l := L.drop i))
  rw [List.length_append] at h
  omega
set_option maxHeartbeats 1000000 in
theorem spaces_any {w : World} {b : Nat} {s : ByteArray} {i : Nat} (hs : s.size ≤ 1000000) (h : Scan w b s i) (hi : i ≤ s.size) :
    Calls Tryz.prog 48 #[.pointer (some ⟨b, 0, none⟩)] w fun e w' => e = .returned (.bool (decide (0 < spN s.data.toList i))) ∧ Scan w' b s (i + spN s.data.toList i) ∧ But b w w' := by
  obtain ⟨c0, c1, f1⟩ := h.cells
  have hp := Tryz.strings_TrimLeft_one (s.extract i s.size) 32 (by decide)
  have hd : (s.extract i s.size).data.toList = s.data.toList.drop i := by rw [Lib.extract_from]
  rw [hd] at hp
  have hsp := spN_trim s.data.toList i
  rw [List.length_drop, ← Lib.size_eq] at hsp
  obtain ⟨R, hR⟩ : ∃ R, s.extract i s.size = R := ⟨_, rfl⟩
  have hRs : R.size = s.size - i := by rw [← hR, Lib.extract_from, Lib.size_mk, List.length_drop, ← Lib.size_eq]
  obtain ⟨T, hT⟩ : ∃ T : ByteArray, (⟨(trimLeftB (s.data.toList.drop i) 32).toArray⟩ : ByteArray) = T := ⟨_, rfl⟩
  have hTs : T.size = (trimLeftB (s.data.toList.drop i) 32).length := by rw [← hT, Lib.size_mk]
  rw [← hTs] at hsp
  rw [hR, hT] at hp
  obtain ⟨n, hn⟩ : ∃ n, spN s.data.toList i = n := ⟨_, rfl⟩
  rw [hn] at hsp ⊢
  have HS := Lib.hid h
  have HP := Lib.hid hp
  have e1 : (R.size : Int) - (T.size : Int) = (n : Int) := by omega
  have hw1 : IntKind.i64.wrap (n : Int) = (n : Int) := by rw [IntKind.wrap_i64]; omega
  have hin : i + n ≤ s.size := by omega
  clear hp hd h hT hTs hn hRs hsp
  go_enter Tryz.func48, Tryz.ntmps48
  go_wp2_with fail
  go_quiet (fail)
  go_wp2_with fail
  refine (HP.out _).mono ?_
  rintro e w1 ⟨rfl, rfl⟩
  go_wp2_with fail
  go_ret
  exact ⟨rfl, (HS.out.move (w := w.drewN nq) (i + n) _ (by omega)).1, but_trans (grown_drew' b w nq) (HS.out.move (w := w.drewN nq) (i + n) _ (by omega)).2⟩

theorem extract_mid (s : ByteArray) (i n : Nat) : s.extract i (i + n) = ⟨((s.data.toList.drop i).take n).toArray⟩ := by
  rw [Lib.extract_eq]
  congr 3
  omega
/-- Facts on the name at place i, for the walks. -/
theorem name_facts (s : ByteArray) (hs : s.size ≤ 1000000) (i : Nat) (hi : i ≤ s.size) :
    ∃ R : ByteArray, s.extract i s.size = R ∧ (∀ w, Calls Tryz.prog 38 #[.string R] w fun e w' => e = .returned (.int .i64 (nameN (s.data.toList.drop i) : Nat)) ∧ w' = w) ∧ i + nameN (s.data.toList.drop i) ≤ s.size := by
  have hd : (s.extract i s.size).data.toList = s.data.toList.drop i := by rw [Lib.extract_from]
  have hl := nameN_le (s.data.toList.drop i)
  rw [List.length_drop, ← Lib.size_eq] at hl
  refine ⟨_, rfl, fun w => ?_, by omega⟩
  rw [← hd]
  exact nameLength_any _ (by rw [Lib.size_eq, hd, List.length_drop, ← Lib.size_eq]; unfold maxLen; omega) w
set_option maxHeartbeats 1000000 in
theorem name_ok {w : World} {b : Nat} {s : ByteArray} {i : Nat} (hs : s.size ≤ 1000000) (h : Scan w b s i) (hi : i ≤ s.size) (n : Nat) (hn : nameN (s.data.toList.drop i) = n) (h0 : n ≠ 0) (h32 : n ≤ 32) :
    Calls Tryz.prog 32 #[.pointer (some ⟨b, 0, none⟩)] w fun e w' => e = .returned (.string ⟨((s.data.toList.drop i).take n).toArray⟩) ∧ Scan w' b s (i + n) ∧ But b w w' := by
  obtain ⟨c0, c1, f1⟩ := h.cells
  obtain ⟨R, hR, hN, hin⟩ := name_facts s hs i hi
  rw [hn] at hN hin
  have hex := extract_mid s i n
  obtain ⟨T, hT⟩ : ∃ T : ByteArray, (⟨((s.data.toList.drop i).take n).toArray⟩ : ByteArray) = T := ⟨_, rfl⟩
  rw [hT] at hex ⊢
  have HS := Lib.hid h
  have HN := Lib.hid hN
  have hn0 : ((n : Int) == 0) = false := by simp; omega
  clear h hN hT hn
  go_enter Tryz.func32, Tryz.ntmps32
  go_wp2_with fail
  refine (HN.out _).mono ?_
  rintro e w1 ⟨rfl, rfl⟩
  go_wp2_with fail
  have hm := HS.out.move (i + n) ((i : Int) + (n : Int)) (by omega)
  clear c0 c1 f1
  generalize (w1.setCell ⟨b, 1, none⟩ (.int .i64 ((i : Int) + (n : Int)))) = W2 at hm ⊢
  obtain ⟨d0, d1, _⟩ := hm.1.cells
  have HM := Lib.hid hm
  clear hm
  go_quiet (fail)
  go_wp2_with fail
  go_ret
  exact ⟨by rw [← hex]; rfl, HM.out.1.keep rfl, but_trans HM.out.2 (grown_drew' b W2 nq)⟩
set_option maxHeartbeats 1000000 in
theorem name_none {w : World} {b : Nat} {s : ByteArray} {i : Nat} (hs : s.size ≤ 1000000) (h : Scan w b s i) (hi : i ≤ s.size) (hn : nameN (s.data.toList.drop i) = 0) :
    Calls Tryz.prog 32 #[.pointer (some ⟨b, 0, none⟩)] w fun e w' => e = failE i 3 ∧ But b w w' := by
  obtain ⟨c0, c1, f1⟩ := h.cells
  obtain ⟨R, hR, hN, hin⟩ := name_facts s hs i hi
  rw [hn] at hN
  have HN := Lib.hid hN
  have HF := Lib.hid (fail_any b i 3 w)
  clear h hN hn
  go_enter Tryz.func32, Tryz.ntmps32
  go_wp2_with fail
  refine (HN.out _).mono ?_
  rintro e w1 ⟨rfl, rfl⟩
  go_wp2_with fail
  refine HF.out.mono ?_
  rintro e w2 ⟨rfl, rfl⟩
  unfold failE
  go_wp2_with fail
  exact ⟨rfl, rfl, but_refl _ _⟩
set_option maxHeartbeats 1000000 in
theorem name_long {w : World} {b : Nat} {s : ByteArray} {i : Nat} (hs : s.size ≤ 1000000) (h : Scan w b s i) (hi : i ≤ s.size) (n : Nat) (hn : nameN (s.data.toList.drop i) = n) (h32 : 32 < n) :
    Calls Tryz.prog 32 #[.pointer (some ⟨b, 0, none⟩)] w fun e w' => e = failE i 2 ∧ But b w w' := by
  obtain ⟨c0, c1, f1⟩ := h.cells
  obtain ⟨R, hR, hN, hin⟩ := name_facts s hs i hi
  rw [hn] at hN hin
  have HN := Lib.hid hN
  have HF := Lib.hid (fail_any b i 2 w)
  have hn0 : ((n : Int) == 0) = false := by simp; omega
  clear h hN hn
  go_enter Tryz.func32, Tryz.ntmps32
  go_wp2_with fail
  refine (HN.out _).mono ?_
  rintro e w1 ⟨rfl, rfl⟩
  go_wp2_with fail
  refine HF.out.mono ?_
  rintro e w2 ⟨rfl, rfl⟩
  unfold failE
  go_wp2_with fail
  exact ⟨rfl, rfl, but_refl _ _⟩
end Go.Proofs.YtjablaidbccnbaaGreatDoor
