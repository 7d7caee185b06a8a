/-
  DependValid is proved: for every string and every number the call of the law returns true, and each argument reads afterwards as it read before. The package-level variables that the row lists hold what the program's text lays in them: this is tied to the text.
-/
import Derived.Test.YtdhnaiikhdabmaaDoorRows
import Derived.Test.YtdhnaiikhdabmaaDoorCards
import Derived.Test.YtdhnaiikhdabmaaDoorTie
import Derived.Test.YtdhnaiikhdabmaaDoorDcL
import Derived.Test.YtdhnaiikhdabmaaDoorDcG
import Derived.ProofKit
import Derived.OpenShut
import Derived.Carry
import Derived.SevenTiedAt
import Derived.LaidMore
import Derived.Stop.Joined
namespace Go.Proofs.YtdhnaiikhdabmaaDoor.dependValid
open Go.ChangeShapes Go.WideShapes Go.ChangeAt Go.RowKit Go.Shelf Go.Lib
set_option linter.unusedVariables false

set_option maxRecDepth 100000 in
set_option maxHeartbeats 8000000 in
theorem walk (s : ByteArray) (hs : s.size ≤ maxLen) (T : Int) (_ : -9223372036854775808 ≤ T) (_ : T ≤ 9223372036854775807) {w : World} (hE : ErrAt w) :
    Calls Tryd.prog 10 #[.string s, .int .i64 T] w fun e w1 => e = .returned (.bool true) ∧ Below w.heap.size w w1 := by
  have HP := Lib.hid (parse_any hE s T)
  have HA := Lib.hid (fun (W : World) (hb : Below w.heap.size w W) => awake_any (w := W) (ErrAt.same hE (hb.block _ hE.lt)))
  unfold maxLen at hs
  clear hE
  by_cases c1 : 1500 < s.size
  · clear HP
    have c1' : (s.size : Int) > 1500 := by omega
    go_enter Tryd.func10, Tryd.ntmps10
    go_wp2_with fail
    go_ret
    exact ⟨rfl, Below.refl _ _⟩
  have c1' : ¬ (s.size : Int) > 1500 := by omega
  by_cases c2 : T < 0
  · clear HP
    go_enter Tryd.func10, Tryd.ntmps10
    go_wp2_with fail
    go_ret
    exact ⟨rfl, Below.refl _ _⟩
  by_cases c3 : 300 < T
  · have c3' : T > 300 := c3
    clear HP
    go_enter Tryd.func10, Tryd.ntmps10
    go_wp2_with fail
    go_ret
    exact ⟨rfl, Below.refl _ _⟩
  obtain ⟨t, rfl⟩ : ∃ t : Nat, T = (t : Int) := ⟨T.toNat, by omega⟩
  have c2' : ¬ (t : Int) < 0 := c2
  have c3' : ¬ (t : Int) > 300 := c3
  by_cases hz : (textE t s.data.toList).2 = 0
  · obtain ⟨h1, h2, h3⟩ := textE_ok t s.data.toList hz
    have hpe : parseH s (t : Int) = ((0, 0), 0, (rd t (linesL s.data.toList)).hs, (rd t (linesL s.data.toList)).rs) := by
      unfold parseH
      rw [if_neg (by omega), if_neg (by omega), Int.toNat_natCast, if_pos hz]
    rw [hpe] at HP
    obtain ⟨hh, hhe⟩ : ∃ l, (rd t (linesL s.data.toList)).hs = l := ⟨_, rfl⟩
    obtain ⟨rr, hre⟩ : ∃ l, (rd t (linesL s.data.toList)).rs = l := ⟨_, rfl⟩
    rw [hhe] at HP h1 h3
    rw [hre] at HP h2
    obtain ⟨⟨r1, r2⟩, hck⟩ : ∃ r, checkH hh = r := ⟨_, rfl⟩
    rw [hck] at h3
    obtain rfl : r2 = 0 := h3
    have HCK := Lib.hid hck
    have H12 := Lib.hid (And.intro h1 h2)
    clear hz hpe hhe hre h1 h2 hck
    go_enter Tryd.func10, Tryd.ntmps10
    go_wp2_with fail
    refine HP.out.mono ?_
    rintro e w1 ⟨⟨vh, vr, rfl, oh, orr, -⟩, hb1⟩
    simp only at oh orr
    rw [H12.out.1] at oh
    rw [H12.out.2] at orr
    obtain ⟨Ah, ch, rfl, -⟩ := own_form oh
    obtain ⟨Ar, cr, rfl, -⟩ := own_form orr
    have HB1 := Lib.hid hb1
    have hrw : Rows 1 EInt w1 (.slice Ah t ch) hh := own_rows (base := w.heap.size) (by rw [H12.out.1]; exact oh)
    have HR := Lib.hid (fun W (hb : Below w1.heap.size w1 W) => check_any (hrw.below stays_int hb) (by rw [H12.out.1]; unfold maxLen; omega))
    rw [HCK.out] at HR
    clear hb1 oh orr hrw
    unfold posV
    go_wp2_with fail
    obtain ⟨w2, hw2⟩ : ∃ W, w1.alloc (.cells #[.int .i64 0, .int .i64 0] 36) = W := ⟨_, rfl⟩
    rw [hw2]
    have hp2 : w2.heap[w1.heap.size]? = some (.cells #[.int .i64 0, .int .i64 0] 36 (0, 0)) := by rw [← hw2]; exact block_new w1 _
    have hb2 : Below w1.heap.size w1 w2 := by rw [← hw2]; exact below_box w1 _
    have HB2 := Lib.hid (HB1.out.trans (hb2.mono HB1.out.size))
    have HP2 := Lib.hid hp2
    have HR2 := Lib.hid (HR.out w2 hb2)
    clear hw2 hp2 hb2
    refine HR2.out.mono ?_
    rintro e w3 ⟨rfl, hb3⟩
    have HB3 := Lib.hid (HB2.out.trans (hb3.mono HB2.out.size))
    have hp3 := block_below HP2.out hb3 (Array.getElem?_eq_some_iff.1 HP2.out).1
    have p0 := cell_of (i := 0) hp3 rfl
    have p1 := cell_of (i := 1) hp3 rfl
    have htt : ((t : Int) == (t : Int)) = true := by simp
    clear hb3 hp3 HR2 HR HP2
    go_wp2_with fail
    refine (HA.out w3 HB3.out).mono ?_
    rintro e w4 ⟨rfl, hb4⟩
    have HB4 := Lib.hid (HB3.out.trans (hb4.mono HB3.out.size))
    clear hb4
    go_wp2_with fail
    go_ret
    exact ⟨rfl, HB4.out⟩
  · have hrg := textE_range t s.data.toList
    rw [← Lib.size_eq] at hrg
    have hpe : parseH s (t : Int) = (posP (before s (textE t s.data.toList).1), (textE t s.data.toList).2, [], []) := by
      unfold parseH
      rw [if_neg (by omega), if_neg (by omega), Int.toNat_natCast, if_neg hz]
    rw [hpe] at HP
    obtain ⟨⟨e1, e2⟩, hte⟩ : ∃ r, textE t s.data.toList = r := ⟨_, rfl⟩
    rw [hte] at HP hrg hz
    simp only at HP hrg hz
    obtain ⟨E, rfl⟩ : ∃ n : Nat, e1 = (n : Int) := ⟨e1.toNat, by omega⟩
    obtain ⟨⟨q1, q2⟩, hq⟩ : ∃ r, posP (before s (E : Int)) = r := ⟨_, rfl⟩
    rw [hq] at HP
    obtain ⟨p1, hp1⟩ : ∃ p : Int, (q1 : Int) = p := ⟨_, rfl⟩
    obtain ⟨p2, hp2⟩ : ∃ p : Int, (q2 : Int) = p := ⟨_, rfl⟩
    have HPOS := Lib.hid (fun (at' : Int) (W : World) => position_any s (by omega) at' W)
    have HQ := Lib.hid (show ((posP (before s (E : Int))).1 : Int) = p1 ∧ ((posP (before s (E : Int))).2 : Int) = p2 by rw [hq]; exact ⟨hp1, hp2⟩)
    have hee : (e2 == 0) = false := by simp [hz]
    have hez : ¬ e2 = 0 := hz
    have HZ := Lib.hid hz
    have HEL := Lib.hid hrg
    unfold posV at HPOS
    clear hz hpe hte hq hrg
    go_enter Tryd.func10, Tryd.ntmps10
    go_wp2_with fail
    refine HP.out.mono ?_
    rintro e w1 ⟨⟨vh, vr, rfl, -, -, hnil⟩, hb1⟩
    obtain ⟨rfl, rfl⟩ := hnil HZ.out
    have HB1 := Lib.hid hb1
    clear hb1 hnil
    unfold posV
    simp only [hp1, hp2]
    clear hp1 hp2
    go_wp2_with fail
    obtain ⟨w2, hw2⟩ : ∃ W, w1.alloc (.cells #[.int .i64 p1, .int .i64 p2] 36) = W := ⟨_, rfl⟩
    rw [hw2]
    have hp3 : w2.heap[w1.heap.size]? = some (.cells #[.int .i64 p1, .int .i64 p2] 36 (0, 0)) := by rw [← hw2]; exact block_new w1 _
    have hb2 : Below w1.heap.size w1 w2 := by rw [← hw2]; exact below_box w1 _
    have HB2 := Lib.hid (HB1.out.trans (hb2.mono HB1.out.size))
    obtain ⟨P, hP⟩ : ∃ P, w1.heap.size = P := ⟨_, rfl⟩
    rw [hP] at hp3 ⊢
    have HP3 := Lib.hid hp3
    clear hw2 hp3 hb2 hP HP
    go_loopw [11] (fun kv wr => ∃ k : Nat, k ≤ E ∧ kv = .int .i64 k ∧ Hid (wr.heap[P]? = some (.cells #[.int .i64 p1, .int .i64 p2] 36 (0, 0))) ∧ Hid (Below w.heap.size w wr)) (fun kv _ => E + 1 - (Go.RowKit.intOf kv).toNat)
    case atStart => exact ⟨0, Nat.zero_le _, rfl, HP3, HB2⟩
    case round =>
      clear HP3 HB2
      obtain ⟨k, hk, rfl, HPB, HB⟩ := hrel
      have hks : (k : Int) ≤ (s.size : Int) := by have := HEL.out; omega
      have HPS := Lib.hid (HPOS.out (k : Int))
      obtain ⟨a1, ha1⟩ : ∃ a : Int, ((posP (before s (k : Int))).1 : Int) = a := ⟨_, rfl⟩
      obtain ⟨a2, ha2⟩ : ∃ a : Int, ((posP (before s (k : Int))).2 : Int) = a := ⟨_, rfl⟩
      simp only [ha1, ha2] at HPS
      have HKE := Lib.hid (show k = E → a1 = p1 ∧ a2 = p2 from fun e => by subst e; rw [← ha1, ← ha2]; exact HQ.out)
      have HKP := Lib.hid (show wr.drew.cell? ⟨P, 0, none⟩ = some (.int .i64 p1) ∧ wr.drew.cell? ⟨P, 1, none⟩ = some (.int .i64 p2) from ⟨cell_of (W := wr) HPB.out rfl, cell_of (W := wr) HPB.out rfl⟩)
      have HKF := Lib.hid (fun (w5 : World) (hb : Below wr.drew.heap.size wr.drew w5) => show w5.cell? ⟨P, 0, none⟩ = some (.int .i64 p1) ∧ w5.cell? ⟨P, 1, none⟩ = some (.int .i64 p2) from ⟨cell_of (block_below (W := wr.drew) HPB.out hb (Array.getElem?_eq_some_iff.1 HPB.out).1) rfl, cell_of (block_below (W := wr.drew) HPB.out hb (Array.getElem?_eq_some_iff.1 HPB.out).1) rfl⟩)
      have c0 := HKP.out.1
      have c1 := HKP.out.2
      clear ha1 ha2
      by_cases e1 : a1 = p1
      · by_cases e2 : a2 = p2
        · replace e1 := e1.symm
          replace e2 := e2.symm
          subst e1
          subst e2
          clear HKE
          go_wp2_with fail
          refine wp_region_held_drew (S := (fun w' => w'.cell? ⟨P, 0, none⟩ = some (.int .i64 p1) ∧ w'.cell? ⟨P, 1, none⟩ = some (.int .i64 p2))) (by kernel_rfl) ?_ (fun hHeld => ?_)
          · (try dsimp only); exact HKP.out
          refine wpAnyH_take (i := 0) (oi := ?oi1) (v := ?v1) ?hi1 (by kernel_rfl) (by kernel_rfl) (by kernel_rfl) ?hq1 ?hy1 (by assumption) ?hr1
          case hi1 => (simp only [List.getElem?_toArray, List.getElem?_cons_zero]; rfl)
          case hq1 => exact fun _ _ _ h => h
          case hy1 => exact Or.inl ⟨by rfl, by intro whSw hSw'; (try dsimp only at hSw'); (first | (go_simp; done) | (go_simp; with_reducible rfl))⟩
          try simp only [Act.put, List.setIfInBounds_toArray, List.set_cons_zero, List.set_cons_succ]
          refine wpAnyH_take (i := 1) (oi := ?oi2) (v := ?v2) ?hi2 (by kernel_rfl) (by kernel_rfl) (by kernel_rfl) ?hq2 ?hy2 (by assumption) ?hr2
          case hi2 => (simp only [List.getElem?_toArray, List.getElem?_cons_succ, List.getElem?_cons_zero]; rfl)
          case hq2 => exact fun _ _ _ h => h
          case hy2 => exact Or.inl ⟨by rfl, by intro whSw hSw'; (try dsimp only at hSw'); (first | (go_simp; done) | (go_simp; with_reducible rfl))⟩
          try simp only [Act.put, List.setIfInBounds_toArray, List.set_cons_zero, List.set_cons_succ]
          refine wpAnyH_take (i := 3) (oi := ?oi3) (v := ?v3) ?hi3 (by kernel_rfl) (by kernel_rfl) (by kernel_rfl) ?hq3 ?hy3 (by assumption) ?hr3
          case hi3 => (simp only [List.getElem?_toArray, List.getElem?_cons_succ, List.getElem?_cons_zero]; rfl)
          case hq3 => exact fun _ _ _ h => h
          case hy3 => exact Or.inl ⟨by rfl, by intro whSw hSw'; (try dsimp only at hSw'); (first | (go_simp; done) | (go_simp; with_reducible rfl))⟩
          try simp only [Act.put, List.setIfInBounds_toArray, List.set_cons_zero, List.set_cons_succ]
          refine wpAnyH_ready (rs := [2]) (by kernel_rfl) (by simp) ?_
          refine AllReadyH.cons (o := ?oo4) ?hi4 (fun K hK => ?hs4) ?hm4
          case hi4 => (simp only [List.getElem?_toArray, List.getElem?_cons_succ, List.getElem?_cons_zero]; rfl)
          go_simp
          (refine (HPS.out _).mono ?_); rintro e w5 ⟨rfl, hb5⟩; have HB5 := Lib.hid hb5; have HKQ := Lib.hid (HKF.out w5 hb5); clear hb5
          (try go_wp2_with fail)
          refine hK.out _ _ ?_ (fun hHeld => ?_)
          · (try dsimp only); (first | (with_reducible exact HKQ.out) | (exact HKQ.out) | (exact HKP.out) | go_keep | fail)
          clear hK K
          try simp only [Act.put, List.setIfInBounds_toArray, List.set_cons_zero, List.set_cons_succ]
          refine wpAnyH_take (i := 4) (oi := ?oi5) (v := ?v5) ?hi5 (by kernel_rfl) (by kernel_rfl) (by kernel_rfl) ?hq5 ?hy5 (by assumption) ?hr5
          case hi5 => (simp only [List.getElem?_toArray, List.getElem?_cons_succ, List.getElem?_cons_zero]; rfl)
          case hq5 => exact fun _ _ _ h => h
          case hy5 => exact Or.inl ⟨by rfl, by intro whSw hSw'; (try dsimp only at hSw'); (first | (go_simp; done) | (go_simp; with_reducible rfl))⟩
          try simp only [Act.put, List.setIfInBounds_toArray, List.set_cons_zero, List.set_cons_succ]
          refine wpAnyH_done (by kernel_rfl) ?_ _
          rotate_left
          exact AllReadyH.nil
          all_goals
            have hb6 : Below wr.heap.size wr w5 := (Below.refl _ wr).drew.trans HB5.out
            have HB6 := Lib.hid (HB.out.trans (hb6.mono HB.out.size))
            have HP6 := Lib.hid (block_below HPB.out hb6 (Array.getElem?_eq_some_iff.1 HPB.out).1)
            clear hb6
            go_wp2_with fail
            refine (HA.out _ HB6.out).mono ?_
            rintro e w7 ⟨rfl, hb7⟩
            have HB7 := Lib.hid (HB6.out.trans (hb7.mono HB6.out.size))
            clear hb7
            go_wp2_with fail
            go_ret
            exact ⟨rfl, HB7.out⟩
        · have HKN := Lib.hid (show k + 1 ≤ E by
            rcases Nat.lt_or_ge k E with h | h
            · omega
            · exact absurd (HKE.out (by omega)).2 e2)
          replace e1 := e1.symm
          subst e1
          clear HKE
          go_wp2_with fail
          refine wp_region_held_drew (S := (fun w' => w'.cell? ⟨P, 0, none⟩ = some (.int .i64 p1) ∧ w'.cell? ⟨P, 1, none⟩ = some (.int .i64 p2))) (by kernel_rfl) ?_ (fun hHeld => ?_)
          · (try dsimp only); exact HKP.out
          refine wpAnyH_take (i := 0) (oi := ?oi1001) (v := ?v1001) ?hi1001 (by kernel_rfl) (by kernel_rfl) (by kernel_rfl) ?hq1001 ?hy1001 (by assumption) ?hr1001
          case hi1001 => (simp only [List.getElem?_toArray, List.getElem?_cons_zero]; rfl)
          case hq1001 => exact fun _ _ _ h => h
          case hy1001 => exact Or.inl ⟨by rfl, by intro whSw hSw'; (try dsimp only at hSw'); (first | (go_simp; done) | (go_simp; with_reducible rfl))⟩
          try simp only [Act.put, List.setIfInBounds_toArray, List.set_cons_zero, List.set_cons_succ]
          refine wpAnyH_take (i := 1) (oi := ?oi1002) (v := ?v1002) ?hi1002 (by kernel_rfl) (by kernel_rfl) (by kernel_rfl) ?hq1002 ?hy1002 (by assumption) ?hr1002
          case hi1002 => (simp only [List.getElem?_toArray, List.getElem?_cons_succ, List.getElem?_cons_zero]; rfl)
          case hq1002 => exact fun _ _ _ h => h
          case hy1002 => exact Or.inl ⟨by rfl, by intro whSw hSw'; (try dsimp only at hSw'); (first | (go_simp; done) | (go_simp; with_reducible rfl))⟩
          try simp only [Act.put, List.setIfInBounds_toArray, List.set_cons_zero, List.set_cons_succ]
          refine wpAnyH_take (i := 3) (oi := ?oi1003) (v := ?v1003) ?hi1003 (by kernel_rfl) (by kernel_rfl) (by kernel_rfl) ?hq1003 ?hy1003 (by assumption) ?hr1003
          case hi1003 => (simp only [List.getElem?_toArray, List.getElem?_cons_succ, List.getElem?_cons_zero]; rfl)
          case hq1003 => exact fun _ _ _ h => h
          case hy1003 => exact Or.inl ⟨by rfl, by intro whSw hSw'; (try dsimp only at hSw'); (first | (go_simp; done) | (go_simp; with_reducible rfl))⟩
          try simp only [Act.put, List.setIfInBounds_toArray, List.set_cons_zero, List.set_cons_succ]
          refine wpAnyH_ready (rs := [2]) (by kernel_rfl) (by simp) ?_
          refine AllReadyH.cons (o := ?oo1004) ?hi1004 (fun K hK => ?hs1004) ?hm1004
          case hi1004 => (simp only [List.getElem?_toArray, List.getElem?_cons_succ, List.getElem?_cons_zero]; rfl)
          go_simp
          (refine (HPS.out _).mono ?_); rintro e w5 ⟨rfl, hb5⟩; have HB5 := Lib.hid hb5; have HKQ := Lib.hid (HKF.out w5 hb5); clear hb5
          (try go_wp2_with fail)
          refine hK.out _ _ ?_ (fun hHeld => ?_)
          · (try dsimp only); (first | (with_reducible exact HKQ.out) | (exact HKQ.out) | (exact HKP.out) | go_keep | fail)
          clear hK K
          try simp only [Act.put, List.setIfInBounds_toArray, List.set_cons_zero, List.set_cons_succ]
          refine wpAnyH_take (i := 4) (oi := ?oi1005) (v := ?v1005) ?hi1005 (by kernel_rfl) (by kernel_rfl) (by kernel_rfl) ?hq1005 ?hy1005 (by assumption) ?hr1005
          case hi1005 => (simp only [List.getElem?_toArray, List.getElem?_cons_succ, List.getElem?_cons_zero]; rfl)
          case hq1005 => exact fun _ _ _ h => h
          case hy1005 => exact Or.inl ⟨by rfl, by intro whSw hSw'; (try dsimp only at hSw'); (first | (go_simp; done) | (go_simp; with_reducible rfl))⟩
          try simp only [Act.put, List.setIfInBounds_toArray, List.set_cons_zero, List.set_cons_succ]
          refine wpAnyH_done (by kernel_rfl) ?_ _
          rotate_left
          exact AllReadyH.nil
          all_goals
            have hb6 : Below wr.heap.size wr w5 := (Below.refl _ wr).drew.trans HB5.out
            have HB6 := Lib.hid (HB.out.trans (hb6.mono HB.out.size))
            have HP6 := Lib.hid (block_below HPB.out hb6 (Array.getElem?_eq_some_iff.1 HPB.out).1)
            clear hb6
            go_wp2_with fail
            exact ⟨⟨k + 1, HKN.out, by go_num, HP6, HB6⟩, by simp only [Go.RowKit.intOf]; have := HKN.out; omega⟩
      · have HKN := Lib.hid (show k + 1 ≤ E by
          rcases Nat.lt_or_ge k E with h | h
          · omega
          · exact absurd (HKE.out (by omega)).1 e1)
        clear HKE
        go_wp2_with fail
        refine wp_region_held_drew (S := (fun w' => w'.cell? ⟨P, 0, none⟩ = some (.int .i64 p1) ∧ w'.cell? ⟨P, 1, none⟩ = some (.int .i64 p2))) (by kernel_rfl) ?_ (fun hHeld => ?_)
        · (try dsimp only); exact HKP.out
        refine wpAnyH_take (i := 0) (oi := ?oi2001) (v := ?v2001) ?hi2001 (by kernel_rfl) (by kernel_rfl) (by kernel_rfl) ?hq2001 ?hy2001 (by assumption) ?hr2001
        case hi2001 => (simp only [List.getElem?_toArray, List.getElem?_cons_zero]; rfl)
        case hq2001 => exact fun _ _ _ h => h
        case hy2001 => exact Or.inl ⟨by rfl, by intro whSw hSw'; (try dsimp only at hSw'); (first | (go_simp; done) | (go_simp; with_reducible rfl))⟩
        try simp only [Act.put, List.setIfInBounds_toArray, List.set_cons_zero, List.set_cons_succ]
        refine wpAnyH_take (i := 1) (oi := ?oi2002) (v := ?v2002) ?hi2002 (by kernel_rfl) (by kernel_rfl) (by kernel_rfl) ?hq2002 ?hy2002 (by assumption) ?hr2002
        case hi2002 => (simp only [List.getElem?_toArray, List.getElem?_cons_succ, List.getElem?_cons_zero]; rfl)
        case hq2002 => exact fun _ _ _ h => h
        case hy2002 => exact Or.inl ⟨by rfl, by intro whSw hSw'; (try dsimp only at hSw'); (first | (go_simp; done) | (go_simp; with_reducible rfl))⟩
        try simp only [Act.put, List.setIfInBounds_toArray, List.set_cons_zero, List.set_cons_succ]
        refine wpAnyH_take (i := 3) (oi := ?oi2003) (v := ?v2003) ?hi2003 (by kernel_rfl) (by kernel_rfl) (by kernel_rfl) ?hq2003 ?hy2003 (by assumption) ?hr2003
        case hi2003 => (simp only [List.getElem?_toArray, List.getElem?_cons_succ, List.getElem?_cons_zero]; rfl)
        case hq2003 => exact fun _ _ _ h => h
        case hy2003 => exact Or.inl ⟨by rfl, by intro whSw hSw'; (try dsimp only at hSw'); (first | (go_simp; done) | (go_simp; with_reducible rfl))⟩
        try simp only [Act.put, List.setIfInBounds_toArray, List.set_cons_zero, List.set_cons_succ]
        refine wpAnyH_ready (rs := [2]) (by kernel_rfl) (by simp) ?_
        refine AllReadyH.cons (o := ?oo2004) ?hi2004 (fun K hK => ?hs2004) ?hm2004
        case hi2004 => (simp only [List.getElem?_toArray, List.getElem?_cons_succ, List.getElem?_cons_zero]; rfl)
        go_simp
        (refine (HPS.out _).mono ?_); rintro e w5 ⟨rfl, hb5⟩; have HB5 := Lib.hid hb5; have HKQ := Lib.hid (HKF.out w5 hb5); clear hb5
        (try go_wp2_with fail)
        refine hK.out _ _ ?_ (fun hHeld => ?_)
        · (try dsimp only); (first | (with_reducible exact HKQ.out) | (exact HKQ.out) | (exact HKP.out) | go_keep | fail)
        clear hK K
        try simp only [Act.put, List.setIfInBounds_toArray, List.set_cons_zero, List.set_cons_succ]
        refine wpAnyH_take (i := 4) (oi := ?oi2005) (v := ?v2005) ?hi2005 (by kernel_rfl) (by kernel_rfl) (by kernel_rfl) ?hq2005 ?hy2005 (by assumption) ?hr2005
        case hi2005 => (simp only [List.getElem?_toArray, List.getElem?_cons_succ, List.getElem?_cons_zero]; rfl)
        case hq2005 => exact fun _ _ _ h => h
        case hy2005 => exact Or.inl ⟨by rfl, by intro whSw hSw'; (try dsimp only at hSw'); (first | (go_simp; done) | (go_simp; with_reducible rfl))⟩
        try simp only [Act.put, List.setIfInBounds_toArray, List.set_cons_zero, List.set_cons_succ]
        refine wpAnyH_done (by kernel_rfl) ?_ _
        rotate_left
        exact AllReadyH.nil
        all_goals
          have hb6 : Below wr.heap.size wr w5 := (Below.refl _ wr).drew.trans HB5.out
          have HB6 := Lib.hid (HB.out.trans (hb6.mono HB.out.size))
          have HP6 := Lib.hid (block_below HPB.out hb6 (Array.getElem?_eq_some_iff.1 HPB.out).1)
          clear hb6
          go_wp2_with fail
          exact ⟨⟨k + 1, HKN.out, by go_num, HP6, HB6⟩, by simp only [Go.RowKit.intOf]; have := HKN.out; omega⟩

theorem own : ownKnob Tryd.prog.godebug = none := by kernel_rfl

set_option maxRecDepth 100000 in
theorem lifted (os : Os) (started : os.Started) (H : Type) (enc : TypeId × Value → H) :
    ReturnsInHanded {} Tryd.checked os 10 .any (fun w args => (Rows.dependValidSpec.pre enc Tryd.prog Tryd.f10 [] false w args ∧ laidMetH Tryd.prog Rows.dependValidRow.laid w) ∧ sizedMet enc Tryd.prog Tryd.f10 (OpenSpec.ofChange Rows.dependValidSpec) false w args)
      (Rows.dependValidSpec.post enc Tryd.prog Tryd.f10 false true false false) := by
  refine returnsInHanded_of_change_and (C := Tryd.checked) (X := fun w _ => laidMetH Tryd.prog Rows.dependValidRow.laid w) (fun _ _ _ hh h => h.of_heap hh) own started (by kernel_rfl) Tryd.func10
    (ChangeSpec.witness_shaped (enc := enc) (C := Tryd.checked) (os := os) (X := fun w _ => laidMetH Tryd.prog Rows.dependValidRow.laid w) false (World.laidAll Tryd.prog os laidAll) #[.string ⟨#[]⟩, .int .i64 0] 8 (World.laidAll_os _ _ _) (all_shaped os) (by kernel_rfl) (by kernel_rfl) (by kernel_rfl) (all_met os _)) ?_
  intro W base args ds gs before hval0 hW _ _ hL _
  have hval : ∀ (j : Nat) t v, Tryd.f10.params[j]? = some t → args[j]? = some v → Value.okWide Tryd.prog W .any base t v := hval0
  have hW' := hW
  have hplt : ∀ x ∈ before, x.block < W.heap.size := fun x hx => hW.lt x hx
  obtain ⟨p, q, hA0, hV, rfl, hfz, hnd⟩ := hW
  have hA : DataW.TrodAll enc Tryd.prog W 0 (fun _ => true) true Tryd.f10.params.toList args.toList ds p := hA0
  rw [Tryd.params10] at hA hval
  obtain ⟨v0, vs0, d0, ds0, p0, q0, hargs, rfl, rfl, h0, r0⟩ := trodAll_cons hA
  obtain ⟨v1, vs1, d1, ds1, p1, q1, rfl, rfl, rfl, h1, r1⟩ := trodAll_cons r0
  obtain ⟨rfl, rfl, rfl⟩ := trodAll_nil r1
  obtain rfl : args = #[v0, v1] := by cases args; simp_all
  obtain ⟨rfl, rfl⟩ := trodVars_none hV
  obtain ⟨a0, rfl, m0⟩ := open_str (hval 0 9 v0 rfl rfl) h0
  obtain ⟨x1, rfl, m1, n1⟩ := open_i64 (hval 1 3 v1 rfl rfl) h1
  clear hA0 hval0
  refine (walk a0 m0 x1 m1 n1 (err_of_laid hL)).mono fun e W' ⟨he, bel⟩ => ?_
  subst he
  exact ⟨_, rfl, _, _, _, [], _, [], hW', trodAll_mk1 (shut_bool Tryd.underlying4 _), (trodAll_cons_mk (Below.trod Tryd.laidOut (by kernel_rfl) (of_decide_eq_true (by kernel_rfl)) h0 bel (fun x hx => hplt x (by simp [hx]))) (trodAll_cons_mk (Below.trod Tryd.laidOut (by kernel_rfl) (of_decide_eq_true (by kernel_rfl)) h1 bel (fun x hx => hplt x (by simp [hx]))) trodAll_mk0)), rfl, World.keptBut_mono (fun x hx => ⟨hx, Or.inr (by simpa using hx)⟩) (bel.frame (· ∈ _)), fun h => by cases h⟩

theorem over : Rows.dependValidRow.holds Tryd.pinned (OpenSpec.ofChange Rows.dependValidSpec) :=
  OpenClaim.holds_of_wide 10 Tryd.f10 rfl rfl rfl rfl rfl rfl rfl ⟨rfl, rfl, rfl, rfl, rfl⟩ rfl rfl rfl rfl rfl (by kernel_rfl) Tryd.func10 (by kernel_rfl)
    (of_decide_eq_true (by kernel_rfl)) (by unfold Func.isWrapper; first | (rw [if_pos (by decide +kernel)]; kernel_rfl) | (rw [if_neg (by decide +kernel)]; exact ⟨rfl, rfl⟩))
    (fun os started H enc _ => lifted os started H enc)

/-- THE STATEMENT: the tied card. -/
theorem proved : Rows.DependValidCardSaid :=
  Claim7.holds_tied_plain_at .later [] Rows.dependValidCard.laidKinds true Rows.dependValidCard.stood.harness Rows.dependValidCard.stood.looks
    over (fun _ h => by cases h) (by kernel_rfl) (fun _ h => by cases h) dependValid_row_tie rfl ⟨rfl, rfl⟩ (by kernel_rfl) rfl
    (fun f fn hf hfn => by
      obtain rfl : f = 10 := Option.some.inj ((show Tryd.prog.funcNamed "corpora/corporalaw09.DependValid" = some 10 by kernel_rfl).symm.trans hf) |>.symm
      obtain rfl : fn = Tryd.f10 := (Option.some.inj (Tryd.func10.symm.trans hfn)).symm
      exact ⟨by kernel_rfl, fun j t ht => by
        rw [Tryd.params10] at ht
        have hm : t ∈ [9, 3] := by simpa using Array.mem_of_getElem? ht
        have hall : ([9, 3].all fun u => !Tryd.prog.wantsStandIn u) = true := by kernel_rfl
        exact (show Tryd.prog.wantsStandIn t = false by simpa using List.all_eq_true.1 hall t hm)⟩)
    (by kernel_rfl)
end Go.Proofs.YtdhnaiikhdabmaaDoor.dependValid
