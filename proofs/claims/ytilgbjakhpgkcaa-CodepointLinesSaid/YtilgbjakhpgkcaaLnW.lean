/-
  THE WALK of CodepointLines: for every two strings and every offset the call returns true and leaves all that lay before as it was.
-/
import Derived.Test.YtilgbjakhpgkcaaLwA
import Derived.Test.YtilgbjakhpgkcaaLnM
namespace Go.Proofs.Ytilgbjakhpgkcaa
open Go.RowKit Go.Shelf Go.Lib

theorem lfs_snoc (l : List UInt8) (k : Nat) (h : k < l.length) : lfs (l.take (k + 1)) = lfs (l.take k) + if l[k] = 10 then 1 else 0 := by
  rw [List.take_succ_eq_append_getElem h]
  unfold lfs
  rw [List.filter_append, List.length_append]
  by_cases hb : l[k] = 10 <;> simp [hb]
theorem lfs_le (l : List UInt8) : lfs l ≤ l.length := List.length_filter_le _ _

set_option maxRecDepth 100000 in
set_option maxHeartbeats 1000000 in
/-- The strings are long, or the offset is not one of t's. -/
theorem lines_out (s t : ByteArray) (at' : Int) (hs : s.size ≤ maxLen) (ht : t.size ≤ maxLen) (w : World) (h : longB [s, t] = true ∨ at' < 0 ∨ (t.size : Int) < at') :
    Calls Try.prog 6 #[.string s, .string t, .int .i64 at'] w fun e w' => e = .returned (.bool true) ∧ Below w.heap.size w w' := by
  obtain ⟨b, hb⟩ : ∃ b, longB [s, t] = b := ⟨_, rfl⟩
  have hl := long_two s t hs ht w
  rw [hb] at hl h
  have HL := Lib.hid hl
  clear hl hb hs ht
  cases b
  · by_cases h1 : at' < 0
    · clear h
      go_enter Try.func6, Try.ntmps6
      go_wp2_with (go_at_call 13; refine HL.out.mono ?_; rintro e w1 ⟨rfl, rfl⟩)
      go_ret
      exact ⟨rfl, (Below.refl _ _).alloc (Nat.le_refl _) _⟩
    · have h1' : 0 ≤ at' := by omega
      have h2 : (t.size : Int) < at' := by
        rcases h with h | h | h
        · cases h
        · omega
        · exact h
      clear h h1
      go_enter Try.func6, Try.ntmps6
      go_wp2_with (go_at_call 13; refine HL.out.mono ?_; rintro e w1 ⟨rfl, rfl⟩)
      go_ret
      exact ⟨rfl, (Below.refl _ _).alloc (Nat.le_refl _) _⟩
  · clear h
    go_enter Try.func6, Try.ntmps6
    go_wp2_with (go_at_call 13; refine HL.out.mono ?_; rintro e w1 ⟨rfl, rfl⟩)
    go_ret
    exact ⟨rfl, (Below.refl _ _).alloc (Nat.le_refl _) _⟩

theorem cell_alloc_o {W : World} {a : Addr} {v : Value} (o : Obj) (h : W.cell? a = some v) : (W.alloc o).cell? a = some v := cell_kept h (World.grownBy_alloc W o none) (fun r e => by cases e)
/-- What Position answers at the next offset. -/
def NextP (t : ByteArray) (k pa pb : Nat) (na nb : Int) (ten same : Bool) : Prop :=
  ∃ h : k < t.size, ((t[k].toNat : Int) == 10) = ten ∧ (ten = true → na = (pa : Int) + 1 ∧ nb = 1) ∧ (ten = false → na = (pa : Int) ∧ (same = true → nb = (pb : Int)) ∧ (same = false → nb = (pb : Int) + 1))

set_option maxRecDepth 100000 in
set_option maxHeartbeats 1000000 in
/-- The rest: what Position answers is so related that the law says true. -/
theorem lines_main (s t : ByteArray) (k pa pb m : Nat) (hs : s.size ≤ 400) (ht : t.size ≤ 400) (hk : k ≤ t.size) (hpa : pa ≤ 1000) (hpb : pb ≤ 1000) (hm : m = 1 + lfs s.data.toList)
    (hp : ∀ w, Calls Try.prog 21 #[.string t, .int .i64 (k : Int)] w fun e w' => e = .returned (.agg #[.int .i64 (pa : Int), .int .i64 (pb : Int)]) ∧ Below w.heap.size w w')
    (hq : ∀ w, Calls Try.prog 21 #[.string (s ++ ⟨#[10]⟩ ++ t), .int .i64 ((s.size : Int) + 1 + k)] w fun e w' => e = .returned (.agg #[.int .i64 ((pa : Int) + (m : Int)), .int .i64 (pb : Int)]) ∧ Below w.heap.size w w')
    (na nb : Int) (ten same : Bool) (hn : k < t.size → NextP t k pa pb na nb ten same)
    (hr : ∀ w, Calls Try.prog 21 #[.string t, .int .i64 ((k : Int) + 1)] w fun e w' => e = .returned (.agg #[.int .i64 na, .int .i64 nb]) ∧ Below w.heap.size w w')
    (w : World) :
    Calls Try.prog 6 #[.string s, .string t, .int .i64 (k : Int)] w fun e w' => e = .returned (.bool true) ∧ Below w.heap.size w w' := by
  have hb : longB [s, t] = false := by rw [longB_iff]; intro x hx; simp at hx; rcases hx with rfl | rfl <;> assumption
  have hl := long_two s t (by unfold maxLen; omega) (by unfold maxLen; omega) w
  rw [hb] at hl
  have HL := Lib.hid hl
  have HP := Lib.hid hp
  have HQ := Lib.hid hq
  have HM := Lib.hid hm
  have HR := Lib.hid hr
  have HN := Lib.hid hn
  have hmb : m ≤ 401 := by have := lfs_le s.data.toList; rw [← Lib.size_eq] at this; omega
  clear hl hb hp hq hm hr hn
  go_enter Try.func6, Try.ntmps6
  go_wp2_with (go_at_call 13; refine HL.out.mono ?_; rintro e w1 ⟨rfl, rfl⟩)
  refine (HP.out _).mono ?_
  rintro e w2 ⟨rfl, hb2⟩
  go_wp2_with fail
  refine (HQ.out _).mono ?_
  rintro e w3 ⟨rfl, hb3⟩
  go_wp2_with fail
  obtain ⟨W4, hW4⟩ : ∃ W4, (w3.alloc (Obj.cells #[Value.int IntKind.i64 (pa : Int), Value.int IntKind.i64 (pb : Int)] 32)).alloc (Obj.cells #[Value.int IntKind.i64 ((pa : Int) + (m : Int)), Value.int IntKind.i64 (pb : Int)] 32) = W4 := ⟨_, rfl⟩
  have hb4 : Below w.heap.size w W4 := by
    have h1 := hb2.size
    have h2 := hb3.size
    simp at h1
    rw [← hW4]
    exact ((((((Below.refl _ w).alloc (Nat.le_refl _) _).trans (hb2.mono (by simp))).trans (hb3.mono (by omega))).alloc (by omega) _).alloc (by simp; omega) _)
  have p0 : W4.cell? ⟨w3.heap.size, 0, none⟩ = some (.int .i64 (pa : Int)) := by rw [← hW4]; exact cell_of (block_alloc _ (block_new w3 _)) rfl
  have p1 : W4.cell? ⟨w3.heap.size, 1, none⟩ = some (.int .i64 (pb : Int)) := by rw [← hW4]; exact cell_of (block_alloc _ (block_new w3 _)) rfl
  have q0 : W4.cell? ⟨w3.heap.size + 1, 0, none⟩ = some (.int .i64 ((pa : Int) + (m : Int))) := by
    rw [← hW4]; have := block_new (w3.alloc (Obj.cells #[Value.int IntKind.i64 (pa : Int), Value.int IntKind.i64 (pb : Int)] 32)) (Obj.cells #[Value.int IntKind.i64 ((pa : Int) + (m : Int)), Value.int IntKind.i64 (pb : Int)] 32)
    rw [World.size_alloc] at this; exact cell_of this rfl
  have q1 : W4.cell? ⟨w3.heap.size + 1, 1, none⟩ = some (.int .i64 (pb : Int)) := by
    rw [← hW4]; have := block_new (w3.alloc (Obj.cells #[Value.int IntKind.i64 (pa : Int), Value.int IntKind.i64 (pb : Int)] 32)) (Obj.cells #[Value.int IntKind.i64 ((pa : Int) + (m : Int)), Value.int IntKind.i64 (pb : Int)] 32)
    rw [World.size_alloc] at this; exact cell_of this rfl
  have hz4 : W4.heap.size = w3.heap.size + 2 := by rw [← hW4]; simp
  rw [hW4]
  have HZ := Lib.hid hz4
  clear hz4 hW4 hb2 hb3
  go_loop [9, 10] (fun n i => ∃ j : Nat, j ≤ s.size ∧ i = .int .i64 j ∧ n = .int .i64 ((1 + lfs (s.data.toList.take j) : Nat) : Int)) (fun _ i => s.size - (intOf i).toNat)
  case atStart => exact ⟨0, Nat.zero_le _, rfl, by simp [lfs]⟩
  case round =>
    obtain ⟨j, hj, rfl, rfl⟩ := hrel
    have hlb := lfs_le (s.data.toList.take j)
    rw [List.length_take] at hlb
    by_cases hlt : j < s.size
    · have hsn := lfs_snoc s.data.toList j (by rw [← Lib.size_eq]; exact hlt)
      have he : s.data.toList[j]'(by rw [← Lib.size_eq]; exact hlt) = s[j] := by simp [ByteArray.getElem_eq_getElem_data]
      rw [he] at hsn
      obtain ⟨c, hc⟩ : ∃ c, lfs (s.data.toList.take j) = c := ⟨_, rfl⟩
      rw [hc] at hsn hlb
      have hcb : c ≤ 400 := by omega
      rw [hc]
      have HSN := Lib.hid hsn
      clear hsn he hc hlb
      by_cases h10 : ((s[j].toNat : Int) == 10) = true
      · have hj1 : 1 + (c : Int) + 1 = ((1 + lfs (s.data.toList.take (j + 1)) : Nat) : Int) := by
          have h11 : s[j] = 10 := by
            have := eq_of_beq h10
            exact UInt8.toNat_inj.1 (by simp only [UInt8.reduceToNat]; omega)
          rw [HSN.out, if_pos h11]
          omega
        have HJ := Lib.hid hj1
        clear hj1
        go_wp2_with fail
        go_round
        case rel => exact ⟨j + 1, by omega, by go_num, by rw [HJ.out]⟩
        case measure => simp [intOf]; omega
      · have h10' : ((s[j].toNat : Int) == 10) = false := by simpa using h10
        have hj1 : ((1 + c : Nat) : Int) = ((1 + lfs (s.data.toList.take (j + 1)) : Nat) : Int) := by
          have h11 : s[j] ≠ 10 := by
            intro h
            rw [h] at h10
            exact h10 rfl
          rw [HSN.out, if_neg h11]
          omega
        have HJ := Lib.hid hj1
        clear h10 hj1
        go_wp2_with fail
        go_round
        case rel => exact ⟨j + 1, by omega, by go_num, by rw [HJ.out]⟩
        case measure => simp [intOf]; omega
    · have hfull : 1 + lfs (s.data.toList.take j) = m := by
        rw [HM.out, List.take_of_length_le (by rw [← Lib.size_eq]; omega)]
      rw [hfull]
      clear hfull hlb
      by_cases hkt : k < t.size
      · obtain ⟨_, hte, hy, hno⟩ := HN.out hkt
        cases ten
        · obtain ⟨rfl, hs1, hs2⟩ := hno rfl
          cases same
          · obtain rfl := hs2 rfl
            clear hy hno hs1 hs2
            go_wp2_with fail
            refine (HR.out _).mono ?_
            rintro e w5 ⟨rfl, hb5⟩
            have hz5 := hb5.size
            rw [HZ.out] at hz5 hb5
            have c5 := fun o => cell_alloc_o o ((hb5.cell (p := ⟨w3.heap.size, 0, none⟩) (by simp)).trans p0)
            have d5 := fun o => cell_alloc_o o ((hb5.cell (p := ⟨w3.heap.size, 1, none⟩) (by simp)).trans p1)
            go_wp2_with (go_at_call 18; refine (awake_any _).mono ?_; rintro e w6 ⟨rfl, hb6⟩)
            go_ret
            have h4 := hb4.size
            have hz6 := HZ.out
            refine ⟨rfl, (((hb4.trans (hb5.mono (by omega))).alloc (by omega) _).trans (hb6.mono (by simp; omega)))⟩
          · obtain rfl := hs1 rfl
            clear hy hno hs1 hs2
            go_wp2_with fail
            refine (HR.out _).mono ?_
            rintro e w5 ⟨rfl, hb5⟩
            have hz5 := hb5.size
            rw [HZ.out] at hz5 hb5
            have c5 := fun o => cell_alloc_o o ((hb5.cell (p := ⟨w3.heap.size, 0, none⟩) (by simp)).trans p0)
            have d5 := fun o => cell_alloc_o o ((hb5.cell (p := ⟨w3.heap.size, 1, none⟩) (by simp)).trans p1)
            go_wp2_with (go_at_call 18; refine (awake_any _).mono ?_; rintro e w6 ⟨rfl, hb6⟩)
            go_ret
            have h4 := hb4.size
            have hz6 := HZ.out
            refine ⟨rfl, (((hb4.trans (hb5.mono (by omega))).alloc (by omega) _).trans (hb6.mono (by simp; omega)))⟩
        · obtain ⟨rfl, rfl⟩ := hy rfl
          clear hy hno
          go_wp2_with fail
          refine (HR.out _).mono ?_
          rintro e w5 ⟨rfl, hb5⟩
          have hz5 := hb5.size
          rw [HZ.out] at hz5 hb5
          have c5 := fun o => cell_alloc_o o ((hb5.cell (p := ⟨w3.heap.size, 0, none⟩) (by simp)).trans p0)
          have d5 := fun o => cell_alloc_o o ((hb5.cell (p := ⟨w3.heap.size, 1, none⟩) (by simp)).trans p1)
          go_wp2_with (go_at_call 18; refine (awake_any _).mono ?_; rintro e w6 ⟨rfl, hb6⟩)
          go_ret
          have h4 := hb4.size
          have hz6 := HZ.out
          refine ⟨rfl, (((hb4.trans (hb5.mono (by omega))).alloc (by omega) _).trans (hb6.mono (by simp; omega)))⟩
      · go_wp2_with (go_at_call 18; refine (awake_any _).mono ?_; rintro e w6 ⟨rfl, hb6⟩)
        go_ret
        exact ⟨rfl, hb4.trans (hb6.mono hb4.size)⟩
end Go.Proofs.Ytilgbjakhpgkcaa
