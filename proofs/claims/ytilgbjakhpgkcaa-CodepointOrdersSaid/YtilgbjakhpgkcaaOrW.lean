/-
  THE WALK of CodepointOrders: for every three strings the call returns true and leaves all that lay before as it was.
-/
import Derived.Test.YtilgbjakhpgkcaaLwA
import Derived.Test.YtilgbjakhpgkcaaOrM
namespace Go.Proofs.Ytilgbjakhpgkcaa
open Go.RowKit Go.Shelf Go.Lib

set_option maxRecDepth 100000 in
set_option maxHeartbeats 1000000 in
theorem orders_out (a b c : ByteArray) (ha : a.size ≤ maxLen) (hb : b.size ≤ maxLen) (hc : c.size ≤ maxLen) (w : World) (h : longB [a, b, c] = true) :
    Calls Try.prog 12 #[.string a, .string b, .string c] w fun e w' => e = .returned (.bool true) ∧ Below w.heap.size w w' := by
  have hl := long_three a b c ha hb hc w
  rw [h] at hl
  have HL := Lib.hid hl
  clear hl h ha hb hc
  go_enter Try.func12, Try.ntmps12
  go_wp2_with (go_at_call 13; refine HL.out.mono ?_; rintro e w1 ⟨rfl, rfl⟩)
  go_ret
  exact ⟨rfl, (Below.refl _ _).alloc (Nat.le_refl _) _⟩

theorem nextB {a b c : World} (h : Below a.heap.size a b) (k : Below b.heap.size b c) : Below a.heap.size a c := h.trans (k.mono h.size)

/-- The signs of x, y, z as the law's tests need them. -/
def SignsOk (x y z : Int) (same : Bool) : Prop :=
  (x < 0 ∧ same = false ∧ (0 < y ∨ (y ≤ 0 ∧ z ≤ 0))) ∨ (0 < x ∧ same = false ∧ (y < 0 ∨ (0 ≤ y ∧ 0 ≤ z))) ∨ (x = 0 ∧ same = true ∧ z = y)

set_option maxRecDepth 100000 in
set_option maxHeartbeats 1000000 in
theorem orders_main (a b c : ByteArray) (x y z : Int) (same va vb less : Bool) (hs : (a.toList == b.toList) = same) (hle : Op.bytesLess a.toList b.toList = less) (hx1 : -1 ≤ x) (hx2 : x ≤ 1) (hsg : SignsOk x y z same)
    (hvl : va = true → vb = true → less = decide (x < 0)) (hlong : longB [a, b, c] = false) (ha : a.size ≤ maxLen) (hb : b.size ≤ maxLen) (hc : c.size ≤ maxLen)
    (hx : ∀ w, Calls Try.prog 27 #[.string a, .string b] w fun e w' => e = .returned (.int .i64 x) ∧ Below w.heap.size w w')
    (hy : ∀ w, Calls Try.prog 27 #[.string b, .string c] w fun e w' => e = .returned (.int .i64 y) ∧ Below w.heap.size w w')
    (hz : ∀ w, Calls Try.prog 27 #[.string a, .string c] w fun e w' => e = .returned (.int .i64 z) ∧ Below w.heap.size w w')
    (hn : ∀ w, Calls Try.prog 27 #[.string b, .string a] w fun e w' => e = .returned (.int .i64 (-x)) ∧ Below w.heap.size w w')
    (hva : ∀ w, Calls Try.prog 19 #[.string a] w fun e w' => e = .returned (.bool va) ∧ Below w.heap.size w w')
    (hvb : ∀ w, Calls Try.prog 19 #[.string b] w fun e w' => e = .returned (.bool vb) ∧ Below w.heap.size w w')
    (w : World) :
    Calls Try.prog 12 #[.string a, .string b, .string c] w fun e w' => e = .returned (.bool true) ∧ Below w.heap.size w w' := by
  have hl := long_three a b c ha hb hc w
  rw [hlong] at hl
  have HL := Lib.hid hl
  have HX := Lib.hid hx
  have HY := Lib.hid hy
  have HZ := Lib.hid hz
  have HN := Lib.hid hn
  have HVA := Lib.hid hva
  have HVB := Lib.hid hvb
  have HL2 := Lib.hid hle
  have HVL := Lib.hid hvl
  clear hl hlong ha hb hc hx hy hz hn hva hvb hle hvl
  have hcases : (x < 0 ∧ same = false ∧ 0 < y) ∨ (x < 0 ∧ same = false ∧ y ≤ 0 ∧ z ≤ 0) ∨ (0 < x ∧ same = false ∧ y < 0) ∨ (0 < x ∧ same = false ∧ 0 ≤ y ∧ 0 ≤ z) ∨ (x = 0 ∧ same = true ∧ z = y ∧ y < 0) ∨ (x = 0 ∧ same = true ∧ z = y ∧ y = 0) ∨ (x = 0 ∧ same = true ∧ z = y ∧ 0 < y) := by
    rcases hsg with ⟨h1, h2, h3 | h3⟩ | ⟨h1, h2, h3 | h3⟩ | ⟨h1, h2, h3⟩
    · exact .inl ⟨h1, h2, h3⟩
    · exact .inr (.inl ⟨h1, h2, h3⟩)
    · exact .inr (.inr (.inl ⟨h1, h2, h3⟩))
    · exact .inr (.inr (.inr (.inl ⟨h1, h2, h3⟩)))
    · rcases Int.lt_trichotomy y 0 with h | h | h
      · exact .inr (.inr (.inr (.inr (.inl ⟨h1, h2, h3, h⟩))))
      · exact .inr (.inr (.inr (.inr (.inr (.inl ⟨h1, h2, h3, h⟩)))))
      · exact .inr (.inr (.inr (.inr (.inr (.inr ⟨h1, h2, h3, h⟩)))))
  clear hsg
  rcases hcases with ⟨h1, rfl, h3⟩ | ⟨h1, rfl, h3, h4⟩ | ⟨h1, rfl, h3⟩ | ⟨h1, rfl, h3, h4⟩ | ⟨rfl, rfl, rfl, h3⟩ | ⟨rfl, rfl, rfl, rfl⟩ | ⟨rfl, rfl, rfl, h3⟩
  · have e1 : x ≤ 0 := by omega
    have e2 : ¬ y ≤ 0 := by omega
    have e3 : (x == 0) = false := by rw [beq_eq_false_iff_ne]; omega
    have e4 : ¬ 0 ≤ x := by omega
    go_enter Try.func12, Try.ntmps12
    go_wp2_with (go_at_call 13; refine HL.out.mono ?_; rintro e w1 ⟨rfl, rfl⟩)
    refine (HX.out _).mono ?_; rintro e w2 ⟨rfl, hb2⟩; go_wp2_with fail
    refine (HY.out _).mono ?_; rintro e w3 ⟨rfl, hb3⟩; go_wp2_with fail
    refine (HZ.out _).mono ?_; rintro e w4 ⟨rfl, hb4⟩; go_wp2_with fail
    refine (HN.out _).mono ?_; rintro e w5 ⟨rfl, hb5⟩; go_wp2_with fail
    cases va with
    | false =>
      refine (HVA.out _).mono ?_; rintro e w6 ⟨rfl, hb6⟩; go_wp2_with fail
      refine (awake_any _).mono ?_; rintro e w7 ⟨rfl, hb7⟩; go_wp2_with fail
      go_ret
      exact ⟨rfl, nextB (nextB (nextB (nextB (nextB (nextB ((Below.refl _ w).alloc (Nat.le_refl _) _) hb2) hb3) hb4) hb5) hb6) hb7⟩
    | true =>
      refine (HVA.out _).mono ?_; rintro e w6 ⟨rfl, hb6⟩; go_wp2_with fail
      cases vb with
      | false =>
        refine (HVB.out _).mono ?_; rintro e w7 ⟨rfl, hb7⟩; go_wp2_with fail
        refine (awake_any _).mono ?_; rintro e w8 ⟨rfl, hb8⟩; go_wp2_with fail
        go_ret
        exact ⟨rfl, nextB (nextB (nextB (nextB (nextB (nextB (nextB ((Below.refl _ w).alloc (Nat.le_refl _) _) hb2) hb3) hb4) hb5) hb6) hb7) hb8⟩
      | true =>
        have hle := HL2.out
        rw [HVL.out trivial rfl] at hle
        refine (HVB.out _).mono ?_; rintro e w7 ⟨rfl, hb7⟩; go_wp2_with fail
        refine (awake_any _).mono ?_; rintro e w8 ⟨rfl, hb8⟩; go_wp2_with fail
        go_ret
        exact ⟨rfl, nextB (nextB (nextB (nextB (nextB (nextB (nextB ((Below.refl _ w).alloc (Nat.le_refl _) _) hb2) hb3) hb4) hb5) hb6) hb7) hb8⟩
  · have e1 : x ≤ 0 := by omega
    have e2 : ¬ 0 < z := by omega
    have e3 : (x == 0) = false := by rw [beq_eq_false_iff_ne]; omega
    have e4 : ¬ 0 ≤ x := by omega
    go_enter Try.func12, Try.ntmps12
    go_wp2_with (go_at_call 13; refine HL.out.mono ?_; rintro e w1 ⟨rfl, rfl⟩)
    refine (HX.out _).mono ?_; rintro e w2 ⟨rfl, hb2⟩; go_wp2_with fail
    refine (HY.out _).mono ?_; rintro e w3 ⟨rfl, hb3⟩; go_wp2_with fail
    refine (HZ.out _).mono ?_; rintro e w4 ⟨rfl, hb4⟩; go_wp2_with fail
    refine (HN.out _).mono ?_; rintro e w5 ⟨rfl, hb5⟩; go_wp2_with fail
    cases va with
    | false =>
      refine (HVA.out _).mono ?_; rintro e w6 ⟨rfl, hb6⟩; go_wp2_with fail
      refine (awake_any _).mono ?_; rintro e w7 ⟨rfl, hb7⟩; go_wp2_with fail
      go_ret
      exact ⟨rfl, nextB (nextB (nextB (nextB (nextB (nextB ((Below.refl _ w).alloc (Nat.le_refl _) _) hb2) hb3) hb4) hb5) hb6) hb7⟩
    | true =>
      refine (HVA.out _).mono ?_; rintro e w6 ⟨rfl, hb6⟩; go_wp2_with fail
      cases vb with
      | false =>
        refine (HVB.out _).mono ?_; rintro e w7 ⟨rfl, hb7⟩; go_wp2_with fail
        refine (awake_any _).mono ?_; rintro e w8 ⟨rfl, hb8⟩; go_wp2_with fail
        go_ret
        exact ⟨rfl, nextB (nextB (nextB (nextB (nextB (nextB (nextB ((Below.refl _ w).alloc (Nat.le_refl _) _) hb2) hb3) hb4) hb5) hb6) hb7) hb8⟩
      | true =>
        have hle := HL2.out
        rw [HVL.out trivial rfl] at hle
        refine (HVB.out _).mono ?_; rintro e w7 ⟨rfl, hb7⟩; go_wp2_with fail
        refine (awake_any _).mono ?_; rintro e w8 ⟨rfl, hb8⟩; go_wp2_with fail
        go_ret
        exact ⟨rfl, nextB (nextB (nextB (nextB (nextB (nextB (nextB ((Below.refl _ w).alloc (Nat.le_refl _) _) hb2) hb3) hb4) hb5) hb6) hb7) hb8⟩
  · have e1 : ¬ x ≤ 0 := by omega
    have e2 : ¬ 0 ≤ y := by omega
    have e3 : (x == 0) = false := by rw [beq_eq_false_iff_ne]; omega
    have e4 : 0 ≤ x := by omega
    have e5 : ¬ x < 0 := by omega
    go_enter Try.func12, Try.ntmps12
    go_wp2_with (go_at_call 13; refine HL.out.mono ?_; rintro e w1 ⟨rfl, rfl⟩)
    refine (HX.out _).mono ?_; rintro e w2 ⟨rfl, hb2⟩; go_wp2_with fail
    refine (HY.out _).mono ?_; rintro e w3 ⟨rfl, hb3⟩; go_wp2_with fail
    refine (HZ.out _).mono ?_; rintro e w4 ⟨rfl, hb4⟩; go_wp2_with fail
    refine (HN.out _).mono ?_; rintro e w5 ⟨rfl, hb5⟩; go_wp2_with fail
    cases va with
    | false =>
      refine (HVA.out _).mono ?_; rintro e w6 ⟨rfl, hb6⟩; go_wp2_with fail
      refine (awake_any _).mono ?_; rintro e w7 ⟨rfl, hb7⟩; go_wp2_with fail
      go_ret
      exact ⟨rfl, nextB (nextB (nextB (nextB (nextB (nextB ((Below.refl _ w).alloc (Nat.le_refl _) _) hb2) hb3) hb4) hb5) hb6) hb7⟩
    | true =>
      refine (HVA.out _).mono ?_; rintro e w6 ⟨rfl, hb6⟩; go_wp2_with fail
      cases vb with
      | false =>
        refine (HVB.out _).mono ?_; rintro e w7 ⟨rfl, hb7⟩; go_wp2_with fail
        refine (awake_any _).mono ?_; rintro e w8 ⟨rfl, hb8⟩; go_wp2_with fail
        go_ret
        exact ⟨rfl, nextB (nextB (nextB (nextB (nextB (nextB (nextB ((Below.refl _ w).alloc (Nat.le_refl _) _) hb2) hb3) hb4) hb5) hb6) hb7) hb8⟩
      | true =>
        have hle := HL2.out
        rw [HVL.out trivial rfl] at hle
        refine (HVB.out _).mono ?_; rintro e w7 ⟨rfl, hb7⟩; go_wp2_with fail
        refine (awake_any _).mono ?_; rintro e w8 ⟨rfl, hb8⟩; go_wp2_with fail
        go_ret
        exact ⟨rfl, nextB (nextB (nextB (nextB (nextB (nextB (nextB ((Below.refl _ w).alloc (Nat.le_refl _) _) hb2) hb3) hb4) hb5) hb6) hb7) hb8⟩
  · have e1 : ¬ x ≤ 0 := by omega
    have e2 : ¬ z < 0 := by omega
    have e3 : (x == 0) = false := by rw [beq_eq_false_iff_ne]; omega
    have e4 : 0 ≤ x := by omega
    have e5 : ¬ x < 0 := by omega
    go_enter Try.func12, Try.ntmps12
    go_wp2_with (go_at_call 13; refine HL.out.mono ?_; rintro e w1 ⟨rfl, rfl⟩)
    refine (HX.out _).mono ?_; rintro e w2 ⟨rfl, hb2⟩; go_wp2_with fail
    refine (HY.out _).mono ?_; rintro e w3 ⟨rfl, hb3⟩; go_wp2_with fail
    refine (HZ.out _).mono ?_; rintro e w4 ⟨rfl, hb4⟩; go_wp2_with fail
    refine (HN.out _).mono ?_; rintro e w5 ⟨rfl, hb5⟩; go_wp2_with fail
    cases va with
    | false =>
      refine (HVA.out _).mono ?_; rintro e w6 ⟨rfl, hb6⟩; go_wp2_with fail
      refine (awake_any _).mono ?_; rintro e w7 ⟨rfl, hb7⟩; go_wp2_with fail
      go_ret
      exact ⟨rfl, nextB (nextB (nextB (nextB (nextB (nextB ((Below.refl _ w).alloc (Nat.le_refl _) _) hb2) hb3) hb4) hb5) hb6) hb7⟩
    | true =>
      refine (HVA.out _).mono ?_; rintro e w6 ⟨rfl, hb6⟩; go_wp2_with fail
      cases vb with
      | false =>
        refine (HVB.out _).mono ?_; rintro e w7 ⟨rfl, hb7⟩; go_wp2_with fail
        refine (awake_any _).mono ?_; rintro e w8 ⟨rfl, hb8⟩; go_wp2_with fail
        go_ret
        exact ⟨rfl, nextB (nextB (nextB (nextB (nextB (nextB (nextB ((Below.refl _ w).alloc (Nat.le_refl _) _) hb2) hb3) hb4) hb5) hb6) hb7) hb8⟩
      | true =>
        have hle := HL2.out
        rw [HVL.out trivial rfl] at hle
        refine (HVB.out _).mono ?_; rintro e w7 ⟨rfl, hb7⟩; go_wp2_with fail
        refine (awake_any _).mono ?_; rintro e w8 ⟨rfl, hb8⟩; go_wp2_with fail
        go_ret
        exact ⟨rfl, nextB (nextB (nextB (nextB (nextB (nextB (nextB ((Below.refl _ w).alloc (Nat.le_refl _) _) hb2) hb3) hb4) hb5) hb6) hb7) hb8⟩
  · have e1 : z ≤ 0 := by omega
    have e2 : ¬ 0 < z := by omega
    have e4 : ¬ 0 ≤ z := by omega
    go_enter Try.func12, Try.ntmps12
    go_wp2_with (go_at_call 13; refine HL.out.mono ?_; rintro e w1 ⟨rfl, rfl⟩)
    refine (HX.out _).mono ?_; rintro e w2 ⟨rfl, hb2⟩; go_wp2_with fail
    refine (HY.out _).mono ?_; rintro e w3 ⟨rfl, hb3⟩; go_wp2_with fail
    refine (HZ.out _).mono ?_; rintro e w4 ⟨rfl, hb4⟩; go_wp2_with fail
    refine (HN.out _).mono ?_; rintro e w5 ⟨rfl, hb5⟩; go_wp2_with fail
    cases va with
    | false =>
      refine (HVA.out _).mono ?_; rintro e w6 ⟨rfl, hb6⟩; go_wp2_with fail
      refine (awake_any _).mono ?_; rintro e w7 ⟨rfl, hb7⟩; go_wp2_with fail
      go_ret
      exact ⟨rfl, nextB (nextB (nextB (nextB (nextB (nextB ((Below.refl _ w).alloc (Nat.le_refl _) _) hb2) hb3) hb4) hb5) hb6) hb7⟩
    | true =>
      refine (HVA.out _).mono ?_; rintro e w6 ⟨rfl, hb6⟩; go_wp2_with fail
      cases vb with
      | false =>
        refine (HVB.out _).mono ?_; rintro e w7 ⟨rfl, hb7⟩; go_wp2_with fail
        refine (awake_any _).mono ?_; rintro e w8 ⟨rfl, hb8⟩; go_wp2_with fail
        go_ret
        exact ⟨rfl, nextB (nextB (nextB (nextB (nextB (nextB (nextB ((Below.refl _ w).alloc (Nat.le_refl _) _) hb2) hb3) hb4) hb5) hb6) hb7) hb8⟩
      | true =>
        have hle := HL2.out
        rw [HVL.out trivial rfl] at hle
        refine (HVB.out _).mono ?_; rintro e w7 ⟨rfl, hb7⟩; go_wp2_with fail
        refine (awake_any _).mono ?_; rintro e w8 ⟨rfl, hb8⟩; go_wp2_with fail
        go_ret
        exact ⟨rfl, nextB (nextB (nextB (nextB (nextB (nextB (nextB ((Below.refl _ w).alloc (Nat.le_refl _) _) hb2) hb3) hb4) hb5) hb6) hb7) hb8⟩
  · go_enter Try.func12, Try.ntmps12
    go_wp2_with (go_at_call 13; refine HL.out.mono ?_; rintro e w1 ⟨rfl, rfl⟩)
    refine (HX.out _).mono ?_; rintro e w2 ⟨rfl, hb2⟩; go_wp2_with fail
    refine (HY.out _).mono ?_; rintro e w3 ⟨rfl, hb3⟩; go_wp2_with fail
    refine (HZ.out _).mono ?_; rintro e w4 ⟨rfl, hb4⟩; go_wp2_with fail
    refine (HN.out _).mono ?_; rintro e w5 ⟨rfl, hb5⟩; go_wp2_with fail
    cases va with
    | false =>
      refine (HVA.out _).mono ?_; rintro e w6 ⟨rfl, hb6⟩; go_wp2_with fail
      refine (awake_any _).mono ?_; rintro e w7 ⟨rfl, hb7⟩; go_wp2_with fail
      go_ret
      exact ⟨rfl, nextB (nextB (nextB (nextB (nextB (nextB ((Below.refl _ w).alloc (Nat.le_refl _) _) hb2) hb3) hb4) hb5) hb6) hb7⟩
    | true =>
      refine (HVA.out _).mono ?_; rintro e w6 ⟨rfl, hb6⟩; go_wp2_with fail
      cases vb with
      | false =>
        refine (HVB.out _).mono ?_; rintro e w7 ⟨rfl, hb7⟩; go_wp2_with fail
        refine (awake_any _).mono ?_; rintro e w8 ⟨rfl, hb8⟩; go_wp2_with fail
        go_ret
        exact ⟨rfl, nextB (nextB (nextB (nextB (nextB (nextB (nextB ((Below.refl _ w).alloc (Nat.le_refl _) _) hb2) hb3) hb4) hb5) hb6) hb7) hb8⟩
      | true =>
        have hle := HL2.out
        rw [HVL.out trivial rfl] at hle
        refine (HVB.out _).mono ?_; rintro e w7 ⟨rfl, hb7⟩; go_wp2_with fail
        refine (awake_any _).mono ?_; rintro e w8 ⟨rfl, hb8⟩; go_wp2_with fail
        go_ret
        exact ⟨rfl, nextB (nextB (nextB (nextB (nextB (nextB (nextB ((Below.refl _ w).alloc (Nat.le_refl _) _) hb2) hb3) hb4) hb5) hb6) hb7) hb8⟩
  · have e1 : ¬ z ≤ 0 := by omega
    have e2 : ¬ z < 0 := by omega
    have e4 : 0 ≤ z := by omega
    go_enter Try.func12, Try.ntmps12
    go_wp2_with (go_at_call 13; refine HL.out.mono ?_; rintro e w1 ⟨rfl, rfl⟩)
    refine (HX.out _).mono ?_; rintro e w2 ⟨rfl, hb2⟩; go_wp2_with fail
    refine (HY.out _).mono ?_; rintro e w3 ⟨rfl, hb3⟩; go_wp2_with fail
    refine (HZ.out _).mono ?_; rintro e w4 ⟨rfl, hb4⟩; go_wp2_with fail
    refine (HN.out _).mono ?_; rintro e w5 ⟨rfl, hb5⟩; go_wp2_with fail
    cases va with
    | false =>
      refine (HVA.out _).mono ?_; rintro e w6 ⟨rfl, hb6⟩; go_wp2_with fail
      refine (awake_any _).mono ?_; rintro e w7 ⟨rfl, hb7⟩; go_wp2_with fail
      go_ret
      exact ⟨rfl, nextB (nextB (nextB (nextB (nextB (nextB ((Below.refl _ w).alloc (Nat.le_refl _) _) hb2) hb3) hb4) hb5) hb6) hb7⟩
    | true =>
      refine (HVA.out _).mono ?_; rintro e w6 ⟨rfl, hb6⟩; go_wp2_with fail
      cases vb with
      | false =>
        refine (HVB.out _).mono ?_; rintro e w7 ⟨rfl, hb7⟩; go_wp2_with fail
        refine (awake_any _).mono ?_; rintro e w8 ⟨rfl, hb8⟩; go_wp2_with fail
        go_ret
        exact ⟨rfl, nextB (nextB (nextB (nextB (nextB (nextB (nextB ((Below.refl _ w).alloc (Nat.le_refl _) _) hb2) hb3) hb4) hb5) hb6) hb7) hb8⟩
      | true =>
        have hle := HL2.out
        rw [HVL.out trivial rfl] at hle
        refine (HVB.out _).mono ?_; rintro e w7 ⟨rfl, hb7⟩; go_wp2_with fail
        refine (awake_any _).mono ?_; rintro e w8 ⟨rfl, hb8⟩; go_wp2_with fail
        go_ret
        exact ⟨rfl, nextB (nextB (nextB (nextB (nextB (nextB (nextB ((Below.refl _ w).alloc (Nat.le_refl _) _) hb2) hb3) hb4) hb5) hb6) hb7) hb8⟩
end Go.Proofs.Ytilgbjakhpgkcaa
