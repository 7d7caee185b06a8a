/-
  WALKS: a call of a Writer as the laws make it; the reference's Low.
-/
import Derived.Test.YtpkikfdbndaekaaBiJ
import Derived.Test.YtpkikfdbndaekaaBiH
namespace Go.Proofs.Ytpkikfdbndaekaa
open Go.RowKit Go.Shelf Go.Lib

theorem Stepped.alloc {g : Nat} {v : Value} (w : World) (o : Obj) : Stepped g v w v (w.alloc o) :=
  ⟨rfl, rfl, rfl, by simp, fun k hk _ _ => Below.heap_alloc w o k hk, fun _ h => .inl h⟩
theorem WAt.alloc {w : World} {B g : Nat} {v : Value} {l : List Bool} (h : WAt w B g v l) (o : Obj) : WAt (w.alloc o) B g v l :=
  h.kept ((Below.refl _ w).alloc (Nat.le_refl _) o)

set_option maxRecDepth 100000 in
set_option maxHeartbeats 1000000 in
/-- A call that answers an error. -/
theorem write_err {w : World} {B g : Nat} {v : Value} {l : List Bool} (hw : WAt w B g v l) (c : CallL) (hc : okCall c) (h : wrL c = none) :
    Calls Try.prog 21 #[.pointer (some ⟨g, 0, none⟩), callV c] w fun e w' => e = .returned (.int .i64 1) ∧ WAt w' B g v l ∧ Stepped g v w v w' := by
  obtain ⟨k, x, n⟩ := c
  obtain ⟨hk1, hk2, hx, hn1, hn2⟩ := hc
  simp only at hk1 hk2 hx hn1 hn2
  have HW1 := Lib.hid (hw.alloc (.cells #[.int .i64 k, .int .u64 x, .int .i64 n] 40))
  have HS1 := Lib.hid (Stepped.alloc (g := g) (v := v) w (.cells #[.int .i64 k, .int .u64 x, .int .i64 n] 40))
  clear hw
  unfold callV
  simp only
  unfold wrL at h
  simp only at h
  by_cases h0 : k = 0
  · subst h0
    rw [if_pos rfl] at h
    by_cases hout : n < 0 ∨ 64 < n
    · go_enter Try.func21, Try.ntmps21
      go_wp2_with fail
      refine (wbits_out _ _ _ hout _).mono ?_
      rintro e w2 ⟨rfl, rfl⟩
      go_wp2_with fail
      go_ret
      exact ⟨rfl, HW1.out, HS1.out⟩
    · obtain ⟨m, rfl⟩ : ∃ m : Nat, n = m := ⟨n.toNat, by omega⟩
      have hbig : 2 ^ m ≤ x := by
        rcases Nat.lt_or_ge x (2 ^ m) with hlt | hge
        · rw [if_neg (by rw [Int.toNat_natCast]; omega)] at h; cases h
        · exact hge
      have HH := Lib.hid hbig
      clear h hbig
      go_enter Try.func21, Try.ntmps21
      go_wp2_with fail
      refine (wbits_big _ _ m (by omega) HH.out _).mono ?_
      rintro e w2 ⟨rfl, rfl⟩
      go_wp2_with fail
      go_ret
      exact ⟨rfl, HW1.out, HS1.out⟩
  · rw [if_neg h0] at h
    have hk0 : (k == 0) = false := by simp; exact h0
    by_cases h1 : k = 1
    · subst h1
      rw [if_pos rfl] at h
      have hout : n < 0 ∨ 4096 < n := by
        by_cases hh : n < 0 ∨ 4096 < n
        · exact hh
        · rw [if_neg hh] at h; cases h
      have HH := Lib.hid hout
      clear h hout
      go_enter Try.func21, Try.ntmps21
      go_wp2_with fail
      refine (wunary_out _ _ HH.out _).mono ?_
      rintro e w2 ⟨rfl, rfl⟩
      go_wp2_with fail
      go_ret
      exact ⟨rfl, HW1.out, HS1.out⟩
    · rw [if_neg h1] at h
      have hk1 : (k == 1) = false := by simp; exact h1
      have hx0 : x = 0 := by
        by_cases hh : x = 0
        · exact hh
        · rw [if_neg hh] at h
          split at h <;> cases h
      subst hx0
      by_cases h2 : k = 2
      · subst h2
        clear h h0 h1
        go_enter Try.func21, Try.ntmps21
        go_wp2_with fail
        refine (gamma_zero _ _).mono ?_
        rintro e w2 ⟨rfl, rfl⟩
        go_wp2_with fail
        go_ret
        exact ⟨rfl, HW1.out, HS1.out⟩
      · have hk2 : (k == 2) = false := by simp; exact h2
        clear h h0 h1 h2
        go_enter Try.func21, Try.ntmps21
        go_wp2_with fail
        refine (delta_zero _ _).mono ?_
        rintro e w2 ⟨rfl, rfl⟩
        go_wp2_with fail
        go_ret
        exact ⟨rfl, HW1.out, HS1.out⟩

set_option maxRecDepth 100000 in
set_option maxHeartbeats 1000000 in
/-- A call that appends. -/
theorem write_ok {w : World} {B g : Nat} {v : Value} {l : List Bool} (hw : WAt w B g v l) (hB : B ≤ w.heap.size) (c : CallL) (hc : okCall c) (bs : List Bool) (h : wrL c = some bs) (hl : l.length ≤ 800000) :
    Calls Try.prog 21 #[.pointer (some ⟨g, 0, none⟩), callV c] w fun e w' => ∃ v', e = .returned (.int .i64 0) ∧ WAt w' B g v' (l ++ bs) ∧ Stepped g v w v' w' := by
  obtain ⟨k, x, n⟩ := c
  obtain ⟨hk1, hk2, hx, hn1, hn2⟩ := hc
  simp only at hk1 hk2 hx hn1 hn2
  have HW1 := Lib.hid (hw.alloc (.cells #[.int .i64 k, .int .u64 x, .int .i64 n] 40))
  have HS1 := Lib.hid (Stepped.alloc (g := g) (v := v) w (.cells #[.int .i64 k, .int .u64 x, .int .i64 n] 40))
  clear hw
  unfold callV
  simp only
  unfold wrL at h
  simp only at h
  by_cases h0 : k = 0
  · subst h0
    rw [if_pos rfl] at h
    by_cases hout : n < 0 ∨ 64 < n ∨ 2 ^ n.toNat ≤ x
    · rw [if_pos hout] at h; cases h
    · rw [if_neg hout] at h
      injection h with h
      obtain ⟨m, rfl⟩ : ∃ m : Nat, n = m := ⟨n.toNat, by omega⟩
      rw [Int.toNat_natCast] at h hout
      have hsm : x < 2 ^ m := by omega
      have hm : m ≤ 64 := by omega
      subst h
      have HH := Lib.hid hsm
      clear hsm hout
      go_enter Try.func21, Try.ntmps21
      go_wp2_with fail
      refine (wbits_any HW1.out (by simp; omega) x m hx hm HH.out (by omega)).mono ?_
      rintro e w2 ⟨v2, rfl, hw2, hs2⟩
      have HW2 := Lib.hid hw2
      have HS2 := Lib.hid hs2
      clear hw2 hs2
      go_wp2_with fail
      go_ret
      exact ⟨v2, rfl, HW2.out, HS1.out.trans HS2.out⟩
  · rw [if_neg h0] at h
    have hk0 : (k == 0) = false := by simp; exact h0
    by_cases h1 : k = 1
    · subst h1
      rw [if_pos rfl] at h
      by_cases hout : n < 0 ∨ 4096 < n
      · rw [if_pos hout] at h; cases h
      · rw [if_neg hout] at h
        injection h with h
        obtain ⟨m, rfl⟩ : ∃ m : Nat, n = m := ⟨n.toNat, by omega⟩
        rw [Int.toNat_natCast] at h
        have hm : m ≤ 4096 := by omega
        subst h
        clear hout
        go_enter Try.func21, Try.ntmps21
        go_wp2_with fail
        refine (wunary_any HW1.out (by simp; omega) m hm (by omega)).mono ?_
        rintro e w2 ⟨v2, rfl, hw2, hs2⟩
        have HW2 := Lib.hid hw2
        have HS2 := Lib.hid hs2
        clear hw2 hs2
        go_wp2_with fail
        go_ret
        exact ⟨v2, rfl, HW2.out, HS1.out.trans HS2.out⟩
    · rw [if_neg h1] at h
      have hk1 : (k == 1) = false := by simp; exact h1
      by_cases hx0 : x = 0
      · rw [if_pos hx0] at h; cases h
      · rw [if_neg hx0] at h
        have HX0 := Lib.hid hx0
        clear hx0
        by_cases h2 : k = 2
        · subst h2
          rw [if_pos rfl] at h
          injection h with h
          subst h
          clear h0 h1
          go_enter Try.func21, Try.ntmps21
          go_wp2_with fail
          refine (gamma_any HW1.out (by simp; omega) x hx HX0.out (by omega)).mono ?_
          rintro e w2 ⟨v2, rfl, hw2, hs2⟩
          have HW2 := Lib.hid hw2
          have HS2 := Lib.hid hs2
          clear hw2 hs2
          go_wp2_with fail
          go_ret
          exact ⟨v2, rfl, HW2.out, HS1.out.trans HS2.out⟩
        · have hk2 : (k == 2) = false := by simp; exact h2
          rw [if_neg h2] at h
          injection h with h
          subst h
          clear h0 h1 h2
          go_enter Try.func21, Try.ntmps21
          go_wp2_with fail
          refine (delta_any HW1.out (by simp; omega) x hx HX0.out (by omega)).mono ?_
          rintro e w2 ⟨v2, rfl, hw2, hs2⟩
          have HW2 := Lib.hid hw2
          have HS2 := Lib.hid hs2
          clear hw2 hs2
          go_wp2_with fail
          go_ret
          exact ⟨v2, rfl, HW2.out, HS1.out.trans HS2.out⟩
theorem write_any {w : World} {B g : Nat} {v : Value} {l : List Bool} (hw : WAt w B g v l) (hB : B ≤ w.heap.size) (c : CallL) (hc : okCall c) (hl : l.length ≤ 800000) :
    Calls Try.prog 21 #[.pointer (some ⟨g, 0, none⟩), callV c] w fun e w' => ∃ v', e = .returned (.int .i64 (errW (wrL c))) ∧ WAt w' B g v' (l ++ bitsW (wrL c)) ∧ Stepped g v w v' w' := by
  cases h : wrL c with
  | none =>
    refine (write_err hw c hc h).mono ?_
    rintro e w' ⟨rfl, h1, h2⟩
    refine ⟨v, rfl, ?_, h2⟩
    show WAt w' B g v (l ++ [])
    rw [List.append_nil]
    exact h1
  | some bs => exact write_ok hw hB c hc bs h hl
end Go.Proofs.Ytpkikfdbndaekaa
