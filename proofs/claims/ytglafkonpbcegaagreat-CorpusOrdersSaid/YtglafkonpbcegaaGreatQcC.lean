/-
  WALKS over package corpus: the validator: attributes, tokens, texts, what a pair and a value is.
-/
import Derived.Test.YtglafkonpbcegaaGreatQcB
import Derived.Test.YtglafkonpbcegaaGreatMkA
import Derived.Test.YtglafkonpbcegaaGreatQpM
namespace Go.Proofs.YtglafkonpbcegaaGreat
open Go.RowKit Go.Shelf Go.Lib

theorem Rows.take {α : Type} {sz : Nat} {E : World → List Value → α → Prop} {w : World} {A : Option Addr} {n cap : Nat} {xs : List α} (h : Rows sz E w (.slice A n cap) xs) {k : Nat} (hk : k ≤ n) : Rows sz E w (.slice A k cap) (xs.take k) := by
  obtain ⟨h1, h2⟩ := h.len
  have := h.part (lo := 0) (hi := k) (c' := cap) (Nat.zero_le _) (by omega) (by omega) A (fun _ b off e => by rw [e, Nat.zero_mul, Nat.add_zero])
  rw [Nat.sub_zero, List.drop_zero] at this
  exact this
/-- The validator's block. -/
def VAt (w : World) (B : Nat) (s : Sv) (o p y : Value) : Prop := w.heap[B]? = some (.cells #[s.va, s.vt, s.vx, s.vr, s.vn, s.vh, s.vl, o, p, y] 58 (0, 0))
theorem VAt.lt {w : World} {B : Nat} {s : Sv} {o p y : Value} (h : VAt w B s o p y) : B < w.heap.size := (Array.getElem?_eq_some_iff.1 h).1
theorem VAt.below {w w' : World} {B : Nat} {s : Sv} {o p y : Value} (h : VAt w B s o p y) (hb : Below w.heap.size w w') : VAt w' B s o p y := block_below h hb h.lt
theorem VAt.c {w : World} {B : Nat} {s : Sv} {o p y : Value} (h : VAt w B s o p y) : w.cell? ⟨B, 0, none⟩ = some s.va ∧ w.cell? ⟨B, 1, none⟩ = some s.vt ∧ w.cell? ⟨B, 2, none⟩ = some s.vx ∧ w.cell? ⟨B, 3, none⟩ = some s.vr ∧ w.cell? ⟨B, 4, none⟩ = some s.vn ∧ w.cell? ⟨B, 5, none⟩ = some s.vh ∧ w.cell? ⟨B, 6, none⟩ = some s.vl ∧ w.cell? ⟨B, 7, none⟩ = some o ∧ w.cell? ⟨B, 8, none⟩ = some p ∧ w.cell? ⟨B, 9, none⟩ = some y :=
  ⟨cell_of h rfl, cell_of h rfl, cell_of h rfl, cell_of h rfl, cell_of h rfl, cell_of h rfl, cell_of h rfl, cell_of h rfl, cell_of h rfl, cell_of h rfl⟩

set_option maxRecDepth 100000 in
set_option maxHeartbeats 2000000 in
theorem withinText_any {c : Cor} {s : Sv} {o p y : Value} {B : Nat} {W : World} (hV : VAt W B s o p y) (hx : Rows 4 EEx W s.vx c.texts) (hl : c.texts.length ≤ maxLen) (hT : ∀ i, i < c.texts.length → textE c i = 0) (b e : Int) :
    Calls Tryz.prog 128 #[.pointer (some ⟨B, 0, none⟩), .int .i64 b, .int .i64 e] W fun r w' => r = .returned (.bool (within c b e)) ∧ Below W.heap.size W w' := by
  have ht := textAt_any s hx hl b
  obtain ⟨c0, c1, c2, c3, c4, c5, c6, -, -, -⟩ := hV.c
  have HVA := Lib.hid (fun w' (h : Below W.heap.size W w') => hV.below h)
  have HX := Lib.hid (fun w' (h : Below W.heap.size W w') => hx.below stays_ex h)
  have hw := within_eq hT b e
  have hta : findZ (fun t : Ex => decide (t.b ≤ b) && decide (b < t.e)) c.texts = textAt c b := rfl
  rw [hta] at ht
  obtain ⟨va, vt, vx, vr, vn, vh, vl⟩ := s
  simp only [Sv.arr] at ht c0 c1 c2 c3 c4 c5 c6
  obtain ⟨A, cap, hvx, hc⟩ := hx.form
  simp only at hvx
  subst hvx
  obtain ⟨q, hq⟩ : ∃ q, within c b e = q := ⟨_, rfl⟩
  rw [hq] at hw ⊢
  rcases textAt_spec c b with hm | ⟨i, t, hi, h1, h2, hm⟩
  · rw [hm] at ht hw
    have hqf : q = false := by rw [hw]; simp
    subst hqf
    have HT := Lib.hid ht
    clear ht hw hq hta hm hT hx hV hl
    by_cases hbe : b < e
    · go_enter Tryz.func128, Tryz.ntmps128
      go_wp2_with fail
      refine HT.out.mono ?_
      rintro r w1 ⟨rfl, hb1⟩
      have HB := Lib.hid hb1
      clear hb1
      go_wp2_with fail
      go_ret
      exact ⟨rfl, HB.out⟩
    · go_enter Tryz.func128, Tryz.ntmps128
      go_wp2_with fail
      refine HT.out.mono ?_
      rintro r w1 ⟨rfl, hb1⟩
      have HB := Lib.hid hb1
      clear hb1
      go_wp2_with fail
      go_ret
      exact ⟨rfl, HB.out⟩
  · rw [hm] at ht hw
    have hqv : q = (decide (b < e) && decide (e ≤ t.e)) := by
      rw [hw]
      simp [hi]
    have hil : i < c.texts.length := (List.getElem?_eq_some_iff.1 hi).1
    obtain ⟨n, hn⟩ : ∃ n, c.texts.length = n := ⟨_, rfl⟩
    rw [hn] at hil hl c2 ht hc
    unfold maxLen at hl
    have HN := Lib.hid hn
    have HT := Lib.hid ht
    have HI := Lib.hid hi
    have HQ := Lib.hid hqv
    clear ht hw hq hta hm hT hx hV h1 h2 hi hn hqv
    by_cases hbe : b < e
    · go_enter Tryz.func128, Tryz.ntmps128
      go_wp2_with fail
      refine HT.out.mono ?_
      rintro r w1 ⟨rfl, hb1⟩
      obtain ⟨-, -, d2, -⟩ := (HVA.out w1 hb1).c
      simp only at d2
      obtain ⟨bk, off, rfl, -, hj⟩ := at_ex (HX.out w1 hb1) (by rw [HN.out]; omega)
      obtain ⟨mv, -, -, -, k2, -⟩ := hj i t HI.out
      rw [HN.out] at d2
      obtain ⟨te, hte⟩ : ∃ te, t.e = te := ⟨_, rfl⟩
      rw [hte] at k2
      have HTE := Lib.hid hte
      have HB := Lib.hid hb1
      clear hb1 hj hte
      have hz : (0 : Int) ≤ (i : Int) := by omega
      go_wp2_with fail
      go_ret
      exact ⟨by rw [HQ.out, HTE.out]; simp [hbe], HB.out⟩
    · go_enter Tryz.func128, Tryz.ntmps128
      go_wp2_with fail
      refine HT.out.mono ?_
      rintro r w1 ⟨rfl, hb1⟩
      have HB := Lib.hid hb1
      clear hb1
      go_wp2_with fail
      go_ret
      have hf : decide (b < e) = false := by simp; omega
      exact ⟨by rw [HQ.out, hf]; rfl, HB.out⟩
end Go.Proofs.YtglafkonpbcegaaGreat
