/-
  WALKS over package markup, second part: the table of named escapes in memory; escape, Escape.
-/
import Derived.Test.YtjablaidbccnbaaGreatDoorMkA
import Derived.Test.YtjablaidbccnbaaGreatDoorBle
namespace Go.Proofs.YtjablaidbccnbaaGreatDoor
open Go.RowKit Go.Shelf Go.Lib

/-- The table's strings. -/
def namedS : List Bs := [[38], [38, 97, 109, 112, 59], [60], [38, 108, 116, 59], [62], [38, 103, 116, 59], [34], [38, 113, 117, 111, 116, 59]]
/-- The table in memory. -/
def Named (w : World) : Prop := ∀ i (h : i < 8), w.cell? ⟨0, i, none⟩ = some (.string ⟨(namedS[i]).toArray⟩)
theorem Named.keep {w w' : World} (h : Named w) (hk : ∀ p : Addr, p.block = 0 → w'.cell? p = w.cell? p) : Named w' := fun i hi => (hk _ rfl).trans (h i hi)
theorem Named.lt {w : World} (h : Named w) : 0 < w.heap.size := by
  have h0 := h 0 (by decide)
  unfold World.cell? at h0
  split at h0
  · rename_i hh
    exact (Array.getElem?_eq_some_iff.1 hh).1
  all_goals simp at h0
theorem Named.below {w w' : World} {B : Nat} (h : Named w) (hb : Below B w w') (hB : 0 < B) : Named w' := h.keep fun p hp => hb.cell (by rw [hp]; exact hB)

/-- The table as a value. -/
abbrev namedV : Value := .agg #[.string ⟨#[38]⟩, .string ⟨#[38, 97, 109, 112, 59]⟩, .string ⟨#[60]⟩, .string ⟨#[38, 108, 116, 59]⟩, .string ⟨#[62]⟩, .string ⟨#[38, 103, 116, 59]⟩, .string ⟨#[34]⟩, .string ⟨#[38, 113, 117, 111, 116, 59]⟩]
theorem named_at0 (w : World) : (Instr.index 89 namedV (.int .i64 0)).run Tryz.prog w = .ok (.agg #[.string ⟨#[38]⟩, .string ⟨#[38, 97, 109, 112, 59]⟩]) w := by kernel_rfl
theorem named_at1 (w : World) : (Instr.index 89 namedV (.int .i64 1)).run Tryz.prog w = .ok (.agg #[.string ⟨#[60]⟩, .string ⟨#[38, 108, 116, 59]⟩]) w := by kernel_rfl
theorem named_at2 (w : World) : (Instr.index 89 namedV (.int .i64 2)).run Tryz.prog w = .ok (.agg #[.string ⟨#[62]⟩, .string ⟨#[38, 103, 116, 59]⟩]) w := by kernel_rfl
theorem named_at3 (w : World) : (Instr.index 89 namedV (.int .i64 3)).run Tryz.prog w = .ok (.agg #[.string ⟨#[34]⟩, .string ⟨#[38, 113, 117, 111, 116, 59]⟩]) w := by kernel_rfl

set_option maxRecDepth 100000 in
set_option maxHeartbeats 1000000 in
theorem escape_any (c : UInt8) (w : World) (hN : Named w) :
    Calls Tryz.prog 45 #[.string ⟨#[c]⟩] w fun e w' => e = .returned (.string ⟨(escB c).toArray⟩) ∧ Below w.heap.size w w' := by
  have h0 := hN 0 (by decide)
  have h1 := hN 1 (by decide)
  have h2 := hN 2 (by decide)
  have h3 := hN 3 (by decide)
  have h4 := hN 4 (by decide)
  have h5 := hN 5 (by decide)
  have h6 := hN 6 (by decide)
  have h7 := hN 7 (by decide)
  simp only [namedS, List.getElem_cons_zero, List.getElem_cons_succ] at h0 h1 h2 h3 h4 h5 h6 h7
  have HN := Lib.hid hN
  clear hN
  go_enter Tryz.func45, Tryz.ntmps45
  have heq : ∀ x : UInt8, (x == c) = decide (c = x) := by
    intro x
    rw [Bool.eq_iff_iff]
    simp
    exact eq_comm
  have HEQ := Lib.hid heq
  clear heq
  go_wp2_with fail
  clear h0 h1 h2 h3 h4 h5 h6 h7
  go_loopw [6] (fun i wr => Below w.heap.size w wr ∧ (i = .int .i64 0 ∨ (i = .int .i64 1 ∧ c ≠ 38) ∨ (i = .int .i64 2 ∧ c ≠ 38 ∧ c ≠ 60) ∨ (i = .int .i64 3 ∧ c ≠ 38 ∧ c ≠ 60 ∧ c ≠ 62) ∨ (i = .int .i64 4 ∧ c ≠ 38 ∧ c ≠ 60 ∧ c ≠ 62 ∧ c ≠ 34))) (fun i _ => 4 - (Go.RowKit.intOf i).toNat)
  case atStart => exact ⟨Below.refl _ _, .inl rfl⟩
  case round =>
    obtain ⟨hb, hrel⟩ := hrel
    have HB := Lib.hid hb
    clear hb
    rcases hrel with rfl | ⟨rfl, hn⟩ | ⟨rfl, hn⟩ | ⟨rfl, hn⟩ | ⟨rfl, hn⟩
    · have he := HEQ.out 38
      have hix := named_at0
      by_cases hc : c = 38
      · rw [decide_eq_true hc] at he
        have HC := Lib.hid hc
        clear hc
        go_wp2_with fail
        go_ret
        exact ⟨by unfold escB; rw [if_pos HC.out]; rfl, HB.out.alloc HB.out.size _⟩
      · rw [decide_eq_false hc] at he
        have HC := Lib.hid hc
        clear hc
        go_wp2_with fail
        go_round
        case rel => exact ⟨HB.out.alloc HB.out.size _, .inr (.inl ⟨by go_num, HC.out⟩)⟩
        case measure => simp [Go.RowKit.intOf]
    · have he := HEQ.out 60
      have hix := named_at1
      by_cases hc : c = 60
      · rw [decide_eq_true hc] at he
        have HC := Lib.hid (And.intro hc hn)
        clear hc hn
        go_wp2_with fail
        go_ret
        exact ⟨by unfold escB; rw [if_neg HC.out.2, if_pos HC.out.1]; rfl, HB.out.alloc HB.out.size _⟩
      · rw [decide_eq_false hc] at he
        have HC := Lib.hid (And.intro hc hn)
        clear hc hn
        go_wp2_with fail
        go_round
        case rel => exact ⟨HB.out.alloc HB.out.size _, .inr (.inr (.inl ⟨by go_num, HC.out.2, HC.out.1⟩))⟩
        case measure => simp [Go.RowKit.intOf]
    · have he := HEQ.out 62
      have hix := named_at2
      by_cases hc : c = 62
      · rw [decide_eq_true hc] at he
        have HC := Lib.hid (And.intro hc hn)
        clear hc hn
        go_wp2_with fail
        go_ret
        exact ⟨by unfold escB; rw [if_neg HC.out.2.1, if_neg HC.out.2.2, if_pos HC.out.1]; rfl, HB.out.alloc HB.out.size _⟩
      · rw [decide_eq_false hc] at he
        have HC := Lib.hid (And.intro hc hn)
        clear hc hn
        go_wp2_with fail
        go_round
        case rel => exact ⟨HB.out.alloc HB.out.size _, .inr (.inr (.inr (.inl ⟨by go_num, HC.out.2.1, HC.out.2.2, HC.out.1⟩)))⟩
        case measure => simp [Go.RowKit.intOf]
    · have he := HEQ.out 34
      have hix := named_at3
      by_cases hc : c = 34
      · rw [decide_eq_true hc] at he
        have HC := Lib.hid (And.intro hc hn)
        clear hc hn
        go_wp2_with fail
        go_ret
        exact ⟨by unfold escB; rw [if_neg HC.out.2.1, if_neg HC.out.2.2.1, if_neg HC.out.2.2.2, if_pos HC.out.1]; rfl, HB.out.alloc HB.out.size _⟩
      · rw [decide_eq_false hc] at he
        have HC := Lib.hid (And.intro hc hn)
        clear hc hn
        go_wp2_with fail
        go_round
        case rel => exact ⟨HB.out.alloc HB.out.size _, .inr (.inr (.inr (.inr ⟨by go_num, HC.out.2.1, HC.out.2.2.1, HC.out.2.2.2, HC.out.1⟩)))⟩
        case measure => simp [Go.RowKit.intOf]
    · have hE : escB c = [c] := by unfold escB; rw [if_neg hn.1, if_neg hn.2.1, if_neg hn.2.2.1, if_neg hn.2.2.2]
      have HE := Lib.hid hE
      clear hE hn
      go_wp2_with fail
      go_ret
      exact ⟨by rw [HE.out]; rfl, HB.out⟩
end Go.Proofs.YtjablaidbccnbaaGreatDoor
