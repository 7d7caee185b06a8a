/-
  WALKS over the two small functions that every statement of layer 1 calls: long (is one of some strings longer than 400 bytes) and awake (the document's examples: true).
-/
import Derived.Test.YtilgbjakhpgkcaaCpF
namespace Go.Proofs.Ytilgbjakhpgkcaa
open Go.RowKit Go.Shelf Go.Lib

theorem aw_count (w : World) : Calls Try.prog 17 #[.string ⟨#[97, 255, 254]⟩] w fun e w' => e = .returned (.int .i64 3) ∧ Below w.heap.size w w' := by
  have h : (units ⟨#[97, 255, 254]⟩).length = 3 := by decide +kernel
  have k := count_any ⟨#[97, 255, 254]⟩ (by decide +kernel) w
  rw [h] at k
  exact k
theorem aw_reverse (w : World) : Calls Try.prog 25 #[.string ⟨#[97, 195, 169]⟩] w fun e w' => e = .returned (.string ⟨#[195, 169, 97]⟩) ∧ Below w.heap.size w w' := by
  have h : revL ⟨#[97, 195, 169]⟩ = [195, 169, 97] := by decide +kernel
  have k := reverse_any ⟨#[97, 195, 169]⟩ (by decide +kernel) w
  rw [h] at k
  exact k
theorem aw_position (w : World) : Calls Try.prog 21 #[.string ⟨#[97, 10, 195, 169, 33]⟩, .int .i64 4] w fun e w' => e = .returned (.agg #[.int .i64 2, .int .i64 2]) ∧ Below w.heap.size w w' := by
  have h : posP (before ⟨#[97, 10, 195, 169, 33]⟩ 4) = (2, 2) := by decide +kernel
  have k := position_any ⟨#[97, 10, 195, 169, 33]⟩ (by decide +kernel) 4 w
  rw [h] at k
  exact k

set_option maxHeartbeats 400000 in
theorem awake_any (w : World) : Calls Try.prog 18 #[] w fun e w' => e = .returned (.bool true) ∧ Below w.heap.size w w' := by
  go_enter Try.func18, Try.ntmps18
  go_wp2_with (first | (go_at_call 17; refine (aw_count _).mono ?_; rintro e w1 ⟨rfl, hb1⟩) | (go_at_call 25; refine (aw_reverse _).mono ?_; rintro e w2 ⟨rfl, hb2⟩) | (go_at_call 21; refine (aw_position _).mono ?_; rintro e w3 ⟨rfl, hb3⟩))
  go_ret
  exact ⟨rfl, (hb1.trans (hb2.mono hb1.size)).trans (hb3.mono (Nat.le_trans hb1.size hb2.size))⟩

/-- Is one longer than 400 bytes? -/
def longB (ss : List ByteArray) : Bool := ss.any fun s => decide (400 < s.size)

theorem longB_no (ss : List ByteArray) (k : Nat) (hk : k = ss.length) (h : ∀ j (hj : j < ss.length), j < k → ss[j].size ≤ 400) : longB ss = false := by
  unfold longB
  rw [List.any_eq_false]
  intro s hs
  obtain ⟨j, hj, rfl⟩ := List.getElem_of_mem hs
  have := h j hj (by omega)
  simp
  omega
theorem longB_yes (ss : List ByteArray) (k : Nat) (hk : k < ss.length) (h : 400 < ss[k].size) : longB ss = true := by
  unfold longB
  rw [List.any_eq_true]
  exact ⟨ss[k], List.getElem_mem hk, by simpa using h⟩

set_option maxHeartbeats 1000000 in
/-- long, over strings that lie in a row. -/
theorem long_any (ss : List ByteArray) (hs : ∀ s ∈ ss, s.size ≤ maxLen) (hn : ss.length ≤ 1000) (a : Nat) (c : Nat) (w : World) (hc : ∀ (j : Nat) (hj : j < ss.length), w.cell? ⟨a, j, none⟩ = some (.string ss[j])) :
    Calls Try.prog 13 #[.slice (some ⟨a, 0, none⟩) ss.length c] w fun e w' => e = .returned (.bool (longB ss)) ∧ w = w' := by
  go_enter Try.func13, Try.ntmps13
  go_wp2
  go_loop [7] (fun i => ∃ k : Nat, k ≤ ss.length ∧ i = .int .i64 k ∧ ∀ j (hj : j < ss.length), j < k → ss[j].size ≤ 400) (fun i => ss.length - (intOf i).toNat)
  case atStart => exact ⟨0, Nat.zero_le _, rfl, fun _ _ h => by omega⟩
  case round =>
    obtain ⟨k, hk, rfl, hrel⟩ := hrel
    by_cases hlt : k < ss.length
    · have hcell := hc k hlt
      have hsz := hs _ (List.getElem_mem hlt)
      unfold maxLen at hsz
      obtain ⟨t, ht⟩ : ∃ t, ss[k] = t := ⟨_, rfl⟩
      rw [ht] at hcell hsz
      by_cases h4 : 400 < t.size
      · have HY := Lib.hid (longB_yes ss k hlt (by rw [ht]; exact h4))
        clear ht hrel hc hs
        go_wp2
        go_ret
        exact ⟨by rw [HY.out]; rfl, rfl⟩
      · have HR : Hid (∀ j (hj : j < ss.length), j < k + 1 → ss[j].size ≤ 400) := Lib.hid (fun j hj h => by
          by_cases e : j = k
          · subst e; rw [ht]; omega
          · exact hrel j hj (by omega))
        clear ht hrel hc hs
        go_wp2
        go_round
        case rel => exact ⟨k + 1, by omega, by go_num, HR.out⟩
        case measure => simp [intOf]; omega
    · have HN := Lib.hid (longB_no ss k (by omega) hrel)
      clear hrel hc hs
      go_wp2
      go_ret
      exact ⟨by rw [HN.out]; rfl, rfl⟩

theorem long_one (s : ByteArray) (hs : s.size ≤ maxLen) (w : World) :
    Calls Try.prog 13 #[.slice (some ⟨w.heap.size, 0, none⟩) 1 1] (w.alloc (.cells #[.string s] 9)) fun e w' => e = .returned (.bool (longB [s])) ∧ w.alloc (.cells #[.string s] 9) = w' :=
  long_any [s] (by intro x hx; simp at hx; rw [hx]; exact hs) (by simp) w.heap.size 1 _ (fun j hj => by
    have hj : j < 1 := hj
    obtain rfl : j = 0 := by omega
    exact cell_of (block_new w _) rfl)
theorem long_two (s t : ByteArray) (hs : s.size ≤ maxLen) (ht : t.size ≤ maxLen) (w : World) :
    Calls Try.prog 13 #[.slice (some ⟨w.heap.size, 0, none⟩) 2 2] (w.alloc (.cells #[.string s, .string t] 9)) fun e w' => e = .returned (.bool (longB [s, t])) ∧ w.alloc (.cells #[.string s, .string t] 9) = w' :=
  long_any [s, t] (by intro x hx; simp at hx; rcases hx with rfl | rfl <;> assumption) (by simp) w.heap.size 2 _ (fun j hj => by
    have hj : j < 2 := hj
    have hj2 : j = 0 ∨ j = 1 := by omega
    rcases hj2 with rfl | rfl
    · exact cell_of (block_new w _) rfl
    · exact cell_of (block_new w _) rfl)
theorem long_three (s t u : ByteArray) (hs : s.size ≤ maxLen) (ht : t.size ≤ maxLen) (hu : u.size ≤ maxLen) (w : World) :
    Calls Try.prog 13 #[.slice (some ⟨w.heap.size, 0, none⟩) 3 3] (w.alloc (.cells #[.string s, .string t, .string u] 9)) fun e w' => e = .returned (.bool (longB [s, t, u])) ∧ w.alloc (.cells #[.string s, .string t, .string u] 9) = w' :=
  long_any [s, t, u] (by intro x hx; simp at hx; rcases hx with rfl | rfl | rfl <;> assumption) (by simp) w.heap.size 3 _ (fun j hj => by
    have hj : j < 3 := hj
    have hj2 : j = 0 ∨ j = 1 ∨ j = 2 := by omega
    rcases hj2 with rfl | rfl | rfl
    · exact cell_of (block_new w _) rfl
    · exact cell_of (block_new w _) rfl
    · exact cell_of (block_new w _) rfl)
theorem longB_iff (ss : List ByteArray) : longB ss = false ↔ ∀ s ∈ ss, s.size ≤ 400 := by
  unfold longB
  rw [List.any_eq_false]
  constructor
  · intro h s hs
    have := h s hs
    simp at this
    exact this
  · intro h s hs
    have := h s hs
    simp
    exact this
end Go.Proofs.Ytilgbjakhpgkcaa
