/-
  WALKS over package bitio, twelfth part: a Reader's delta and whole; the methods Unary, Gamma, Delta.
  WALKS over package bitio, thirteenth part: a Reader's Unary; a call of a Reader as the laws make it; a new Reader; Pos, Seek.
  WALKS: a new Reader; the reference's Unpack.
-/
import Derived.Test.YteennnhinfnahaaDoorTzL
namespace Go.Proofs.YteennnhinfnahaaDoor
open Go.RowKit Go.Shelf Go.Lib

theorem rgam_pos (l : List Bool) (p : Nat) (h : (rgam l p).2.2 = 0) : 1 ≤ (rgam l p).1 := by
  unfold rgam at h ⊢
  split
  · rename_i hz
    rw [if_pos hz] at h
    exact absurd h hz
  · rename_i hz
    rw [if_neg hz] at h
    split
    · rename_i hl
      rw [if_pos hl] at h
      cases h
    · have := Nat.pow_pos (n := (zr (l.drop p) 0 63).1) (show 0 < 2 by decide)
      show 1 ≤ 2 ^ _ + _
      omega
theorem rgam_err (l : List Bool) (p : Nat) (h : (rgam l p).2.2 ≠ 0) : (rgam l p).1 = 0 ∧ (rgam l p).2.1 = p := by
  unfold rgam at h ⊢
  split
  · exact ⟨rfl, rfl⟩
  · rename_i hz
    rw [if_neg hz] at h
    split
    · exact ⟨rfl, rfl⟩
    · rename_i hl
      rw [if_neg hl] at h
      exact absurd rfl h
theorem rdel_err (l : List Bool) (p : Nat) (h : (rdel l p).2.2 ≠ 0) : (rdel l p).1 = 0 ∧ (rdel l p).2.1 = p := by
  unfold rdel at h ⊢
  split
  · exact ⟨rfl, rfl⟩
  · rename_i hz
    rw [if_neg hz] at h
    split
    · exact ⟨rfl, rfl⟩
    · rename_i hl
      rw [if_neg hl] at h
      split
      · exact ⟨rfl, rfl⟩
      · rename_i hk
        rw [if_neg hk] at h
        exact absurd rfl h
theorem rgam_code (l : List Bool) (p : Nat) : (rgam l p).2.2 ≤ 10 := by
  unfold rgam
  have := zr_err (l.drop p) 0 63
  split
  · show (zr (l.drop p) 0 63).2 ≤ 10
    omega
  · split
    · exact Nat.le_refl _
    · exact Nat.zero_le _
theorem rgam_fits (l : List Bool) (p : Nat) : (rgam l p).1 < 18446744073709551616 := by
  unfold rgam
  split
  · show (0 : Nat) < _; omega
  · split
    · show (0 : Nat) < _; omega
    · have h1 := zr_val (l.drop p) 0 63 (by omega)
      have h2 := take_num_lt l (p + (zr (l.drop p) 0 63).1 + 1) (zr (l.drop p) 0 63).1
      have h3 := pow_le63 _ h1
      show 2 ^ _ + _ < _
      omega

end Go.Proofs.YteennnhinfnahaaDoor
namespace Go.Proofs.YteennnhinfnahaaDoor
open Go.RowKit Go.Shelf Go.Lib

theorem runa_err (l : List Bool) (p : Nat) (h : (runa l p).2.2 ≠ 0) : (runa l p).1 = 0 ∧ (runa l p).2.1 = p := by
  unfold runa at h ⊢
  split
  · exact ⟨rfl, rfl⟩
  · rename_i hz
    rw [if_neg hz] at h
    exact absurd rfl h
theorem runa_fits (l : List Bool) (p : Nat) : (runa l p).1 ≤ 4096 := by
  unfold runa
  split
  · show (0 : Nat) ≤ _; omega
  · exact zr_val _ _ _ (by omega)

/-- What Unary answers: an int. -/
def UPost (B g : Nat) (vb : Value) (bs : List UInt8) (size : Nat) (w : World) (t : Nat × Nat × Nat) (e : Ending) (w' : World) : Prop :=
  e = .returned (.tuple #[.int .i64 (t.1 : Nat), .int .i64 (t.2.2 : Nat)]) ∧ RAt w' B g vb bs size t.2.1 ∧ w.grownBy w' (some g)
theorem RAt.alloc {w : World} {B g : Nat} {vb : Value} {bs : List UInt8} {size p : Nat} (h : RAt w B g vb bs size p) (o : Obj) : RAt (w.alloc o) B g vb bs size p :=
  h.heap fun k hk => Below.heap_alloc w o k hk

set_option maxHeartbeats 400000 in
theorem rpos_any {w : World} {B g : Nat} {vb : Value} {bs : List UInt8} {size p : Nat} (h : RAt w B g vb bs size p) :
    Calls Tryd.prog 54 #[.pointer (some ⟨g, 0, none⟩)] w fun e w' => e = .returned (.int .i64 p) ∧ w = w' := by
  have c2 := (rat_cells h).2.2.1
  clear h
  go_enter Tryd.func54, Tryd.ntmps54
  go_wp2
  go_ret
  exact ⟨rfl, rfl⟩
end Go.Proofs.YteennnhinfnahaaDoor
namespace Go.Proofs.YteennnhinfnahaaDoor
open Go.RowKit Go.Shelf Go.Lib

theorem unpack_take (L : List UInt8) (n : Nat) : unpack (L.take ((n + 7) / 8)) n = unpack L n := by
  apply List.ext_getElem?
  intro i
  by_cases h : i < n
  · rw [unpack_at _ _ _ h, unpack_at _ _ _ h]
    have : (L.take ((n + 7) / 8)).getD (i / 8) 0 = L.getD (i / 8) 0 := by
      simp only [List.getD]
      rw [List.getElem?_take_of_lt (by omega)]
    rw [this]
  · rw [List.getElem?_eq_none (by rw [unpack_len]; omega), List.getElem?_eq_none (by rw [unpack_len]; omega)]

set_option maxHeartbeats 400000 in
theorem newReader_out {w : World} {B : Nat} {v : Value} {L : List UInt8} (hs : Sees w B v L) (hL : L.length ≤ 1000000) (n : Int) (hn : n < 0 ∨ 8 * (L.length : Int) < n) :
    Calls Tryd.prog 51 #[v, .int .i64 n] w fun e w' => e = .returned (.tuple #[.pointer none, .int .i64 1]) ∧ w = w' := by
  obtain ⟨sp, cap, rfl, _, _⟩ := hs.form2
  obtain ⟨m, hm⟩ : ∃ m, L.length = m := ⟨_, rfl⟩
  rw [hm] at hL hn ⊢
  clear hs hm
  rcases hn with hn | hn
  · go_enter Tryd.func51, Tryd.ntmps51
    go_wp2
    go_ret2
    exact ⟨rfl, rfl⟩
  · have h0 : 0 ≤ n := by omega
    go_enter Tryd.func51, Tryd.ntmps51
    go_wp2
    go_ret2
    exact ⟨rfl, rfl⟩
/-- What a new Reader is. -/
def NPost (L : List UInt8) (n : Nat) (w : World) (e : Ending) (w' : World) : Prop :=
  ∃ (g : Nat) (vb : Value), e = .returned (.tuple #[.pointer (some ⟨g, 0, none⟩), .int .i64 0]) ∧ RAt w' w.heap.size g vb (L.take ((n + 7) / 8)) n 0 ∧ Below w.heap.size w w'
set_option maxRecDepth 100000 in
set_option maxHeartbeats 1000000 in
theorem newReader_any {w : World} {v : Value} {L : List UInt8} (hs : Sees w w.heap.size v L) (hL : L.length ≤ 12500) (n : Nat) (hn : n ≤ 8 * L.length) :
    Calls Tryd.prog 51 #[v, .int .i64 n] w (NPost L n w) := by
  obtain ⟨sp, cap, rfl, hcap, _⟩ := hs.form2
  obtain ⟨_, _, hto⟩ := hs.to
  obtain ⟨k, hk⟩ : ∃ k, (n + 7) / 8 = k := ⟨_, rfl⟩
  have hkl : k ≤ L.length := by omega
  have hc := clone_any (hto k hkl) (by rw [List.length_take]; omega)
  have htl : (L.take k).length = k := by rw [List.length_take]; omega
  rw [htl] at hc
  have HK := Lib.hid hk
  obtain ⟨m, hm⟩ : ∃ m, L.length = m := ⟨_, rfl⟩
  rw [hm] at hL hn hcap hkl ⊢
  have hsl := slice_to sp m cap k hkl hcap w
  have hk1 : ((n : Int) + 8 - 1) / 8 = (k : Int) := by omega
  have hk2 : ((n : Int) + 7) / 8 = (k : Int) := by omega
  have hn1 : (n : Int) ≤ 8 * (m : Int) := by omega
  have hn0 : (0 : Int) ≤ (n : Int) := by omega
  have hnk : n ≤ 8 * k := by omega
  have HC := Lib.hid hc
  have HTL := Lib.hid htl
  clear hc hto hs hm hk htl
  go_enter Tryd.func51, Tryd.ntmps51
  go_wp2_with fail
  refine HC.out.mono ?_
  rintro e w2 ⟨v2, rfl, hown, hb⟩
  obtain ⟨A2, c2, rfl, _⟩ := own_form hown
  have hrat : RAt (w2.alloc (.cells #[.slice A2 k c2, .int .i64 n, .int .i64 0] 124)) w.heap.size w2.heap.size (.slice A2 k c2) (L.take k) n 0 := by
    refine ⟨hb.size, block_new w2 _, ?_, Nat.zero_le _, by rw [HTL.out]; exact hnk, by omega⟩
    rw [HTL.out]
    exact own_below hown (fun q e => Below.heap_alloc w2 _ q (own_low hown q e).2)
  have HF : Hid (NPost L n w (.returned (.tuple #[.pointer (some ⟨w2.heap.size, 0, none⟩), .int .i64 0])) (w2.alloc (.cells #[.slice A2 k c2, .int .i64 n, .int .i64 0] 124))) :=
    ⟨_, _, rfl, by rw [HK.out]; exact hrat, hb.alloc hb.size _⟩
  clear hown hb hrat
  go_wp2_with fail
  go_ret2
  exact HF.out
end Go.Proofs.YteennnhinfnahaaDoor
