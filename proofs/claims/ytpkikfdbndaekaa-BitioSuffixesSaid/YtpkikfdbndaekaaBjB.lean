/-
  WALKS over package bitio, thirteenth part: a Reader's Unary; a call of a Reader as the laws make it; a new Reader; Pos, Seek.
-/
import Derived.Test.YtpkikfdbndaekaaBjA
namespace Go.Proofs.Ytpkikfdbndaekaa
open Go.RowKit Go.Shelf Go.Lib

theorem runa_err (l : List Bool) (p : Nat) (h : (runa l p).2.2 ≠ 0) : (runa l p).1 = 0 ∧ (runa l p).2.1 = p := by
  unfold runa at h ⊢
  split
  · exact ⟨rfl, rfl⟩
  · rename_i hz
    rw [if_neg hz] at h
    exact absurd rfl h
theorem runa_fits (l : List Bool) (p : Nat) : (runa l p).1 ≤ 4096 := by
  unfold runa
  split
  · show (0 : Nat) ≤ _; omega
  · exact zr_val _ _ _ (by omega)

set_option maxHeartbeats 400000 in
theorem unary_in {w : World} {B g b : Nat} {vb : Value} {bs : List UInt8} {size p : Nat} (h : RAt w B g vb bs size p) (hb : w.cell? ⟨b, 0, none⟩ = some (.pointer (some ⟨g, 0, none⟩))) :
    Calls Try.prog 49 #[.pointer (some ⟨b, 0, none⟩)] w (GPost B g vb bs size w (runa (unpack bs size) p)) := by
  have hz := rzeros_any h 4096 (by omega)
  have hru : runa (unpack bs size) p = if (zr ((unpack bs size).drop p) 0 4096).2 ≠ 0 then (0, p, (zr ((unpack bs size).drop p) 0 4096).2) else ((zr ((unpack bs size).drop p) 0 4096).1, p + (zr ((unpack bs size).drop p) 0 4096).1 + 1, 0) := rfl
  obtain ⟨z, hzz⟩ : ∃ z, zr ((unpack bs size).drop p) 0 4096 = z := ⟨_, rfl⟩
  rw [hzz] at hz hru
  obtain ⟨n, er⟩ := z
  simp only at hru
  have HZ := Lib.hid hz
  have HRU := Lib.hid hru
  clear hz hru h hzz
  go_enter Try.func49, Try.ntmps49
  go_wp2_with fail
  refine HZ.out.mono ?_
  rintro e w2 ⟨p2, rfl, hp2, hat2, hgr2⟩
  have HF : Hid (GPost B g vb bs size w (runa (unpack bs size) p) (.returned (.tuple #[.int .u64 (n : Nat), .int .i64 (er : Nat)])) w2) := by
    rw [HRU.out]
    by_cases he : er = 0
    · subst he
      rw [if_neg (by simp)]
      exact ⟨_, _, rfl, fun _ => ⟨rfl, hp2 rfl⟩, hat2, hgr2⟩
    · rw [if_pos he]
      exact ⟨n, _, rfl, fun h => absurd h he, hat2, hgr2⟩
  clear hat2 hgr2 hp2 hb
  go_wp2_with fail
  go_ret2
  exact HF.out

set_option maxRecDepth 100000 in
set_option maxHeartbeats 1000000 in
theorem whole_unary {w : World} {B g b : Nat} {vb : Value} {bs : List UInt8} {size p : Nat} (h : RAt w B g vb bs size p) (hb : w.cell? ⟨b, 0, none⟩ = some (.pointer (some ⟨g, 0, none⟩))) :
    Calls Try.prog 48 #[.pointer (some ⟨g, 0, none⟩), .func (.func 49) #[] #[.pointer (some ⟨b, 0, none⟩)]] w (RPost B g vb bs size w (runa (unpack bs size) p)) := by
  have hg := unary_in h hb
  have herr := runa_err (unpack bs size) p
  have c2 := (rat_cells h).2.2.1
  have hp := h.2.2.2.1
  obtain ⟨t, ht⟩ : ∃ t, runa (unpack bs size) p = t := ⟨_, rfl⟩
  rw [ht] at hg herr ⊢
  obtain ⟨x, q, er⟩ := t
  simp only at herr
  have HG := Lib.hid hg
  clear hg h ht hb
  by_cases he : er = 0
  · subst he
    clear herr
    go_enter Try.func48, Try.ntmps48
    go_wp2_with fail
    refine HG.out.mono ?_
    rintro e w2 ⟨x2, p2, rfl, hok, hat2, hgr2⟩
    obtain ⟨h1, h2⟩ := hok rfl
    have HF : Hid (RPost B g vb bs size w (x, q, 0) (.returned (.tuple #[.int .u64 (x2 : Int), .int .i64 0])) w2) := by
      simp only at h1 h2
      subst h1 h2
      exact ⟨rfl, hat2, hgr2⟩
    clear hat2 hgr2 hok h1 h2 c2
    go_wp2_with fail
    go_ret2
    exact HF.out
  · obtain ⟨rfl, rfl⟩ := herr he
    have he' : ((er : Int) != 0) = true := by simp; omega
    have HE := Lib.hid he
    clear herr he
    go_enter Try.func48, Try.ntmps48
    go_wp2_with fail
    refine HG.out.mono ?_
    rintro e w2 ⟨x2, p2, rfl, hok, hat2, hgr2⟩
    obtain ⟨_, _, d2, f2⟩ := rat_cells hat2
    have hm := hat2.move q (q : Int) rfl hp
    have HF : Hid (RPost B g vb bs size w (0, q, er) (.returned (.tuple #[.int .u64 0, .int .i64 (er : Nat)])) (w2.setCell ⟨g, 2, none⟩ (.int .i64 q))) := ⟨rfl, hm.1, grown_trans hgr2 hm.2⟩
    clear hat2 hgr2 hok hm c2
    go_wp2_with fail
    go_ret2
    exact HF.out

/-- What Unary answers: an int. -/
def UPost (B g : Nat) (vb : Value) (bs : List UInt8) (size : Nat) (w : World) (t : Nat × Nat × Nat) (e : Ending) (w' : World) : Prop :=
  e = .returned (.tuple #[.int .i64 (t.1 : Nat), .int .i64 (t.2.2 : Nat)]) ∧ RAt w' B g vb bs size t.2.1 ∧ w.grownBy w' (some g)
theorem RAt.alloc {w : World} {B g : Nat} {vb : Value} {bs : List UInt8} {size p : Nat} (h : RAt w B g vb bs size p) (o : Obj) : RAt (w.alloc o) B g vb bs size p :=
  h.heap fun k hk => Below.heap_alloc w o k hk

set_option maxRecDepth 100000 in
set_option maxHeartbeats 1000000 in
theorem runary_any {w : World} {B g : Nat} {vb : Value} {bs : List UInt8} {size p : Nat} (h : RAt w B g vb bs size p) :
    Calls Try.prog 41 #[.pointer (some ⟨g, 0, none⟩)] w (UPost B g vb bs size w (runa (unpack bs size) p)) := by
  have hw := whole_unary (b := w.heap.size) (h.alloc (.cells #[.pointer (some ⟨g, 0, none⟩)] 48)) (cell_of (i := 0) (block_new w _) rfl)
  have hfit := runa_fits (unpack bs size) p
  have hgr := World.grownBy_alloc w (.cells #[.pointer (some ⟨g, 0, none⟩)] 48) (some g)
  obtain ⟨t, ht⟩ : ∃ t, runa (unpack bs size) p = t := ⟨_, rfl⟩
  rw [ht] at hw hfit ⊢
  obtain ⟨x, q, er⟩ := t
  simp only at hfit
  have HW := Lib.hid hw
  have HGR := Lib.hid hgr
  clear hw h ht hgr
  go_enter Try.func41, Try.ntmps41
  go_wp2_with fail
  refine HW.out.mono ?_
  rintro e w2 ⟨rfl, hat2, hgr2⟩
  have HF : Hid (UPost B g vb bs size w (x, q, er) (.returned (.tuple #[.int .i64 (x : Nat), .int .i64 (er : Nat)])) w2) := ⟨rfl, hat2, grown_trans HGR.out hgr2⟩
  clear hat2 hgr2
  go_wp2_with fail
  go_ret2
  exact HF.out

set_option maxRecDepth 100000 in
set_option maxHeartbeats 1000000 in
/-- A call of a Reader, as the laws make it. -/
theorem read_any {w : World} {B g : Nat} {vb : Value} {bs : List UInt8} {size p : Nat} (h : RAt w B g vb bs size p) (c : CallL) (hc : okCall c) :
    Calls Try.prog 28 #[.pointer (some ⟨g, 0, none⟩), callV c] w (RPost B g vb bs size w (rd (unpack bs size) p c)) := by
  obtain ⟨k, x, n⟩ := c
  obtain ⟨hk1, hk2, hx, hn1, hn2⟩ := hc
  simp only at hk1 hk2 hx hn1 hn2
  have HR := Lib.hid (h.alloc (.cells #[.int .i64 k, .int .u64 x, .int .i64 n] 40))
  have HG := Lib.hid (World.grownBy_alloc w (.cells #[.int .i64 k, .int .u64 x, .int .i64 n] 40) (some g))
  clear h
  unfold callV rd
  simp only
  have fin : ∀ t : Nat × Nat × Nat, ∀ e w2, RPost B g vb bs size (w.alloc (.cells #[.int .i64 k, .int .u64 x, .int .i64 n] 40)) t e w2 → RPost B g vb bs size w t e w2 := fun t e w2 h => ⟨h.1, h.2.1, grown_trans HG.out h.2.2⟩
  have HFIN := Lib.hid fin
  clear fin
  by_cases h0 : k = 0
  · subst h0
    rw [if_pos rfl]
    by_cases hout : n < 0 ∨ 64 < n
    · rw [if_pos hout]
      have HC := Lib.hid (rbits_out HR.out n hout)
      clear hout
      go_enter Try.func28, Try.ntmps28
      go_wp2_with fail
      refine HC.out.mono ?_
      intro e w2 hpost
      have HF := Lib.hid (HFIN.out _ _ _ hpost)
      obtain ⟨rfl, _, _⟩ := hpost
      go_wp2_with fail
      go_ret2
      exact HF.out
    · rw [if_neg hout]
      obtain ⟨m, rfl⟩ : ∃ m : Nat, n = m := ⟨n.toNat, by omega⟩
      rw [Int.toNat_natCast]
      have HC := Lib.hid (rbits_any HR.out m (by omega))
      clear hout
      obtain ⟨t, ht⟩ : ∃ t, rbits (unpack bs size) p m = t := ⟨_, rfl⟩
      rw [ht] at HC ⊢
      obtain ⟨y, q, er⟩ := t
      clear ht
      go_enter Try.func28, Try.ntmps28
      go_wp2_with fail
      refine HC.out.mono ?_
      intro e w2 hpost
      have HF := Lib.hid (HFIN.out _ _ _ hpost)
      obtain ⟨rfl, _, _⟩ := hpost
      go_wp2_with fail
      go_ret2
      exact HF.out
  · rw [if_neg h0]
    have hk0 : (k == 0) = false := by simp; exact h0
    by_cases h1 : k = 1
    · subst h1
      rw [if_pos rfl]
      have HC := Lib.hid (runary_any HR.out)
      have hfit := runa_fits (unpack bs size) p
      obtain ⟨t, ht⟩ : ∃ t, runa (unpack bs size) p = t := ⟨_, rfl⟩
      rw [ht] at HC hfit ⊢
      obtain ⟨y, q, er⟩ := t
      simp only at hfit
      clear ht
      go_enter Try.func28, Try.ntmps28
      go_wp2_with fail
      refine HC.out.mono ?_
      rintro e w2 ⟨rfl, hat2, hgr2⟩
      have HF : Hid (RPost B g vb bs size w (y, q, er) (.returned (.tuple #[.int .u64 (y : Nat), .int .i64 (er : Nat)])) w2) := ⟨rfl, hat2, grown_trans HG.out hgr2⟩
      clear hat2 hgr2
      go_wp2_with fail
      go_ret2
      exact HF.out
    · rw [if_neg h1]
      have hk1 : (k == 1) = false := by simp; exact h1
      by_cases h2 : k = 2
      · subst h2
        rw [if_pos rfl]
        have HC := Lib.hid (rgamma_any HR.out)
        obtain ⟨t, ht⟩ : ∃ t, rgam (unpack bs size) p = t := ⟨_, rfl⟩
        rw [ht] at HC ⊢
        obtain ⟨y, q, er⟩ := t
        clear ht h0 h1
        go_enter Try.func28, Try.ntmps28
        go_wp2_with fail
        refine HC.out.mono ?_
        intro e w2 hpost
        have HF := Lib.hid (HFIN.out _ _ _ hpost)
        obtain ⟨rfl, _, _⟩ := hpost
        go_wp2_with fail
        go_ret2
        exact HF.out
      · rw [if_neg h2]
        have hk2 : (k == 2) = false := by simp; exact h2
        have HC := Lib.hid (rdelta_any HR.out)
        obtain ⟨t, ht⟩ : ∃ t, rdel (unpack bs size) p = t := ⟨_, rfl⟩
        rw [ht] at HC ⊢
        obtain ⟨y, q, er⟩ := t
        clear ht h0 h1 h2
        go_enter Try.func28, Try.ntmps28
        go_wp2_with fail
        refine HC.out.mono ?_
        intro e w2 hpost
        have HF := Lib.hid (HFIN.out _ _ _ hpost)
        obtain ⟨rfl, _, _⟩ := hpost
        go_wp2_with fail
        go_ret2
        exact HF.out

set_option maxHeartbeats 400000 in
theorem rpos_any {w : World} {B g : Nat} {vb : Value} {bs : List UInt8} {size p : Nat} (h : RAt w B g vb bs size p) :
    Calls Try.prog 29 #[.pointer (some ⟨g, 0, none⟩)] w fun e w' => e = .returned (.int .i64 p) ∧ w = w' := by
  have c2 := (rat_cells h).2.2.1
  clear h
  go_enter Try.func29, Try.ntmps29
  go_wp2
  go_ret
  exact ⟨rfl, rfl⟩
set_option maxHeartbeats 400000 in
theorem rseek_out {w : World} {B g : Nat} {vb : Value} {bs : List UInt8} {size p : Nat} (h : RAt w B g vb bs size p) (q : Int) (hq : q < 0 ∨ (size : Int) < q) :
    Calls Try.prog 34 #[.pointer (some ⟨g, 0, none⟩), .int .i64 q] w fun e w' => e = .returned (.int .i64 1) ∧ w = w' := by
  have c1 := (rat_cells h).2.1
  clear h
  rcases hq with hq | hq
  · go_enter Try.func34, Try.ntmps34
    go_wp2
    go_ret
    exact ⟨rfl, rfl⟩
  · have h0 : 0 ≤ q := by omega
    go_enter Try.func34, Try.ntmps34
    go_wp2
    go_ret
    exact ⟨rfl, rfl⟩
set_option maxHeartbeats 400000 in
theorem rseek_any {w : World} {B g : Nat} {vb : Value} {bs : List UInt8} {size p : Nat} (h : RAt w B g vb bs size p) (q : Nat) (hq : q ≤ size) :
    Calls Try.prog 34 #[.pointer (some ⟨g, 0, none⟩), .int .i64 q] w fun e w' => e = .returned (.int .i64 0) ∧ RAt w' B g vb bs size q ∧ w.grownBy w' (some g) := by
  obtain ⟨_, c1, c2, f2⟩ := rat_cells h
  have hm := h.move q (q : Int) rfl hq
  have HM := Lib.hid hm
  have h1 : (q : Int) ≤ (size : Int) := by omega
  have h0 : (0 : Int) ≤ (q : Int) := by omega
  clear h hm
  go_enter Try.func34, Try.ntmps34
  go_wp2
  go_ret
  exact ⟨rfl, HM.out.1, HM.out.2⟩
end Go.Proofs.Ytpkikfdbndaekaa
