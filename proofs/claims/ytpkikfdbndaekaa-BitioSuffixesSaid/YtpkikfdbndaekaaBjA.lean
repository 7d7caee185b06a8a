/-
  WALKS over package bitio, twelfth part: a Reader's delta and whole; the methods Unary, Gamma, Delta.
-/
import Derived.Test.YtpkikfdbndaekaaBiZ
namespace Go.Proofs.Ytpkikfdbndaekaa
open Go.RowKit Go.Shelf Go.Lib

theorem rgam_pos (l : List Bool) (p : Nat) (h : (rgam l p).2.2 = 0) : 1 ≤ (rgam l p).1 := by
  unfold rgam at h ⊢
  split
  · rename_i hz
    rw [if_pos hz] at h
    exact absurd h hz
  · rename_i hz
    rw [if_neg hz] at h
    split
    · rename_i hl
      rw [if_pos hl] at h
      cases h
    · have := Nat.pow_pos (n := (zr (l.drop p) 0 63).1) (show 0 < 2 by decide)
      show 1 ≤ 2 ^ _ + _
      omega
theorem rgam_err (l : List Bool) (p : Nat) (h : (rgam l p).2.2 ≠ 0) : (rgam l p).1 = 0 ∧ (rgam l p).2.1 = p := by
  unfold rgam at h ⊢
  split
  · exact ⟨rfl, rfl⟩
  · rename_i hz
    rw [if_neg hz] at h
    split
    · exact ⟨rfl, rfl⟩
    · rename_i hl
      rw [if_neg hl] at h
      exact absurd rfl h
theorem rdel_err (l : List Bool) (p : Nat) (h : (rdel l p).2.2 ≠ 0) : (rdel l p).1 = 0 ∧ (rdel l p).2.1 = p := by
  unfold rdel at h ⊢
  split
  · exact ⟨rfl, rfl⟩
  · rename_i hz
    rw [if_neg hz] at h
    split
    · exact ⟨rfl, rfl⟩
    · rename_i hl
      rw [if_neg hl] at h
      split
      · exact ⟨rfl, rfl⟩
      · rename_i hk
        rw [if_neg hk] at h
        exact absurd rfl h
theorem rgam_code (l : List Bool) (p : Nat) : (rgam l p).2.2 ≤ 10 := by
  unfold rgam
  have := zr_err (l.drop p) 0 63
  split
  · show (zr (l.drop p) 0 63).2 ≤ 10
    omega
  · split
    · exact Nat.le_refl _
    · exact Nat.zero_le _
theorem rgam_fits (l : List Bool) (p : Nat) : (rgam l p).1 < 18446744073709551616 := by
  unfold rgam
  split
  · show (0 : Nat) < _; omega
  · split
    · show (0 : Nat) < _; omega
    · have h1 := zr_val (l.drop p) 0 63 (by omega)
      have h2 := take_num_lt l (p + (zr (l.drop p) 0 63).1 + 1) (zr (l.drop p) 0 63).1
      have h3 := pow_le63 _ h1
      show 2 ^ _ + _ < _
      omega

set_option maxRecDepth 100000 in
set_option maxHeartbeats 1000000 in
theorem rdelta_in {w : World} {B g : Nat} {vb : Value} {bs : List UInt8} {size p : Nat} (h : RAt w B g vb bs size p) :
    Calls Try.prog 52 #[.pointer (some ⟨g, 0, none⟩)] w (GPost B g vb bs size w (rdel (unpack bs size) p)) := by
  have hg := rgamma_in h
  have hpos := rgam_pos (unpack bs size) p
  have hcode := rgam_code (unpack bs size) p
  have hfit := rgam_fits (unpack bs size) p
  have hrd : rdel (unpack bs size) p = if (rgam (unpack bs size) p).2.2 ≠ 0 then (0, p, (rgam (unpack bs size) p).2.2)
      else (if 64 < (rgam (unpack bs size) p).1 then (0, p, 9) else (if (unpack bs size).length - (rgam (unpack bs size) p).2.1 < (rgam (unpack bs size) p).1 - 1 then (0, p, 10)
        else (2 ^ ((rgam (unpack bs size) p).1 - 1) + numL (((unpack bs size).drop (rgam (unpack bs size) p).2.1).take ((rgam (unpack bs size) p).1 - 1)), (rgam (unpack bs size) p).2.1 + ((rgam (unpack bs size) p).1 - 1), 0))) := rfl
  obtain ⟨t, ht⟩ : ∃ t, rgam (unpack bs size) p = t := ⟨_, rfl⟩
  rw [ht] at hg hrd hpos hcode hfit
  obtain ⟨x, q, er⟩ := t
  simp only at hrd hpos hcode hfit
  have HG := Lib.hid hg
  have HRD := Lib.hid hrd
  clear hg hrd h ht
  by_cases he : er = 0
  · subst he
    have hx1 := hpos rfl
    clear hpos
    by_cases h64 : 64 < x
    · have h64' : (64 : Int) < (x : Int) := by omega
      go_enter Try.func52, Try.ntmps52
      go_wp2_with fail
      refine HG.out.mono ?_
      rintro e w2 ⟨x2, p2, rfl, hok, hat2, hgr2⟩
      obtain ⟨rfl, rfl⟩ := hok rfl
      have HF : Hid (GPost B g vb bs size w (rdel (unpack bs size) p) (.returned (.tuple #[.int .u64 0, .int .i64 9])) w2) := by
        rw [HRD.out, if_neg (by simp), if_pos h64]
        exact ⟨0, _, rfl, (fun h => by cases h), hat2, hgr2⟩
      clear hat2 hgr2 hok
      go_wp2_with fail
      go_ret2
      exact HF.out
    · have h64' : (x : Int) ≤ 64 := by omega
      go_enter Try.func52, Try.ntmps52
      go_wp2_with fail
      refine HG.out.mono ?_
      rintro e w2 ⟨x2, p2, rfl, hok, hat2, hgr2⟩
      obtain ⟨h1, h2⟩ := hok rfl
      simp only at h1 h2
      obtain rfl := h1
      obtain rfl := h2
      obtain ⟨k, rfl⟩ : ∃ k, x2 = k + 1 := ⟨x2 - 1, by omega⟩
      have hk : k ≤ 63 := by omega
      have ha := rafter_any hat2 k hk
      have hkc : ((k + 1 : Nat) : Int) - 1 = (k : Int) := by omega
      have HA := Lib.hid ha
      have HGR := Lib.hid hgr2
      clear hat2 hgr2 ha hok
      go_wp2_with fail
      refine HA.out.mono ?_
      rintro e w3 ⟨rfl, hat3, hgr3⟩
      have HF : Hid (GPost B g vb bs size w (rdel (unpack bs size) p) (.returned (.tuple #[.int .u64 ((2 ^ k + (rbits (unpack bs size) p2 k).1 : Nat) : Int), .int .i64 ((rbits (unpack bs size) p2 k).2.2 : Nat)])) w3) := by
        rw [HRD.out, if_neg (by simp), if_neg h64, Nat.add_sub_cancel]
        unfold rbits at hat3 ⊢
        by_cases hlt : (unpack bs size).length - p2 < k
        · rw [if_pos hlt] at hat3 ⊢
          rw [if_pos hlt]
          exact ⟨_, _, rfl, (fun h => by cases h), hat3, grown_trans HGR.out hgr3⟩
        · rw [if_neg hlt] at hat3 ⊢
          rw [if_neg hlt]
          exact ⟨_, _, rfl, fun _ => ⟨rfl, rfl⟩, hat3, grown_trans HGR.out hgr3⟩
      clear hat3 hgr3
      go_wp2_with fail
      go_ret2
      exact HF.out
  · have he' : ((er : Int) != 0) = true := by simp; omega
    go_enter Try.func52, Try.ntmps52
    go_wp2_with fail
    refine HG.out.mono ?_
    rintro e w2 ⟨x2, p2, rfl, hok, hat2, hgr2⟩
    have HF : Hid (GPost B g vb bs size w (rdel (unpack bs size) p) (.returned (.tuple #[.int .u64 0, .int .i64 (er : Nat)])) w2) := by
      rw [HRD.out, if_pos he]
      exact ⟨0, _, rfl, fun h => absurd h he, hat2, hgr2⟩
    clear hat2 hgr2 hok
    go_wp2_with fail
    go_ret2
    exact HF.out


set_option maxRecDepth 100000 in
set_option maxHeartbeats 1000000 in
theorem whole_gamma {w : World} {B g : Nat} {vb : Value} {bs : List UInt8} {size p : Nat} (h : RAt w B g vb bs size p) :
    Calls Try.prog 48 #[.pointer (some ⟨g, 0, none⟩), .func (.func 51) #[.pointer (some ⟨g, 0, none⟩)] #[]] w (RPost B g vb bs size w (rgam (unpack bs size) p)) := by
  have hg := rgamma_in h
  have herr := rgam_err (unpack bs size) p
  have c2 := (rat_cells h).2.2.1
  have hp := h.2.2.2.1
  obtain ⟨t, ht⟩ : ∃ t, rgam (unpack bs size) p = t := ⟨_, rfl⟩
  rw [ht] at hg herr ⊢
  obtain ⟨x, q, er⟩ := t
  simp only at herr
  have HG := Lib.hid hg
  clear hg h ht
  by_cases he : er = 0
  · subst he
    clear herr
    go_enter Try.func48, Try.ntmps48
    go_wp2_with fail
    refine HG.out.mono ?_
    rintro e w2 ⟨x2, p2, rfl, hok, hat2, hgr2⟩
    obtain ⟨h1, h2⟩ := hok rfl
    have HF : Hid (RPost B g vb bs size w (x, q, 0) (.returned (.tuple #[.int .u64 (x2 : Int), .int .i64 0])) w2) := by
      simp only at h1 h2
      subst h1 h2
      exact ⟨rfl, hat2, hgr2⟩
    clear hat2 hgr2 hok h1 h2 c2
    go_wp2_with fail
    go_ret2
    exact HF.out
  · obtain ⟨rfl, rfl⟩ := herr he
    have he' : ((er : Int) != 0) = true := by simp; omega
    have HE := Lib.hid he
    clear herr he
    go_enter Try.func48, Try.ntmps48
    go_wp2_with fail
    refine HG.out.mono ?_
    rintro e w2 ⟨x2, p2, rfl, hok, hat2, hgr2⟩
    obtain ⟨_, _, d2, f2⟩ := rat_cells hat2
    have hm := hat2.move q (q : Int) rfl hp
    have HF : Hid (RPost B g vb bs size w (0, q, er) (.returned (.tuple #[.int .u64 0, .int .i64 (er : Nat)])) (w2.setCell ⟨g, 2, none⟩ (.int .i64 q))) := ⟨rfl, hm.1, grown_trans hgr2 hm.2⟩
    clear hat2 hgr2 hok hm c2
    go_wp2_with fail
    go_ret2
    exact HF.out

set_option maxRecDepth 100000 in
set_option maxHeartbeats 1000000 in
theorem whole_delta {w : World} {B g : Nat} {vb : Value} {bs : List UInt8} {size p : Nat} (h : RAt w B g vb bs size p) :
    Calls Try.prog 48 #[.pointer (some ⟨g, 0, none⟩), .func (.func 52) #[.pointer (some ⟨g, 0, none⟩)] #[]] w (RPost B g vb bs size w (rdel (unpack bs size) p)) := by
  have hg := rdelta_in h
  have herr := rdel_err (unpack bs size) p
  have c2 := (rat_cells h).2.2.1
  have hp := h.2.2.2.1
  obtain ⟨t, ht⟩ : ∃ t, rdel (unpack bs size) p = t := ⟨_, rfl⟩
  rw [ht] at hg herr ⊢
  obtain ⟨x, q, er⟩ := t
  simp only at herr
  have HG := Lib.hid hg
  clear hg h ht
  by_cases he : er = 0
  · subst he
    clear herr
    go_enter Try.func48, Try.ntmps48
    go_wp2_with fail
    refine HG.out.mono ?_
    rintro e w2 ⟨x2, p2, rfl, hok, hat2, hgr2⟩
    obtain ⟨h1, h2⟩ := hok rfl
    have HF : Hid (RPost B g vb bs size w (x, q, 0) (.returned (.tuple #[.int .u64 (x2 : Int), .int .i64 0])) w2) := by
      simp only at h1 h2
      subst h1 h2
      exact ⟨rfl, hat2, hgr2⟩
    clear hat2 hgr2 hok h1 h2 c2
    go_wp2_with fail
    go_ret2
    exact HF.out
  · obtain ⟨rfl, rfl⟩ := herr he
    have he' : ((er : Int) != 0) = true := by simp; omega
    have HE := Lib.hid he
    clear herr he
    go_enter Try.func48, Try.ntmps48
    go_wp2_with fail
    refine HG.out.mono ?_
    rintro e w2 ⟨x2, p2, rfl, hok, hat2, hgr2⟩
    obtain ⟨_, _, d2, f2⟩ := rat_cells hat2
    have hm := hat2.move q (q : Int) rfl hp
    have HF : Hid (RPost B g vb bs size w (0, q, er) (.returned (.tuple #[.int .u64 0, .int .i64 (er : Nat)])) (w2.setCell ⟨g, 2, none⟩ (.int .i64 q))) := ⟨rfl, hm.1, grown_trans hgr2 hm.2⟩
    clear hat2 hgr2 hok hm c2
    go_wp2_with fail
    go_ret2
    exact HF.out

set_option maxHeartbeats 400000 in
theorem rgamma_any {w : World} {B g : Nat} {vb : Value} {bs : List UInt8} {size p : Nat} (h : RAt w B g vb bs size p) :
    Calls Try.prog 42 #[.pointer (some ⟨g, 0, none⟩)] w (RPost B g vb bs size w (rgam (unpack bs size) p)) := by
  have hw := whole_gamma h
  have HW := Lib.hid hw
  clear hw h
  go_enter Try.func42, Try.ntmps42
  go_wp2_with fail
  refine HW.out.mono ?_
  rintro e w2 ⟨rfl, hat2, hgr2⟩
  have HF : Hid (RPost B g vb bs size w (rgam (unpack bs size) p) (.returned (.tuple #[.int .u64 ((rgam (unpack bs size) p).1 : Nat), .int .i64 ((rgam (unpack bs size) p).2.2 : Nat)])) w2) := ⟨rfl, hat2, hgr2⟩
  clear hat2 hgr2
  go_wp2_with fail
  go_ret2
  exact HF.out

set_option maxHeartbeats 400000 in
theorem rdelta_any {w : World} {B g : Nat} {vb : Value} {bs : List UInt8} {size p : Nat} (h : RAt w B g vb bs size p) :
    Calls Try.prog 43 #[.pointer (some ⟨g, 0, none⟩)] w (RPost B g vb bs size w (rdel (unpack bs size) p)) := by
  have hw := whole_delta h
  have HW := Lib.hid hw
  clear hw h
  go_enter Try.func43, Try.ntmps43
  go_wp2_with fail
  refine HW.out.mono ?_
  rintro e w2 ⟨rfl, hat2, hgr2⟩
  have HF : Hid (RPost B g vb bs size w (rdel (unpack bs size) p) (.returned (.tuple #[.int .u64 ((rdel (unpack bs size) p).1 : Nat), .int .i64 ((rdel (unpack bs size) p).2.2 : Nat)])) w2) := ⟨rfl, hat2, hgr2⟩
  clear hat2 hgr2
  go_wp2_with fail
  go_ret2
  exact HF.out
end Go.Proofs.Ytpkikfdbndaekaa
