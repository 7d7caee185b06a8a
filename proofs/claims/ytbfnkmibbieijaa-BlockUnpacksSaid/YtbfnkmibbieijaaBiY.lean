/-
  WALKS over package bitio, tenth part: a Reader's Bits.
-/
import Derived.Test.YtbfnkmibbieijaaBiX
namespace Go.Proofs.Ytbfnkmibbieijaa
open Go.RowKit Go.Shelf Go.Lib

/-- What a Reader's method answers and leaves. -/
def RPost (B g : Nat) (vb : Value) (bs : List UInt8) (size : Nat) (w : World) (t : Nat × Nat × Nat) (e : Ending) (w' : World) : Prop :=
  e = .returned (.tuple #[.int .u64 (t.1 : Nat), .int .i64 (t.2.2 : Nat)]) ∧ RAt w' B g vb bs size t.2.1 ∧ w.grownBy w' (some g)

theorem rd_val (V : Nat) (b : Nat) (hb : b ≤ 1) (hV : V < 9223372036854775808) : bits .or .u64 (IntKind.u64.wrap ((V : Int) * 2)) (b : Int) = ((2 * V + b : Nat) : Int) := by
  have e : IntKind.u64.wrap ((V : Int) * 2) = ((2 * V : Nat) : Int) := by rw [IntKind.wrap_u64]; omega
  rw [e, bits_or_u64_nat _ _ (by omega) (by omega), or_add (2 * V) b 1 2 rfl (by omega) (by omega)]

set_option maxHeartbeats 400000 in
theorem rbits_out {w : World} {B g : Nat} {vb : Value} {bs : List UInt8} {size p : Nat} (h : RAt w B g vb bs size p) (n : Int) (hn : n < 0 ∨ 64 < n) :
    Calls Try.prog 59 #[.pointer (some ⟨g, 0, none⟩), .int .i64 n] w (RPost B g vb bs size w (0, p, 1)) := by
  have HF : Hid (RPost B g vb bs size w (0, p, 1) (.returned (.tuple #[.int .u64 0, .int .i64 1])) w) := ⟨rfl, h, grown_drew g w 0⟩
  clear h
  rcases hn with hn | hn
  · go_enter Try.func59, Try.ntmps59
    go_wp2
    go_ret2
    exact HF.out
  · have h0 : 0 ≤ n := by omega
    go_enter Try.func59, Try.ntmps59
    go_wp2
    go_ret2
    exact HF.out

/-- Between two rounds of Bits: k bits have been read. -/
def BRel (B g : Nat) (vb : Value) (bs : List UInt8) (size p n : Nat) (w : World) (v6 v24 : Value) (wr : World) : Prop :=
  ∃ k : Nat, k ≤ n ∧ v24 = .int .i64 (k : Int) ∧ v6 = .int .u64 ((numL (((unpack bs size).drop p).take k) : Nat) : Int) ∧ RAt wr B g vb bs size (p + k) ∧ w.grownBy wr (some g)

set_option maxRecDepth 100000 in
set_option maxHeartbeats 1000000 in
theorem rbits_any {w : World} {B g : Nat} {vb : Value} {bs : List UInt8} {size p : Nat} (h : RAt w B g vb bs size p) (n : Nat) (hn : n ≤ 64) :
    Calls Try.prog 59 #[.pointer (some ⟨g, 0, none⟩), .int .i64 n] w (RPost B g vb bs size w (rbits (unpack bs size) p n)) := by
  obtain ⟨_, hp, _, hsz⟩ := id h.2.2
  obtain ⟨c0, c1, c2, f2⟩ := rat_cells h
  have hleft := fun k => left_any (h.drewN k) p hp
  obtain ⟨d, hd⟩ : ∃ d, size - p = d := ⟨_, rfl⟩
  rw [hd] at hleft
  have hul := unpack_len bs size
  have HLF := Lib.hid hleft
  have HH := Lib.hid h
  have hn64 : (n : Int) ≤ 64 := by omega
  have hn0 : (0 : Int) ≤ (n : Int) := by omega
  by_cases hdn : d < n
  · have hrb : rbits (unpack bs size) p n = (0, p, 10) := by
      unfold rbits
      rw [hul, hd, if_pos hdn]
    rw [hrb]
    have HF : ∀ m, Hid (RPost B g vb bs size w (0, p, 10) (.returned (.tuple #[.int .u64 0, .int .i64 10])) (w.drewN m)) := fun m => ⟨rfl, h.drewN m, grown_drew g w m⟩
    have HFF := Lib.hid HF
    have hdn' : (d : Int) < (n : Int) := by omega
    clear hrb h hleft hul hd HF
    go_enter Try.func59, Try.ntmps59
    go_wp2
    go_quiet ((go_at_call 91; exact Calls.quiet_of_same (HLF.out _)))
    go_wp2
    go_ret2
    exact (HFF.out _).out
  · have hrb : rbits (unpack bs size) p n = (numL (((unpack bs size).drop p).take n), p + n, 0) := by
      unfold rbits
      rw [hul, hd, if_neg hdn]
    rw [hrb]
    have hdn' : (n : Int) ≤ (d : Int) := by omega
    have hpn : p + n ≤ size := by omega
    clear hrb h hleft hd c1 c2 c0 f2
    go_enter Try.func59, Try.ntmps59
    have c2 : w.cell? ⟨g, 2, none⟩ = some (.int .i64 p) := (rat_cells HH.out).2.2.1
    go_wp2
    go_quiet ((go_at_call 91; exact Calls.quiet_of_same (HLF.out _)))
    clear c2
    go_wp2
    go_loopw [6, 24] (fun v6 v24 wr => BRel B g vb bs size p n w v6 v24 wr) (fun _ v24 _ => n - (intOf v24).toNat)
    case atStart => exact ⟨0, Nat.zero_le _, rfl, rfl, HH.out.drewN _, grown_drew g w _⟩
    case round =>
      obtain ⟨k, hk, rfl, rfl, hat, hgr⟩ := hrel
      by_cases hlt : k < n
      · have hpk : p + k < size := by omega
        have hV := take_num_lt (unpack bs size) p k
        have hpow : 2 ^ k ≤ 2 ^ 63 := Nat.pow_le_pow_right (by decide) (by omega)
        have h63 : (2 : Nat) ^ 63 = 9223372036854775808 := by decide
        have hstep := rbits_take (unpack bs size) p k (by rw [hul]; exact hpk)
        obtain ⟨b, hb⟩ : ∃ b, (unpack bs size)[p + k]'(by rw [hul]; exact hpk) = b := ⟨_, rfl⟩
        have hbit : (unpack bs size)[p + k]? = some b := by rw [← hb]; exact List.getElem?_eq_getElem _
        rw [hb] at hstep
        have hsb := fun m => sbit_any (hat.drewN m) (p + k) hpk b hbit
        have hmv := fun m => (hat.drewN m).move (p + k + 1) (((p + k : Nat) : Int) + 1) (by omega) (by omega)
        obtain ⟨V, hVV⟩ : ∃ V, numL (((unpack bs size).drop p).take k) = V := ⟨_, rfl⟩
        rw [hVV] at hV hstep
        have hb1 : b.toNat ≤ 1 := Bool.toNat_le b
        obtain ⟨bn, hbn⟩ : ∃ bn, b.toNat = bn := ⟨_, rfl⟩
        rw [hbn] at hstep hsb hb1
        have hval := rd_val V bn hb1 (by omega)
        rw [← hstep] at hval
        have c2 : wr.cell? ⟨g, 2, none⟩ = some (.int .i64 ((p + k : Nat) : Int)) := (rat_cells hat).2.2.1
        have f2 : wr.frozen? ⟨g, 2, none⟩ = false := (rat_cells hat).2.2.2
        obtain ⟨pk, hpk'⟩ : ∃ pk, p + k = pk := ⟨_, rfl⟩
        have hassoc : p + (k + 1) = pk + 1 := by omega
        rw [hpk'] at hsb hmv c2
        obtain ⟨V2, hV2⟩ : ∃ V2, numL (((unpack bs size).drop p).take (k + 1)) = V2 := ⟨_, rfl⟩
        rw [hV2] at hval
        have hpk5 : pk ≤ 100000 := by omega
        have HSB := Lib.hid hsb
        have HMV := Lib.hid hmv
        have HGR := Lib.hid hgr
        have HAS := Lib.hid hassoc
        have HV2 := Lib.hid hV2
        have HVAL := Lib.hid hval
        have HVV := Lib.hid hVV
        clear hsb hmv hgr hat hstep hbit hb hbn hVV hassoc hV2 hpow h63 hpk' hval
        go_wp2
        go_quiet ((go_at_call 92; exact Calls.quiet_of (HSB.out _)))
        go_wp2
        refine ⟨⟨k + 1, by omega, by go_num, by rw [HVV.out, HVAL.out, HV2.out], by rw [HAS.out]; exact (HMV.out _).1, growb_trans HGR.out (growb_trans (grown_drew g wr _) (HMV.out _).2)⟩, by simp only [intOf]; omega⟩
      · have hkn : k = n := by omega
        subst hkn
        have HF : Hid (RPost B g vb bs size w (numL (((unpack bs size).drop p).take k), p + k, 0) (.returned (.tuple #[.int .u64 ((numL (((unpack bs size).drop p).take k) : Nat) : Int), .int .i64 0])) wr) := ⟨rfl, hat, hgr⟩
        clear hat hgr hk
        go_wp2
        go_ret2
        exact HF.out
theorem rbits_of {w : World} {B g : Nat} {vb : Value} {bs : List UInt8} {size p : Nat} (h : RAt w B g vb bs size p) (n : Nat) (N : Int) (hN : N = n) (hn : n ≤ 64) :
    Calls Try.prog 59 #[.pointer (some ⟨g, 0, none⟩), .int .i64 N] w (RPost B g vb bs size w (rbits (unpack bs size) p n)) := by
  subst hN
  exact rbits_any h n hn

/-- What zeros leaves: the position behind the bit 1, if one was found. -/
def ZPost (B g : Nat) (vb : Value) (bs : List UInt8) (size : Nat) (w : World) (p : Nat) (z : Nat × Nat) (e : Ending) (w' : World) : Prop :=
  ∃ p', e = .returned (.tuple #[.int .u64 (z.1 : Nat), .int .i64 (z.2 : Nat)]) ∧ (z.2 = 0 → p' = p + z.1 + 1) ∧ RAt w' B g vb bs size p' ∧ w.grownBy w' (some g)
/-- Between two rounds of zeros: c bits 0 have been read. -/
def ZRel (B g : Nat) (vb : Value) (bs : List UInt8) (size p m : Nat) (w : World) (v6 : Value) (wr : World) : Prop :=
  ∃ c : Nat, c ≤ m ∧ v6 = .int .u64 (c : Int) ∧ zr ((unpack bs size).drop p) 0 m = zr ((unpack bs size).drop (p + c)) c m ∧ RAt wr B g vb bs size (p + c) ∧ w.grownBy wr (some g)

end Go.Proofs.Ytbfnkmibbieijaa
