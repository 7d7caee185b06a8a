/-
  WALKS over the reference of markup: the reader in memory; fail, want.
-/
import Derived.Test.YtjablaidbccnbaaGreatDoorMkP
import Derived.Test.YtjablaidbccnbaaGreatDoorMeA
import Derived.BigQuiet
import Derived.Deep.QuietTactic
namespace Go.Proofs.YtjablaidbccnbaaGreatDoor
open Go.RowKit Go.Shelf Go.Lib

/-- The reader in memory: its text, its place, what is read so far, the error. -/
def RB (W : World) (b : Nat) (s : ByteArray) (i : Int) (c : Bool) (nm : ByteArray) (kv : Value) (a e : Int) (o : Bool) : Prop :=
  W.heap[b]? = some (.cells #[.string s, .int .i64 i, .bool c, .string nm, kv, .int .i64 a, .int .i64 e, .bool o] 49 (0, 0))
section
variable {W W' : World} {b : Nat} {s nm : ByteArray} {i a e : Int} {c o : Bool} {kv : Value}
theorem RB.lt (h : RB W b s i c nm kv a e o) : b < W.heap.size := (Array.getElem?_eq_some_iff.1 h).1
theorem RB.k0 (h : RB W b s i c nm kv a e o) : W.cell? ⟨b, 0, none⟩ = some (.string s) := cell_of (i := 0) h rfl
theorem RB.k1 (h : RB W b s i c nm kv a e o) : W.cell? ⟨b, 1, none⟩ = some (.int .i64 i) := cell_of (i := 1) h rfl
theorem RB.k2 (h : RB W b s i c nm kv a e o) : W.cell? ⟨b, 2, none⟩ = some (.bool c) := cell_of (i := 2) h rfl
theorem RB.k3 (h : RB W b s i c nm kv a e o) : W.cell? ⟨b, 3, none⟩ = some (.string nm) := cell_of (i := 3) h rfl
theorem RB.k4 (h : RB W b s i c nm kv a e o) : W.cell? ⟨b, 4, none⟩ = some kv := cell_of (i := 4) h rfl
theorem RB.k5 (h : RB W b s i c nm kv a e o) : W.cell? ⟨b, 5, none⟩ = some (.int .i64 a) := cell_of (i := 5) h rfl
theorem RB.k6 (h : RB W b s i c nm kv a e o) : W.cell? ⟨b, 6, none⟩ = some (.int .i64 e) := cell_of (i := 6) h rfl
theorem RB.k7 (h : RB W b s i c nm kv a e o) : W.cell? ⟨b, 7, none⟩ = some (.bool o) := cell_of (i := 7) h rfl
theorem RB.fz (h : RB W b s i c nm kv a e o) (q : Nat) : W.frozen? ⟨b, q, none⟩ = false := frozen_of h
theorem RB.keep (h : RB W b s i c nm kv a e o) (hh : W'.heap[b]? = W.heap[b]?) : RB W' b s i c nm kv a e o := hh.trans h
theorem RB.below (h : RB W b s i c nm kv a e o) (hb : Below W.heap.size W W') : RB W' b s i c nm kv a e o := h.keep (hb.block b h.lt)
theorem RB.drewN (h : RB W b s i c nm kv a e o) (n : Nat) : RB (W.drewN n) b s i c nm kv a e o := h
theorem but_set (b q : Nat) (W : World) (v : Value) : But b W (W.setCell ⟨b, q, none⟩ v) :=
  ⟨rfl, rfl, rfl, by simp [World.setCell], fun j _ hne => Below.heap_setCell _ _ _ _ (fun e => hne (by rw [e]))⟩
theorem RB.move (h : RB W b s i c nm kv a e o) (j : Int) : RB (W.setCell ⟨b, 1, none⟩ (.int .i64 j)) b s j c nm kv a e o := by
  unfold RB
  rw [set_of h (i := 1)]
  simp
theorem RB.close (h : RB W b s i c nm kv a e o) (d : Bool) : RB (W.setCell ⟨b, 2, none⟩ (.bool d)) b s i d nm kv a e o := by
  unfold RB
  rw [set_of h (i := 2)]
  simp
theorem RB.name (h : RB W b s i c nm kv a e o) (n : ByteArray) : RB (W.setCell ⟨b, 3, none⟩ (.string n)) b s i c n kv a e o := by
  unfold RB
  rw [set_of h (i := 3)]
  simp
theorem RB.keys (h : RB W b s i c nm kv a e o) (v : Value) : RB (W.setCell ⟨b, 4, none⟩ v) b s i c nm v a e o := by
  unfold RB
  rw [set_of h (i := 4)]
  simp
theorem RB.err (h : RB W b s i c nm kv a e o) (x y : Int) : RB (((W.setCell ⟨b, 5, none⟩ (.int .i64 x)).setCell ⟨b, 6, none⟩ (.int .i64 y)).setCell ⟨b, 7, none⟩ (.bool true)) b s i c nm kv x y true := by
  unfold RB
  rw [set_of (set_of (set_of h _) _) _]
  simp
end
/-- The error that stays: the first. -/
abbrev F3 := Int × Int × Bool
def fF (x : F3) (a e : Int) : F3 := if x.2.2 then x else (a, e, true)
def RX (W : World) (b : Nat) (s : ByteArray) (i : Int) (c : Bool) (nm : ByteArray) (kv : Value) (x : F3) : Prop := RB W b s i c nm kv x.1 x.2.1 x.2.2

theorem rfail_live {w : World} {b : Nat} {s nm : ByteArray} {i a e : Int} {c : Bool} {kv : Value} (h : RB w b s i c nm kv a e false) (x y : Int) :
    Calls Tryz.prog 20 #[.pointer (some ⟨b, 0, none⟩), .int .i64 x, .int .i64 y] w fun en w' => en = .returned (.tuple #[]) ∧ RB w' b s i c nm kv x y true ∧ But b w w' := by
  have k5 := h.k5
  have k6 := h.k6
  have k7 := h.k7
  have f5 := h.fz 5
  have f6 := h.fz 6
  have f7 := h.fz 7
  have H := Lib.hid h
  clear h
  go_enter Tryz.func20, Tryz.ntmps20
  go_wp2_with fail
  go_end0
  exact ⟨rfl, H.out.err x y, but_trans (but_trans (but_set b 5 w _) (but_set b 6 _ _)) (but_set b 7 _ _)⟩
theorem rfail_over {w : World} {b : Nat} {s nm : ByteArray} {i a e : Int} {c : Bool} {kv : Value} (h : RB w b s i c nm kv a e true) (x y : Int) :
    Calls Tryz.prog 20 #[.pointer (some ⟨b, 0, none⟩), .int .i64 x, .int .i64 y] w fun en w' => en = .returned (.tuple #[]) ∧ w' = w := by
  have k7 := h.k7
  clear h
  go_enter Tryz.func20, Tryz.ntmps20
  go_wp2_with fail
  go_end0
  exact ⟨rfl, rfl⟩
theorem rfail_any {w : World} {b : Nat} {s nm : ByteArray} {i : Int} {c : Bool} {kv : Value} {f : F3} (h : RX w b s i c nm kv f) (x y : Int) :
    Calls Tryz.prog 20 #[.pointer (some ⟨b, 0, none⟩), .int .i64 x, .int .i64 y] w fun en w' => en = .returned (.tuple #[]) ∧ RX w' b s i c nm kv (fF f x y) ∧ But b w w' := by
  obtain ⟨a, e, o⟩ := f
  cases o with
  | true => exact (rfail_over h x y).mono fun en w' ⟨h1, h2⟩ => ⟨h1, by subst h2; exact h, by subst h2; exact but_refl _ _⟩
  | false => exact (rfail_live h x y).mono fun en w' ⟨h1, h2, h3⟩ => ⟨h1, h2, h3⟩

/-- What want reads. -/
def pWant (L : Bs) (i : Nat) : Bs → PR Unit
  | [] => .ok () i
  | c :: r => if L[i]? = some c then pWant L (i + 1) r else .err i 3
/-- How the reader stands behind a step. -/
def Stands (b : Nat) (s : ByteArray) (c : Bool) (nm : ByteArray) (kv : Value) {α : Type} (r : PR α) (w w' : World) : Prop :=
  But b w w' ∧ match r with
  | .ok _ j => RB w' b s j c nm kv 0 0 false ∧ j ≤ s.size
  | .err a e => ∃ j : Int, RB w' b s j c nm kv a e true
/-- Between two rounds of want. -/
def WantI (b : Nat) (s : ByteArray) (c : Bool) (nm : ByteArray) (kv : Value) (R : PR Unit) (X : ByteArray) (w : World) (v : Value) (wr : World) : Prop :=
  ∃ k i : Nat, k ≤ X.size ∧ v = .int .i64 k ∧ RB wr b s i c nm kv 0 0 false ∧ i ≤ s.size ∧ But b w wr ∧ pWant s.data.toList i (X.data.toList.drop k) = R

set_option maxRecDepth 100000 in
set_option maxHeartbeats 2000000 in
theorem rwant_live {w : World} {b : Nat} {s nm : ByteArray} {i : Nat} {c : Bool} {kv : Value} (h : RB w b s i c nm kv 0 0 false) (hi : i ≤ s.size) (hs : s.size ≤ 1000000) (X : ByteArray) (hX : X.size ≤ 10) :
    Calls Tryz.prog 17 #[.pointer (some ⟨b, 0, none⟩), .string X] w fun en w' => en = .returned (.tuple #[]) ∧ Stands b s c nm kv (pWant s.data.toList i X.data.toList) w w' := by
  obtain ⟨R, hR⟩ : ∃ R, pWant s.data.toList i X.data.toList = R := ⟨_, rfl⟩
  have HST : Hid (WantI b s c nm kv R X w (.int .i64 0) w) := Lib.hid ⟨0, i, Nat.zero_le _, rfl, h, hi, but_refl _ _, by rw [List.drop_zero]; exact hR⟩
  rw [hR]
  clear hR h hi
  go_enter Tryz.func17, Tryz.ntmps17
  go_wp2_with fail
  go_loopw [4] (fun v wr => WantI b s c nm kv R X w v wr) (fun v _ => X.size - (Go.RowKit.intOf v).toNat)
  case atStart => exact HST.out
  case round =>
    obtain ⟨k, i, hk, rfl, hB, hi, hbut, hp⟩ := hrel
    have k0 := hB.k0
    have k1 := hB.k1
    have k7 := hB.k7
    have f1 := hB.fz 1
    have HB := Lib.hid hB
    have HU := Lib.hid hbut
    clear hB hbut
    by_cases hlk : k < X.size
    · have hlk' : k < X.data.toList.length := by rw [← Lib.size_eq]; exact hlk
      rw [List.drop_eq_getElem_cons hlk'] at hp
      have hf : (X[k]'hlk).toNat = (X.data.toList[k]).toNat := rfl
      obtain ⟨x, hx⟩ : ∃ x, X.data.toList[k] = x := ⟨_, rfl⟩
      rw [hx] at hp hf
      obtain ⟨f, hff⟩ : ∃ f, x.toNat = f := ⟨_, rfl⟩
      rw [hff] at hf
      have hki : (k : Int) < (X.size : Int) := by omega
      unfold pWant at hp
      by_cases hli : i < s.size
      · have hli' : i < s.data.toList.length := by rw [← Lib.size_eq]; exact hli
        have hd : (s[i]'hli).toNat = (s.data.toList[i]).toNat := rfl
        have hget : s.data.toList[i]? = some s.data.toList[i] := List.getElem?_eq_getElem hli'
        obtain ⟨y, hy⟩ : ∃ y, s.data.toList[i] = y := ⟨_, rfl⟩
        rw [hy] at hd hget
        obtain ⟨d, hdd⟩ : ∃ d, y.toNat = d := ⟨_, rfl⟩
        rw [hdd] at hd
        rw [hget] at hp
        have hli1 : decide ((s.size : Int) ≤ (i : Int)) = false := decide_eq_false (by omega)
        have hli2 : (i : Int) < (s.size : Int) := by omega
        by_cases hdf : d = f
        · have hxy : y = x := UInt8.toNat_inj.1 (by rw [hdd, hff]; exact hdf)
          rw [if_pos (by rw [hxy])] at hp
          have HP := Lib.hid hp
          subst hdf
          clear hp hxy hget hy hdd hx hff hli' hlk'
          go_wp2_with fail
          go_quiet (fail)
          have k1' : (wr.drewN nq).cell? ⟨b, 1, none⟩ = some (.int .i64 i) := k1
          clear hd hf
          go_wp2_with fail
          exact ⟨⟨k + 1, i + 1, by omega, by go_num, by have := (HB.out.drewN nq).move ((i : Int) + 1); exact_mod_cast this, by omega, but_trans HU.out (but_trans (grown_drew' b wr nq) (but_set b 1 _ _)), HP.out⟩, by simp only [Go.RowKit.intOf]; omega⟩
        · have hxy : ¬ y = x := fun e => hdf (by rw [← hdd, ← hff, e])
          rw [if_neg (by simpa using hxy)] at hp
          have HP := Lib.hid hp
          have hn1 : ((d : Int) != (f : Int)) = true := by simp; omega
          have hn2 : ((d : Int) == (f : Int)) = false := by simp; omega
          have HF := Lib.hid (fun n => rfail_live (HB.out.drewN n) (i : Int) 3)
          clear hp hxy hget hy hdd hx hff hli' hlk'
          go_wp2_with fail
          go_quiet (fail)
          clear hd hf hn1 hn2
          go_wp2_with fail
          refine (HF.out _).mono ?_
          rintro en w1 ⟨rfl, hB1, hbut1⟩
          have HE := Lib.hid (And.intro hB1 hbut1)
          clear hB1 hbut1
          go_wp2_with fail
          (try simp only [Exit.inBlock, Exit.then])
          refine bodyPost_ret (results_none rfl _ _ _) rfl ⟨rfl, but_trans HU.out (but_trans (grown_drew' b wr _) HE.out.2), ?_⟩
          rw [← HP.out]
          exact ⟨_, HE.out.1⟩
      · have hget : s.data.toList[i]? = none := List.getElem?_eq_none (by rw [← Lib.size_eq]; omega)
        rw [hget, if_neg (by simp)] at hp
        have HP := Lib.hid hp
        have hli1 : decide ((s.size : Int) ≤ (i : Int)) = true := decide_eq_true (by omega)
        have hli2 : (s.size : Int) ≤ (i : Int) := by omega
        have HF := Lib.hid (fun n => rfail_live (HB.out.drewN n) (i : Int) 3)
        clear hp hget hx hff hlk' hf
        go_wp2_with fail
        go_quiet (fail)
        go_wp2_with fail
        refine (HF.out _).mono ?_
        rintro en w1 ⟨rfl, hB1, hbut1⟩
        have HE := Lib.hid (And.intro hB1 hbut1)
        clear hB1 hbut1
        go_wp2_with fail
        (try simp only [Exit.inBlock, Exit.then])
        refine bodyPost_ret (results_none rfl _ _ _) rfl ⟨rfl, but_trans HU.out (but_trans (grown_drew' b wr _) HE.out.2), ?_⟩
        rw [← HP.out]
        exact ⟨_, HE.out.1⟩
    · have hkX : k = X.size := by omega
      have hfin : X.data.toList.drop k = [] := List.drop_eq_nil_of_le (by rw [← Lib.size_eq]; omega)
      rw [hfin] at hp
      have HP := Lib.hid hp
      have hki : ¬ (k : Int) < (X.size : Int) := by omega
      clear hp hfin hkX
      go_wp2_with fail
      go_end0
      refine ⟨rfl, HU.out, ?_⟩
      rw [← HP.out]
      exact ⟨HB.out, hi⟩
theorem rwant_over {w : World} {b : Nat} {s nm : ByteArray} {i a e : Int} {c : Bool} {kv : Value} (h : RB w b s i c nm kv a e true) (X : ByteArray) (hX : 0 < X.size) :
    Calls Tryz.prog 17 #[.pointer (some ⟨b, 0, none⟩), .string X] w fun en w' => en = .returned (.tuple #[]) ∧ w' = w := by
  have k7 := h.k7
  clear h
  go_enter Tryz.func17, Tryz.ntmps17
  go_wp2_with fail
  go_loopw [4] (fun v wr => v = .int .i64 0 ∧ wr = w) (fun v _ => 0)
  case atStart => exact ⟨rfl, rfl⟩
  case round =>
    obtain ⟨rfl, rfl⟩ := hrel
    go_wp2_with fail
    go_end0
    exact ⟨rfl, rfl⟩
end Go.Proofs.YtjablaidbccnbaaGreatDoor
