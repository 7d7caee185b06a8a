/-
  WALKS over package lexicon: the two orders (reverseOrder, countOrder); mathematics of their keys.
-/
import Derived.Test.YteennnhinfnahaaLzF
import Derived.Test.YteennnhinfnahaaCpF
import Derived.Deep.RegionHeld3
import Derived.Deep.QuietTactic
import Derived.BigQuiet
namespace Go.Proofs.Yteennnhinfnahaa
open Go.RowKit Go.Shelf Go.Lib Go.Sort
set_option linter.unusedVariables false
set_option linter.unusedSimpArgs false

/-- A word's key in the order of the reversed words. -/
def keyW (v : Wd) : Wd := revL ⟨v.toArray⟩
theorem cmpB_lt : ∀ a b : List UInt8, (Lib.compareBytes a b < 0) ↔ a < b
  | [], [] => by simp [Lib.compareBytes]
  | [], b :: bs => by simp [Lib.compareBytes]
  | a :: l, [] => by simp [Lib.compareBytes]
  | a :: l, b :: m => by
    unfold Lib.compareBytes
    rw [List.cons_lt_cons_iff]
    by_cases h1 : a < b
    · simp [h1]
    · by_cases h2 : b < a
      · rw [if_neg h1, if_pos h2]
        constructor
        · intro h; omega
        · rintro (h | ⟨h, _⟩)
          · exact absurd h h1
          · subst h; exact absurd h2 h1
      · rw [if_neg h1, if_neg h2, cmpB_lt l m]
        have e : a = b := by
          apply UInt8.le_antisymm
          · exact UInt8.not_lt.1 h2
          · exact UInt8.not_lt.1 h1
        simp [e]
def cfR (key : Nat → Wd) (n : Nat) (x y : Fin n) : Int := Lib.compareBytes (key x.1) (key y.1)
theorem ltR (key : Nat → Wd) (n : Nat) (x y : Fin n) : ltOf (cfR key n) x y = decide (key x.1 < key y.1) := by
  unfold ltOf cfR
  rw [decide_eq_decide]
  exact cmpB_lt _ _
theorem swoR (key : Nat → Wd) (n : Nat) : SWO (ltOf (cfR key n)) where
  irrefl x := by rw [ltR]; exact decide_eq_false (wd_irr _)
  trans x y z h1 h2 := by
    rw [ltR] at *
    exact decide_eq_true (wd_tr (of_decide_eq_true h1) (of_decide_eq_true h2))
  ntrans x y z h1 h2 := by
    rw [ltR] at *
    refine decide_eq_false fun h => ?_
    rcases wd_tri (key x.1) (key y.1) with e | e | e
    · exact of_decide_eq_false h1 e
    · rw [e] at h; exact of_decide_eq_false h2 h
    · exact of_decide_eq_false h2 (wd_tr e h)
theorem srt_key {key : Nat → Wd} {n : Nat} {ord : List Nat} (hinj : ∀ i j, i < n → j < n → key i = key j → i = j) (h : Srt n (cfR key n) ord) : ord = ordK key n := by
  obtain ⟨h1, h2, l, rfl, h3⟩ := h
  refine ordK_unique key hinj ?_ h2
  unfold Asc
  rw [List.pairwise_map, List.pairwise_map]
  refine h3.imp fun {a b} hab => ?_
  rcases hab with e | ⟨e, e2⟩
  · rw [ltR] at e; exact of_decide_eq_true e
  · rw [ltR] at e
    rcases wd_tri (key a.1) (key b.1) with q | q | q
    · exact q
    · have e3 : a.1 = b.1 := hinj _ _ a.2 b.2 q
      have e4 : a.1 < b.1 := e2
      omega
    · exact absurd q (of_decide_eq_false e)
def cfC (c : Nat → Nat) (n : Nat) (x y : Fin n) : Int := Lib.compareInt (c y.1 : Int) (c x.1 : Int)
theorem ltC (c : Nat → Nat) (n : Nat) (x y : Fin n) : ltOf (cfC c n) x y = decide (c y.1 < c x.1) := by
  unfold ltOf cfC Lib.compareInt
  by_cases h1 : (c y.1 : Int) < c x.1
  · have : c y.1 < c x.1 := by omega
    simp [this]
  · have : ¬ c y.1 < c x.1 := by omega
    by_cases h2 : (c x.1 : Int) < c y.1
    · have : c x.1 < c y.1 := by omega
      simp [this]; omega
    · simp [this]; omega
theorem swoC (c : Nat → Nat) (n : Nat) : SWO (ltOf (cfC c n)) where
  irrefl x := by rw [ltC]; simp
  trans x y z h1 h2 := by rw [ltC] at *; simp at *; omega
  ntrans x y z h1 h2 := by rw [ltC] at *; simp at *; omega
theorem srt_cnt {c : Nat → Nat} {n : Nat} {ord : List Nat} (h : Srt n (cfC c n) ord) : ord = ordC c n := by
  obtain ⟨h1, h2, l, rfl, h3⟩ := h
  refine ordC_unique c ?_ h2
  rw [List.pairwise_map]
  refine h3.imp fun {a b} hab => ?_
  unfold Dsc
  rcases hab with e | ⟨e, e2⟩
  · rw [ltC] at e; exact .inl (of_decide_eq_true e)
  · rw [ltC] at e
    have := of_decide_eq_false e
    simp only at e2
    omega

/-- A box with a slice in it. -/
def BoxS (W : World) (B : Nat) (A : Option Addr) (n cap : Nat) : Prop := W.cell? ⟨B, 0, none⟩ = some (.slice A n cap)

set_option maxRecDepth 100000 in
set_option maxHeartbeats 2000000 in
theorem reverse1_any {W : World} {ks : List Wd} {n : Nat} (hn : ks.length = n) (Bx : Nat) (A : Option Addr) (cap : Nat) (hv : Rows 1 EStr W (.slice A n cap) ks) (hb : BoxS W Bx A n cap) (x y : Fin n) :
    Calls Try.prog 85 (#[.int .i64 (x.1 : Int), .int .i64 (y.1 : Int)] ++ #[.pointer (some ⟨Bx, 0, none⟩)]) W fun e w' => e = .returned (.int .i64 (cfR (fun i => ks.getD i []) n x y)) ∧ ∃ q, w' = W.drewN q := by
  obtain ⟨i, hi⟩ := x
  obtain ⟨j, hj⟩ := y
  unfold cfR
  simp only
  unfold BoxS at hb
  obtain ⟨b, off, rfl, -, hc⟩ := at_str hv (by omega)
  have hx := List.getElem?_eq_getElem (l := ks) (i := i) (by omega)
  have hy := List.getElem?_eq_getElem (l := ks) (i := j) (by omega)
  have c1 := hc i _ hx
  have c2 := hc j _ hy
  simp only [List.getD_eq_getElem?_getD, hx, hy]
  simp only [Option.getD_some]
  obtain ⟨s1, hs1⟩ : ∃ z, ks[i]'(by omega) = z := ⟨_, rfl⟩
  obtain ⟨s2, hs2⟩ : ∃ z, ks[j]'(by omega) = z := ⟨_, rfl⟩
  rw [hs1] at c1 ⊢
  rw [hs2] at c2 ⊢
  obtain ⟨S1, hS1⟩ : ∃ z : ByteArray, (⟨s1.toArray⟩ : ByteArray) = z := ⟨_, rfl⟩
  obtain ⟨S2, hS2⟩ : ∃ z : ByteArray, (⟨s2.toArray⟩ : ByteArray) = z := ⟨_, rfl⟩
  have hcon := fun W' => Try.strings_Compare S1 S2 W'
  have e1 : S1.data.toList = s1 := by rw [← hS1]
  have e2 : S2.data.toList = s2 := by rw [← hS2]
  rw [e1, e2] at hcon
  rw [hS1] at c1
  rw [hS2] at c2
  obtain ⟨r, hr⟩ : ∃ r, Lib.compareBytes s1 s2 = r := ⟨_, rfl⟩
  rw [hr] at hcon ⊢
  have hii : (i : Int) < (n : Int) := by omega
  have hjj : (j : Int) < (n : Int) := by omega
  have HC := Lib.hid hcon
  clear hcon hr hs1 hs2 hS1 hS2 e1 e2 hx hy hc hv
  go_enter Try.func85, Try.ntmps85
  go_wp2_with fail
  go_quiet ((go_at_call 86; exact Calls.quiet_of_same (HC.out _)))
  go_wp2_with fail
  go_ret
  exact ⟨rfl, _, rfl⟩

set_option maxRecDepth 100000 in
set_option maxHeartbeats 2000000 in
theorem count1_any {W : World} {cs : List Nat} {n : Nat} (hn : cs.length = n) (Bx : Nat) (A : Option Addr) (cap : Nat) (hv : Rows 1 EInt W (.slice A n cap) (cs.map fun (c : Nat) => (c : Int))) (hb : BoxS W Bx A n cap) (x y : Fin n) :
    Calls Try.prog 87 (#[.int .i64 (x.1 : Int), .int .i64 (y.1 : Int)] ++ #[.pointer (some ⟨Bx, 0, none⟩)]) W fun e w' => e = .returned (.int .i64 (cfC (fun i => cs.getD i 0) n x y)) ∧ ∃ q, w' = W.drewN q := by
  obtain ⟨i, hi⟩ := x
  obtain ⟨j, hj⟩ := y
  unfold cfC
  simp only
  unfold BoxS at hb
  obtain ⟨b, off, rfl, -, hc⟩ := at_int hv (by rw [List.length_map]; omega)
  have hx := List.getElem?_eq_getElem (l := cs) (i := i) (by omega)
  have hy := List.getElem?_eq_getElem (l := cs) (i := j) (by omega)
  have c1 := hc i _ (by rw [List.getElem?_map, hx]; rfl)
  have c2 := hc j _ (by rw [List.getElem?_map, hy]; rfl)
  simp only at c1 c2
  simp only [List.getD_eq_getElem?_getD, hx, hy]
  simp only [Option.getD_some]
  obtain ⟨s1, hs1⟩ : ∃ z, ((cs[i]'(by omega) : Nat) : Int) = z := ⟨_, rfl⟩
  obtain ⟨s2, hs2⟩ : ∃ z, ((cs[j]'(by omega) : Nat) : Int) = z := ⟨_, rfl⟩
  rw [hs1] at c1 ⊢
  rw [hs2] at c2 ⊢
  have hcon := fun W' => Try.cmp_Compare_int s2 s1 W'
  obtain ⟨r, hr⟩ : ∃ r, Lib.compareInt s2 s1 = r := ⟨_, rfl⟩
  rw [hr] at hcon ⊢
  have hii : (i : Int) < (n : Int) := by omega
  have hjj : (j : Int) < (n : Int) := by omega
  have HC := Lib.hid hcon
  clear hcon hr hs1 hs2 hx hy hc hv
  go_enter Try.func87, Try.ntmps87
  go_wp2_with fail
  go_quiet ((go_at_call 39; exact Calls.quiet_of_same (HC.out _)))
  go_wp2_with fail
  go_ret
  exact ⟨rfl, _, rfl⟩

/-- What an order answers: a new row of numbers. -/
def NumV (w : World) (ord : List Nat) (e : Ending) (w' : World) : Prop := ∃ v : Value, e = .returned v ∧ Rows 1 EInt w' v (ord.map fun (j : Nat) => (j : Int)) ∧ Below w.heap.size w w'

set_option maxRecDepth 100000 in
set_option maxHeartbeats 2000000 in
theorem countOrder_any {w : World} {vc : Value} {cs : List Nat} (hv : Rows 1 EInt w vc (cs.map fun (c : Nat) => (c : Int))) (hn : cs.length ≤ 4096) :
    Calls Try.prog 69 #[vc] w (NumV w (ordC (fun i => cs.getD i 0) cs.length)) := by
  obtain ⟨n, hcn⟩ : ∃ n, cs.length = n := ⟨_, rfl⟩
  have hl : (cs.map fun (c : Nat) => (c : Int)).length = n := by simp [hcn]
  obtain ⟨A, cap, rfl, hc⟩ := hv.form
  rw [hl] at hv ⊢
  rw [hcn] at hn ⊢
  obtain ⟨N, hN⟩ : ∃ N, w.heap.size = N := ⟨_, rfl⟩
  obtain ⟨X, hX⟩ : ∃ X, w.alloc (.cells #[.slice A n cap] 22) = X := ⟨_, rfl⟩
  have hbX : Below N w X := by rw [← hX, ← hN]; exact below_box w _
  have hbx : X.heap[N]? = some (.cells #[.slice A n cap] 22 (0, 0)) := by rw [← hX, ← hN]; exact block_new _ _
  have hsz : X.heap.size = N + 1 := by rw [← hX, ← hN]; simp
  have hcl : ∀ W, Below X.heap.size X W → ∀ x y : Fin n, Calls Try.prog 87 (#[.int .i64 (x.1 : Int), .int .i64 (y.1 : Int)] ++ #[.pointer (some ⟨N, 0, none⟩)]) W fun e w' => e = .returned (.int .i64 (cfC (fun i => cs.getD i 0) n x y)) ∧ ∃ q, w' = W.drewN q := fun W hW x y =>
    count1_any hcn N A cap (hv.below stays_int (by rw [hN]; exact hbX.trans (hW.mono (by omega)))) (cell_of (block_below hbx hW (by omega)) rfl) x y
  have HNB := Lib.hid ((numbersBy_any (w := X) hn (cfC (fun i => cs.getD i 0) n) (swoC _ n) 87 #[.pointer (some ⟨N, 0, none⟩)] (enters_of Try.func87 (by kernel_rfl) rfl) hcl))
  have hb0 : X.cell? ⟨N, 0, none⟩ = some (.slice A n cap) := cell_of hbx rfl
  have HX := Lib.hid hX
  have HN := Lib.hid hN
  have HBX := Lib.hid (And.intro hbX hsz)
  clear hcl hbX hbx hv hX hN hcn hl hsz
  go_enter Try.func69, Try.ntmps69
  go_upto_region 1 with fail
  rw [HX.out, HN.out]
  go_wp2_with (go_at_call 84; refine HNB.out.mono ?_; rintro e w2 ⟨v, ord, rfl, hs, hr, hb⟩)
  have HE := Lib.hid (show NumV w (ordC (fun i => cs.getD i 0) n) (.returned v) w2 from ⟨v, rfl, by rw [← srt_cnt hs]; exact hr, by
    have := HBX.out
    rw [HN.out]
    exact this.1.trans (hb.mono (by omega))⟩)
  clear hs hr hb
  go_ret
  exact HE.out
end Go.Proofs.Yteennnhinfnahaa
