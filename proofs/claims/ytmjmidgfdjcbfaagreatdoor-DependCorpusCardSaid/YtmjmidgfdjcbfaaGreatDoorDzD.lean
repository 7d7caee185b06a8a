/-
  (Stage 1's CpA without what invalid answers: the program of this seat does not reach it.)
  WALKS over package codepoint, first part: sizeAt (the width of a unit), unit.invalid, units and its iterator. Each says what a call does, for every string no longer than the model allows.
  WALKS over package codepoint, second part: the contract of the iterator over a string's units: whatever loop ranges over it is handed the units in their order, all of them or a part after which it said stop. At any string.
  WALKS over package codepoint, Position (stage 1's CpE over MeA, without VdA's Valid): line and column of a byte offset; nothing that lay has turned. At any string and any offset.
-/
import Derived.Test.YtmjmidgfdjcbfaaGreatDoorProg
import Derived.Test.YtmjmidgfdjcbfaaGreatDoorUtf
import Derived.RangeFuncNested
import Derived.RangeFuncBound
import Derived.RangeFuncCalls
import Derived.RangeFuncLeaves
import Derived.RangeFuncBox
import Derived.Shelf.Abstract
import Derived.Shelf.RegionOpen
import Derived.WalkKit
import Derived.WalkSpells
import Derived.WalkLawsBesides
import Derived.OwnWalkIn
import Derived.TacticsInMore
import Derived.LoopNIn
import Derived.LoopIn
import Derived.Lib.Hide
import Derived.BigQuiet
import Derived.Deep.QuietTactic
import Derived.Lib.OthersKept
import Derived.Test.YtmjmidgfdjcbfaaGreatDoorMeA
import Derived.Test.YtmjmidgfdjcbfaaGreatDoorRnd
namespace Go.Proofs.YtmjmidgfdjcbfaaGreatDoor.Dep
open Go.RowKit Go.Shelf Go.Lib

attribute [local go_sem] Oper.semAt_some

set_option maxHeartbeats 400000 in
/-- utf8.RuneLen, by ranges. -/
theorem runeLen_1 (c : Int) (h0 : 0 ≤ c) (h1 : c ≤ 127) (w : World) :
    Calls Tryz.prog 131 #[.int .i32 c] w fun e w' => e = .returned (.int .i64 1) ∧ w = w' := by
  go_enter Tryz.func131, Tryz.ntmps131
  go_wp2
  go_ret
  exact ⟨rfl, rfl⟩
set_option maxHeartbeats 400000 in
theorem runeLen_2 (c : Int) (h0 : 128 ≤ c) (h1 : c ≤ 2047) (w : World) :
    Calls Tryz.prog 131 #[.int .i32 c] w fun e w' => e = .returned (.int .i64 2) ∧ w = w' := by
  go_enter Tryz.func131, Tryz.ntmps131
  go_wp2
  go_ret
  exact ⟨rfl, rfl⟩
set_option maxHeartbeats 400000 in
theorem runeLen_3a (c : Int) (h0 : 2048 ≤ c) (h1 : c < 55296) (w : World) :
    Calls Tryz.prog 131 #[.int .i32 c] w fun e w' => e = .returned (.int .i64 3) ∧ w = w' := by
  go_enter Tryz.func131, Tryz.ntmps131
  go_wp2
  go_ret
  exact ⟨rfl, rfl⟩
set_option maxHeartbeats 400000 in
theorem runeLen_3b (c : Int) (h0 : 57343 < c) (h1 : c ≤ 65535) (w : World) :
    Calls Tryz.prog 131 #[.int .i32 c] w fun e w' => e = .returned (.int .i64 3) ∧ w = w' := by
  go_enter Tryz.func131, Tryz.ntmps131
  go_wp2
  go_ret
  exact ⟨rfl, rfl⟩
set_option maxHeartbeats 400000 in
theorem runeLen_4 (c : Int) (h0 : 65536 ≤ c) (h1 : c ≤ 1114111) (w : World) :
    Calls Tryz.prog 131 #[.int .i32 c] w fun e w' => e = .returned (.int .i64 4) ∧ w = w' := by
  go_enter Tryz.func131, Tryz.ntmps131
  go_wp2
  go_ret
  exact ⟨rfl, rfl⟩

set_option maxHeartbeats 400000 in
/-- strings.HasPrefix. -/
theorem slHasPrefix_short (t q : ByteArray) (h : t.size < q.size) (w : World) :
    Calls Tryz.prog 142 #[.string t, .string q] w fun e w' => e = .returned (.bool false) ∧ w = w' := by
  go_enter Tryz.func142, Tryz.ntmps142
  go_wp2
  go_ret
  exact ⟨rfl, rfl⟩
set_option maxHeartbeats 400000 in
theorem slHasPrefix_long (t q : ByteArray) (h : q.size ≤ t.size) (w : World) :
    Calls Tryz.prog 142 #[.string t, .string q] w fun e w' => e = .returned (.bool ((t.extract 0 q.size).toList == q.toList)) ∧ w = w' := by
  go_enter Tryz.func142, Tryz.ntmps142
  go_wp2
  go_ret
  exact ⟨rfl, rfl⟩
/-- Do the bytes EF BF BD stand in front? -/
def fffdB (l : List UInt8) : Bool := decide (l.take 3 = [239, 191, 189])
theorem toList_d (b : ByteArray) : b.toList = b.data.toList := Lib.toList_data b
set_option maxHeartbeats 400000 in
theorem hasPrefix_fffd (t : ByteArray) (w : World) :
    Calls Tryz.prog 130 #[.string t, .string ⟨#[239, 191, 189]⟩] w fun e w' => e = .returned (.bool (fffdB t.data.toList)) ∧ w = w' := by
  by_cases h : 3 ≤ t.size
  · have e3 : ((t.extract 0 3).toList == [239, 191, 189]) = fffdB t.data.toList := by
      rw [toList_d, Lib.extract_data, List.drop_zero]
      unfold fffdB
      rw [Bool.eq_iff_iff]
      simp
    have H := Lib.hid e3
    have h3 : ByteArray.size ⟨#[239, 191, 189]⟩ ≤ t.size := h
    have H3 := Lib.hid h3
    clear e3 h h3
    go_enter Tryz.func130, Tryz.ntmps130
    go_wp2_with (go_at_call 142; refine (slHasPrefix_long _ _ H3.out _).mono ?_; rintro e w' ⟨rfl, rfl⟩)
    go_ret
    rw [H.out]
    exact ⟨rfl, rfl⟩
  · have e3 : fffdB t.data.toList = false := by
      unfold fffdB
      rw [decide_eq_false_iff_not]
      intro h3
      have := congrArg List.length h3
      rw [List.length_take, ← Lib.size_eq] at this
      simp at this
      omega
    have H := Lib.hid e3
    have h3 : t.size < ByteArray.size ⟨#[239, 191, 189]⟩ := Nat.lt_of_not_le h
    have H3 := Lib.hid h3
    clear e3 h h3
    go_enter Tryz.func130, Tryz.ntmps130
    go_wp2_with (go_at_call 142; refine (slHasPrefix_short _ _ H3.out _).mono ?_; rintro e w' ⟨rfl, rfl⟩)
    go_ret
    rw [H.out]
    exact ⟨rfl, rfl⟩

set_option maxHeartbeats 400000 in
/-- sizeAt, where the code point is not U+FFFD. -/
theorem sizeAt_rune (s : ByteArray) (p : Int) (c k : Int) (hc : (c == 65533) = false) (hR : ∀ w, Calls Tryz.prog 131 #[.int .i32 c] w fun e w' => e = .returned (.int .i64 k) ∧ w = w') (w : World) :
    Calls Tryz.prog 106 #[.string s, .int .i64 p, .int .i32 c] w fun e w' => e = .returned (.int .i64 k) ∧ w = w' := by
  have HR := Lib.hid hR
  clear hR
  go_enter Tryz.func106, Tryz.ntmps106
  go_wp2_with (go_at_call 131; refine (HR.out _).mono ?_; rintro e w' ⟨rfl, rfl⟩)
  go_ret
  exact ⟨rfl, rfl⟩
set_option maxHeartbeats 400000 in
/-- sizeAt, where it is. -/
theorem sizeAt_error (s : ByteArray) (p : Nat) (hp : p ≤ s.size) (b : Bool) (hb : fffdB (s.extract p s.size).data.toList = b) (w : World) :
    Calls Tryz.prog 106 #[.string s, .int .i64 p, .int .i32 65533] w fun e w' => e = .returned (.int .i64 (if b then 3 else 1)) ∧ w = w' := by
  have HP : ∀ w, Calls Tryz.prog 130 #[.string (s.extract p s.size), .string ⟨#[239, 191, 189]⟩] w fun e w' => e = .returned (.bool b) ∧ w = w' := by
    intro w
    rw [← hb]
    exact hasPrefix_fffd _ w
  have HR := Lib.hid HP
  clear HP hb
  cases b
  · go_enter Tryz.func106, Tryz.ntmps106
    go_wp2_with (go_at_call 130; refine (HR.out _).mono ?_; rintro e w' ⟨rfl, rfl⟩)
    go_ret
    exact ⟨rfl, rfl⟩
  · go_enter Tryz.func106, Tryz.ntmps106
    go_wp2_with (first | (go_at_call 130; refine (HR.out _).mono ?_; rintro e w' ⟨rfl, rfl⟩) | (go_at_call 131; refine (runeLen_3b _ (by omega) (by omega) _).mono ?_; rintro e w' ⟨rfl, rfl⟩))
    go_ret
    exact ⟨rfl, rfl⟩

/-- Is a unit of code point c with n bytes an invalid one? -/
def invB (c : Int) (n : Nat) : Bool := decide (c = 65533 ∧ n = 1)
set_option maxHeartbeats 400000 in
/-- units: the string goes into a variable, which the iterator captures. -/
theorem units_fn (s : ByteArray) (w : World) :
    Calls Tryz.prog 77 #[.string s] w fun e w' => e = .returned (.func (.func 105) #[] #[.pointer (some ⟨w.heap.size, 0, none⟩)]) ∧ w' = w.alloc (.cells #[.string s] 9) := by
  go_enter Tryz.func77, Tryz.ntmps77
  go_wp2
  go_ret
  exact ⟨rfl, rfl⟩

/-- What sizeAt gives at a unit: its width. -/
theorem sizeAt_unit (s : ByteArray) (p : Nat) (hp : p < s.size) (w : World) :
    Calls Tryz.prog 106 #[.string s, .int .i64 p, .int .i32 ((Utf8.decode s p).1 : Nat)] w fun e w' => e = .returned (.int .i64 ((Utf8.decode s p).2 : Nat)) ∧ w = w' := by
  have hd := Lib.decodeL_drop s p
  have hc := decodeL_c_le (s.data.toList.drop p)
  by_cases he : (Utf8.decode s p).1 = 65533
  · have hw := width_of_error (s.data.toList.drop p) (by rw [hd]; exact he)
    rw [hd] at hw
    have hx : (s.extract p s.size).data.toList = s.data.toList.drop p := by
      rw [Lib.extract_data, List.take_of_length_le]
      rw [List.length_drop, ← Lib.size_eq]
      exact Nat.le_refl _
    rw [he]
    have := sizeAt_error s p (Nat.le_of_lt hp) (fffdB (s.data.toList.drop p)) (by rw [hx]) w
    have e2 : (((Utf8.decode s p).2 : Nat) : Int) = (if fffdB (s.data.toList.drop p) then 3 else 1) := by
      rw [hw]
      unfold fffdB
      by_cases h3 : List.take 3 (List.drop p s.data.toList) = [239, 191, 189] <;> simp [h3]
    rw [e2]
    exact this
  · have hw := width_of_rune (s.data.toList.drop p) (by rw [hd]; exact he)
    rw [hd] at hw hc
    rw [← hw]
    generalize hg : (((Utf8.decode s p).1 : Nat) : Int) = c
    have h0 : 0 ≤ c := by omega
    have h1 : c ≤ 1114111 := by omega
    have hne : (c == 65533) = false := by simp; omega
    have hpos : (1 : Int) ≤ runeLen c := by
      have := Lib.decodeL_width (s.data.toList.drop p)
      rw [hd] at this
      rw [← hg, hw]
      omega
    refine sizeAt_rune s p c _ hne (fun w => ?_) w
    clear hg hw hne
    have hr : runeLen c = if c ≤ 127 then 1 else if c ≤ 2047 then 2 else if 55296 ≤ c ∧ c ≤ 57343 then -1 else if c ≤ 65535 then 3 else 4 := by
      unfold runeLen
      repeat' split
      all_goals omega
    by_cases a1 : c ≤ 127
    · rw [hr, if_pos a1]; exact runeLen_1 c h0 a1 w
    · by_cases a2 : c ≤ 2047
      · rw [hr, if_neg a1, if_pos a2]; exact runeLen_2 c (by omega) a2 w
      · by_cases a3 : 55296 ≤ c ∧ c ≤ 57343
        · rw [hr, if_neg a1, if_neg a2, if_pos a3] at hpos
          omega
        · by_cases a4 : c ≤ 65535
          · rw [hr, if_neg a1, if_neg a2, if_neg a3, if_pos a4]
            by_cases a5 : c < 55296
            · exact runeLen_3a c (by omega) a5 w
            · exact runeLen_3b c (by omega) a4 w
          · rw [hr, if_neg a1, if_neg a2, if_neg a3, if_neg a4]; exact runeLen_4 c (by omega) h1 w
end Go.Proofs.YtmjmidgfdjcbfaaGreatDoor.Dep
namespace Go.Proofs.YtmjmidgfdjcbfaaGreatDoor.Dep
open Go.RowKit Go.Shelf Go.Lib

attribute [local go_sem] Oper.semAt_some

/-- The units of a string. -/
def units (s : ByteArray) : List U := unitsA s.data.toList 0
/-- A unit of s. -/
abbrev Un (s : ByteArray) := { u : U // u ∈ units s }
/-- A unit as the iterator hands it over. -/
def uval (s : ByteArray) (u : U) : Value := .agg #[.int .i32 (u.c : Int), .int .i64 (u.p : Int), .string (s.extract u.p (u.p + u.w))]
def encU (s : ByteArray) (u : U) : Array Value := #[uval s u]
/-- What a round keeps for the iterator: whatever lay below n₀, the walks' objects, and the variable that the iterator has captured. -/
def KeepsIt (n₀ Bn : Nat) (W W' : World) : Prop := Below n₀ W W' ∧ KeepsWalks W W' ∧ W'.heap[Bn]? = W.heap[Bn]?

theorem keepsIt_t {n₀ Bn : Nat} {A B C : World} (h : KeepsIt n₀ Bn A B) (k : KeepsIt n₀ Bn B C) : KeepsIt n₀ Bn A C := ⟨h.1.trans k.1, h.2.1.trans k.2.1, k.2.2.trans h.2.2⟩
theorem keepsIt_b {n₀ Bn : Nat} {w : World} (hn : n₀ ≤ w.heap.size) (hb : Bn < w.heap.size) (W : World) (l : Nat) (o o' : Obj) (hl : w.heap.size ≤ l) (h : W.heap[l]? = some o) (h1 : o.isCells = false) (h2 : o.isWalk = false) : KeepsIt n₀ Bn W (W.putObj l o') :=
  ⟨belowK_b hn W l o o' hl h h1 h2, KeepsWalks.putObj _ h h2, World.putObj_heap_other (by omega)⟩
/-- A round that leaves alone all that lay keeps it. -/
theorem keepsIt_below {n₀ Bn B : Nat} {W W' : World} (h : Below B W W') (hB : W.heap.size ≤ B) (hn : n₀ ≤ B) (hb : Bn < B) : KeepsIt n₀ Bn W W' :=
  ⟨h.mono hn, ⟨h.size, fun k _ hk _ => (h.block k (Nat.lt_of_lt_of_le (Array.getElem?_eq_some_iff.1 hk).1 hB)).trans hk⟩, h.block Bn hb⟩
/-- A store into a variable of the round's own. -/
theorem keepsIt_setCell {n₀ Bn : Nat} (W : World) (b i : Nat) (hn : n₀ ≤ b) (hb : Bn ≠ b) (v : Value) : KeepsIt n₀ Bn W (W.setCell ⟨b, i, none⟩ v) :=
  ⟨(Below.refl n₀ W).setCell (p := ⟨b, i, none⟩) hn v, KeepsWalks.setCell W _ v, Below.heap_setCell W ⟨b, i, none⟩ v Bn hb⟩
theorem keepsIt_alloc {n₀ Bn : Nat} (W : World) (hn : n₀ ≤ W.heap.size) (hb : Bn < W.heap.size) (o : Obj) : KeepsIt n₀ Bn W (W.alloc o) :=
  ⟨(Below.refl n₀ W).alloc hn o, KeepsWalks.alloc W o, Below.heap_alloc W o Bn hb⟩
theorem keepsIt_drew {n₀ Bn : Nat} (W : World) : KeepsIt n₀ Bn W W.drew := ⟨(Below.refl n₀ W).drew, ⟨Nat.le_refl _, fun _ _ h _ => h⟩, rfl⟩
theorem keepsIt_refl {n₀ Bn : Nat} (W : World) : KeepsIt n₀ Bn W W := ⟨Below.refl n₀ W, KeepsWalks.refl W, rfl⟩

theorem abides_drew {β : Type} {B : Nat} {J : β → World → Prop} (h : AbidesFrom B J) {s : β} {W : World} (hs : J s W) : J s W.drew :=
  h s W _ none hs ⟨rfl, rfl, rfl, Nat.le_refl _, fun _ _ _ => rfl⟩ (fun _ e => by cases e)
theorem abides_alloc {β : Type} {B : Nat} {J : β → World → Prop} (h : AbidesFrom B J) {s : β} {W : World} (o : Obj) (hs : J s W) : J s (W.alloc o) :=
  h s W _ none hs (World.grownBy_alloc W o none) (fun _ e => by cases e)
theorem abides_iterAt {β : Type} {B : Nat} {J : β → World → Prop} (h : AbidesFrom B J) {x : β} {W : World} {k : Nat} (hk : B ≤ k) {s : ByteArray} {p : Nat} (hit : W.heap[k]? = some (.stringIter s p)) (p' : Nat) (hs : J x W) : J x (W.iterAt k s p') :=
  h x W _ (some k) hs ⟨rfl, rfl, rfl, by rw [Lib.iterAt_size]; exact Nat.le_refl _, fun j _ hj => Lib.iterAt_other W k j s p' (fun e => hj (by rw [e]))⟩
    (fun r e => by cases e; exact ⟨hk, _, hit, rfl⟩)

theorem units_tail (s : ByteArray) (p : Nat) (hp : p < s.size) :
    unitsA (s.data.toList.drop p) p = { c := (Utf8.decode s p).1, p := p, w := (Utf8.decode s p).2 } :: unitsA (s.data.toList.drop (p + (Utf8.decode s p).2)) (p + (Utf8.decode s p).2) := by
  have hne : s.data.toList.drop p ≠ [] := by
    intro h
    have := congrArg List.length h
    rw [List.length_drop, ← Lib.size_eq] at this
    simp at this
    omega
  rw [unitsA_step _ _ hne, Lib.decodeL_drop, List.drop_drop]
theorem units_end (s : ByteArray) (p : Nat) (hp : ¬ p < s.size) : unitsA (s.data.toList.drop p) p = [] := by
  have : s.data.toList.drop p = [] := List.drop_eq_nil_of_le (by rw [← Lib.size_eq]; omega)
  rw [this, unitsA_nil]

/-- What a round has answered, and what it has left. -/
def AfterY {s : ByteArray} (n₀ Bn : Nat) (J Jx : List (Un s) → World → Prop) (xs : List (Un s)) (W : World) (b : Bool) (W' : World) : Prop :=
  (b = true → J xs W' ∧ KeepsIt n₀ Bn W W') ∧ (b = false → Jx xs W')

set_option maxRecDepth 100000 in
set_option maxHeartbeats 1000000 in
theorem iter_in (n : Nat) (hn : 1 ≤ n) (l Bn n₀ : Nat) (s : ByteArray) (hs : s.size ≤ maxLen) (J Jx : List (Un s) → World → Prop) (B : Nat) (hJ : AbidesFrom B J)
    (hY : ∀ pre (x : Un s) W, J pre W → pre.length < (units s).length → YieldAt Fence.wide (n - 1) Tryz.prog l (encU s x.1) W fun e W' =>
      (e = .returned (.bool true) ∧ J (pre ++ [x]) W' ∧ KeepsIt n₀ Bn W W') ∨ (e = .returned (.bool false) ∧ Jx (pre ++ [x]) W'))
    (W : World) (hB : B ≤ W.heap.size) (hBn : W.cell? ⟨Bn, 0, none⟩ = some (.string s)) (hBl : Bn < W.heap.size) (h0 : J [] W) :
    CallsIn Fence.wide n Tryz.prog 105 #[.func (.yield l) #[] #[], .pointer (some ⟨Bn, 0, none⟩)] W fun e W' => (∃ v, e = .returned v) ∧
      ((∃ ys : List (Un s), ys.map (·.1) = units s ∧ J ys W') ∨ (∃ pre : List (Un s), pre.map (·.1) <+: units s ∧ Jx pre W')) := by
  refine callsIn_of_wp Tryz.func105 rfl trivial ?_ rfl
  simp only [Tryz.ntmps105, List.size_toArray, List.length_cons, List.length_nil, Nat.reduceAdd, Nat.reduceSub, Array.replicate_succ, Array.replicate_zero, List.push_toArray, List.append_toArray, List.nil_append, List.cons_append]
  unfold maxLen at hs
  gi_wp2
  gi_loopw [] (fun wr => ∃ (pre : List (Un s)) (p : Nat), p ≤ s.size ∧ pre.map (·.1) ++ unitsA (s.data.toList.drop p) p = units s ∧ wr.heap[W.heap.size]? = some (.stringIter s p) ∧ wr.cell? ⟨Bn, 0, none⟩ = some (.string s) ∧ J pre wr)
    (fun wr => s.size - wr.iterPos W.heap.size)
  case atStart =>
    exact ⟨[], 0, Nat.zero_le _, rfl, World.iter_heap _ _ _, by rw [← hBn]; exact ((Below.refl W.heap.size W).alloc (Nat.le_refl _) _).cell (p := ⟨Bn, 0, none⟩) hBl, abides_alloc hJ _ h0⟩
  case round =>
    obtain ⟨pre, p, hp, hun, hit, hcb, hJs⟩ := hrel
    by_cases hlt : p < s.size
    · have hsz := sizeAt_unit s p hlt
      have htl := units_tail s p hlt
      have hmem : (⟨(Utf8.decode s p).1, p, (Utf8.decode s p).2⟩ : U) ∈ units s := by
        rw [← hun, htl]; simp
      have hfit := units_fit _ _ _ hmem
      have hlen : pre.length < (units s).length := by
        rw [← hun, htl]; simp
      have hnx := fun ty => Lib.run_next_any_at (P := Tryz.prog) wr W.heap.size s p ty hit hlt
      have hit2 := Lib.iterAt_heap wr W.heap.size s p (p + (Utf8.decode s p).2) hit
      have hJ2 := abides_drew hJ (abides_iterAt hJ hB hit (p + (Utf8.decode s p).2) hJs)
      obtain ⟨W2, hW2⟩ : ∃ W2, wr.iterAt W.heap.size s (p + (Utf8.decode s p).2) = W2 := ⟨_, rfl⟩
      have hcb2 : W2.cell? ⟨Bn, 0, none⟩ = some (.string s) := by
        rw [← hW2, ← hcb]; exact (Lib.below_iterAt (Below.refl W.heap.size wr) (Nat.le_refl _) s _).cell (p := ⟨Bn, 0, none⟩) hBl
      rw [hW2] at hit2 hJ2
      have hb : 1 ≤ (Utf8.decode s p).2 ∧ p + (Utf8.decode s p).2 ≤ s.size ∧ (Utf8.decode s p).1 ≤ 1114111 := by
        obtain ⟨_, h2, h3, _, h5, _, _⟩ := hfit
        simp only at h2 h3 h5
        rw [← Lib.size_eq] at h2
        exact ⟨h3, by omega, h5⟩
      obtain ⟨x0, hx0⟩ : ∃ x0 : Un s, x0.1 = ⟨(Utf8.decode s p).1, p, (Utf8.decode s p).2⟩ := ⟨⟨_, hmem⟩, rfl⟩
      have hY2 := hY pre x0 W2.drew hJ2 hlen
      obtain ⟨fn, tmps, assign, body, hy, hR⟩ := hY2
      rw [hx0] at hy
      dsimp only [encU, uval] at hy
      have hnx2 : ∀ ty, (Instr.next (.pointer (some ⟨W.heap.size, 0, none⟩)) true ty).run Tryz.prog wr = .ok (.tuple #[.bool true, .int .i64 p, .int .i32 ((Utf8.decode s p).1 : Nat)]) W2 := fun ty => by rw [hnx ty, hW2]
      obtain ⟨c, hc⟩ : ∃ c, (Utf8.decode s p).1 = c := ⟨_, rfl⟩
      obtain ⟨k, hk⟩ : ∃ k, (Utf8.decode s p).2 = k := ⟨_, rfl⟩
      rw [hc] at hy hnx2 hsz hb htl hx0
      rw [hk] at hy hsz hb hit2 htl hx0
      have key0 : (pre ++ [x0]).map (·.1) ++ unitsA (s.data.toList.drop (p + k)) (p + k) = units s := by
        rw [List.map_append, List.map_cons, List.map_nil, hx0, List.append_assoc]
        rw [htl] at hun
        exact hun
      have key := Lib.hid key0
      have HS := Lib.hid hsz
      have HI := Lib.hid hit2
      have hpos : wr.iterPos W.heap.size = p := by simp only [World.iterPos, hit]
      have HP := Lib.hid hpos
      clear hpos
      obtain ⟨hb1, hb2, hb3⟩ := hb
      clear key0 hnx hsz hun htl hx0 hit2 hW2 hc hk hcb hit hJs hfit hJ2 hmem
      have hwr : IntKind.i64.wrap ((p : Int) + k) = (p : Int) + k := by rw [IntKind.wrap_i64]; omega
      have hR2 := hR.mono (R' := fun e W' => ∃ b, e = .returned (.bool b) ∧ AfterY n₀ Bn J Jx (pre ++ [x0]) W2.drew b W') (fun e W' h => by
        rcases h with ⟨h1, h2, h3⟩ | ⟨h1, h2⟩
        · exact ⟨true, h1, fun _ => ⟨h2, h3⟩, fun h => by cases h⟩
        · exact ⟨false, h1, (fun h => by cases h), fun _ => h2⟩)
      clear hR
      gi_wp2
      have hmx : Tryz.prog.follows .mixedOrders = true := by kernel_rfl
      gi_region_with_o (first | (refine ⟨trivial, ?_⟩; gi_at_call 106; refine (callsIn_wide.2 (HS.out _)).mono ?_; rintro e w' ⟨rfl, rfl⟩) | (refine hR2.mono ?_; rintro e w' ⟨b, rfl, h3⟩))
      all_goals
        cases b
        · gi_wp2
          refine bodyPost_ret (results_none rfl _ _ _) rfl ?_
          refine ⟨⟨_, rfl⟩, .inr ⟨pre ++ [x0], ?_, h3.2 rfl⟩⟩
          refine ⟨unitsA (s.data.toList.drop (p + k)) (p + k), ?_⟩
          exact key.out
        · obtain ⟨hJ3, hk3⟩ := h3.1 rfl
          have hcb3 : w'.cell? ⟨Bn, 0, none⟩ = some (.string s) := (World.cell?_of_block (w := W2.drew) (a := ⟨Bn, 0, none⟩) hk3.2.2).trans hcb2
          have hit3 : w'.heap[W.heap.size]? = some (.stringIter s (p + k)) := hk3.2.1.same _ _ HI.out rfl
          have HI3 := Lib.hid hit3
          clear hit3
          gi_wp2
          go_roundw
          case rel =>
            (repeat apply Exists.intro)
            exact ⟨⟨pre ++ [x0], p + k, hb2, key.out, HI3.out, hcb3, hJ3⟩, rfl⟩
          case measure =>
            have e1 : w'.iterPos W.heap.size = p + k := by simp only [World.iterPos, HI3.out]
            rw [e1, HP.out]
            omega
    · have hnx := fun ty => Lib.run_next_end_at (P := Tryz.prog) wr W.heap.size s p ty hit hlt
      have hend := units_end s p hlt
      rw [hend, List.append_nil] at hun
      have HU := Lib.hid hun
      clear hun hend hit
      gi_wp2
      go_end0
      exact ⟨⟨_, rfl⟩, .inl ⟨pre, HU.out, hJs⟩⟩

/-- units(s) hands back a value that gives the units of s, in their order, to whatever loop. -/
theorem units_stops (n : Nat) (hn : 1 ≤ n) (Bn n₀ : Nat) (s : ByteArray) (hs : s.size ≤ maxLen) (w : World) (hBn : Bn < w.heap.size) (hc : w.cell? ⟨Bn, 0, none⟩ = some (.string s)) :
    SeqStopsK Fence.wide n Tryz.prog 105 #[.pointer (some ⟨Bn, 0, none⟩)] (fun x : Un s => encU s x.1) (KeepsIt n₀ Bn) (fun ys => ys.map (·.1) = units s) (fun pre => pre.map (·.1) <+: units s) (units s).length w :=
  fun l J Jx W hW hJ _ hY h0 => iter_in n hn l Bn n₀ s hs J Jx W.heap.size hJ hY W (Nat.le_refl _) ((hW.cell (p := ⟨Bn, 0, none⟩) hBn).trans hc) (Nat.lt_of_lt_of_le hBn hW.size) h0
end Go.Proofs.YtmjmidgfdjcbfaaGreatDoor.Dep
namespace Go.Proofs.YtmjmidgfdjcbfaaGreatDoor.Dep
open Go.RowKit Go.Shelf Go.Lib

theorem units_le (s : ByteArray) : (units s).length ≤ s.size := by
  rw [Lib.size_eq]; exact unitsA_len _ _


attribute [local go_sem] Oper.semAt_some

/-- Block B holds unit u of s in a variable of its own. -/
def Boxed3 (W : World) (B : Nat) (s : ByteArray) (u : U) : Prop :=
  W.heap[B]? = some (.cells #[.int .i32 (u.c : Int), .int .i64 (u.p : Int), .string (s.extract u.p (u.p + u.w))] 128 (0, 0))
theorem Boxed3.cells {W : World} {B : Nat} {s : ByteArray} {u : U} (h : Boxed3 W B s u) :
    W.cell? ⟨B, 0, none⟩ = some (.int .i32 (u.c : Int)) ∧ W.cell? ⟨B, 1, none⟩ = some (.int .i64 (u.p : Int)) ∧ W.cell? ⟨B, 2, none⟩ = some (.string (s.extract u.p (u.p + u.w))) := by
  refine ⟨?_, ?_, ?_⟩ <;> simp [World.cell?, show W.heap[B]? = _ from h]
theorem cells_own {β : Type} (B : Nat) (c : Array Value) (t : TypeId) (f : Nat × Nat) : Own (fun (_ : β) W => W.heap[B]? = some (.cells c t f)) := fun s X Y row hs hg hrow =>
  (hg.block B (Array.getElem?_eq_some_iff.1 hs).1 (fun e' => by obtain ⟨o, ho, hc⟩ := hrow B e'.symm; rw [hs] at ho; cases ho; cases hc)).trans hs
theorem size_own {β : Type} (B m : Nat) : OwnFrom B (fun (_ : β) W => m ≤ W.heap.size) := fun _ _ _ _ hs hg _ => Nat.le_trans hs hg.size
theorem Boxed3.new (W : World) (s : ByteArray) (u : U) : Boxed3 (W.alloc (.cells #[.int .i32 (u.c : Int), .int .i64 (u.p : Int), .string (s.extract u.p (u.p + u.w))] 128)) W.heap.size s u := World.alloc_heap_new W _
theorem boxed_below {W W' : World} {B N : Nat} {t : TypeId} {v : Value} (h : Boxed W B t v) (hb : Below N W W') (hN : B < N) : Boxed W' B t v := (hb.block B hN).trans h
theorem keepsFrom_below {B : Nat} {W W' : World} (h : Below W.heap.size W W') : KeepsFrom B W W' := ⟨h.size, fun k _ _ hk _ => (h.block k (Array.getElem?_eq_some_iff.1 hk).1).trans hk⟩
theorem ext_size (s : ByteArray) (u : Un s) : (s.extract u.1.p (u.1.p + u.1.w)).size = u.1.w := by
  have h := units_fit _ _ _ u.2
  obtain ⟨_, h2, _⟩ := h
  rw [← Lib.size_eq] at h2
  rw [Lib.size_eq, Lib.extract_data, List.length_take, List.length_drop, ← Lib.size_eq]
  omega
/-- Is a unit invalid? -/
def badU (u : U) : Bool := invB u.c u.w


attribute [local go_sem] Oper.semAt_some

theorem block_setU {W : World} {B i : Nat} {cs : Array Value} {t : TypeId} {f : Nat × Nat} (v : Value) (h : W.heap[B]? = some (.cells cs t f)) :
    (W.setCell ⟨B, i, none⟩ v).heap[B]? = some (.cells (cs.setIfInBounds i v) t f) := set_of h v

/-- Line and column behind a unit. -/
def stepP (q : Nat × Nat) (u : U) : Nat × Nat := if u.c = 10 then (q.1 + 1, 1) else (q.1, q.2 + 1)
/-- Line and column behind some units. -/
def posP (us : List U) : Nat × Nat := us.foldl stepP (1, 1)
theorem posP_snoc (us : List U) (u : U) : posP (us ++ [u]) = stepP (posP us) u := by simp [posP]
theorem posP_le : ∀ us : List U, (posP us).1 ≤ us.length + 1 ∧ (posP us).2 ≤ us.length + 1 := by
  intro us
  have key : ∀ (us : List U) (q : Nat × Nat), 1 ≤ q.2 → (us.foldl stepP q).1 ≤ us.length + q.1 ∧ (us.foldl stepP q).2 ≤ us.length + q.2 := by
    intro us
    induction us with
    | nil => intro q _; simp
    | cons u us ih =>
      intro q h1
      have := ih (stepP q u) (by unfold stepP; split <;> simp)
      simp only [List.foldl_cons, List.length_cons]
      have e : (stepP q u).1 ≤ q.1 + 1 ∧ (stepP q u).2 ≤ q.2 + 1 := by
        unfold stepP
        split <;> simp
      omega
  exact key us (1, 1) (Nat.le_refl _)
/-- The units that begin before an offset. -/
def before (s : ByteArray) (at' : Int) : List U := (units s).takeWhile fun u => decide ((u.p : Int) < at')
/-- A position as a value. -/
def posV (q : Nat × Nat) : Array Value := #[.int .i64 (q.1 : Int), .int .i64 (q.2 : Int)]

theorem cells_ownF {β : Type} (B : Nat) (c : β → Array Value) (t : TypeId) (f : Nat × Nat) : Own (fun (b : β) W => W.heap[B]? = some (.cells (c b) t f)) := fun s X Y row hs hg hrow =>
  (hg.block B (Array.getElem?_eq_some_iff.1 hs).1 (fun e' => by obtain ⟨o, ho, hc⟩ := hrow B e'.symm; rw [hs] at ho; cases ho; cases hc)).trans hs

theorem takeWhile_all {α : Type} (f : α → Bool) : ∀ (l : List α), (∀ x ∈ l, f x = true) → l.takeWhile f = l
  | [], _ => rfl
  | a :: l, h => by
    rw [List.takeWhile_cons, if_pos (h a (by simp)), takeWhile_all f l (fun x hx => h x (by simp [hx]))]
theorem takeWhile_stop {α : Type} (f : α → Bool) (x : α) (r : List α) : ∀ (l : List α), (∀ x ∈ l, f x = true) → f x = false → (l ++ x :: r).takeWhile f = l
  | [], _, hx => by simp [hx]
  | a :: l, h, hx => by
    rw [List.cons_append, List.takeWhile_cons, if_pos (h a (by simp)), takeWhile_stop f x r l (fun x hx => h x (by simp [hx])) hx]

/-- Between two rounds of Position's loop. -/
def PosI (s : ByteArray) (at' : Int) (w : World) (pre : List (Un s)) (W : World) : Prop :=
  (W.heap[w.heap.size]? = some (.cells #[.int .i64 at'] 3 (0, 0)) ∧ W.heap[w.heap.size + 1]? = some (.cells #[.int .i64 0, .int .i64 0] 69 (0, 0)) ∧ W.heap[w.heap.size + 2]? = some (.cells (posV (posP (pre.map (·.1)))) 69 (0, 0)) ∧
    (∀ u ∈ pre.map (·.1), decide ((u.p : Int) < at') = true) ∧ w.heap.size + 4 ≤ W.heap.size) ∧ Below w.heap.size w W
/-- Position's loop has been left. -/
def PosX (s : ByteArray) (at' : Int) (w : World) (c : Code) (pre : List (Un s)) (W : World) : Prop :=
  (W.heap[w.heap.size + 1]? = some (.cells #[.int .i64 0, .int .i64 0] 69 (0, 0)) ∧ W.heap[w.heap.size + 2]? = some (.cells (posV (posP ((pre.map (·.1)).dropLast))) 69 (0, 0)) ∧
    (c = .exit 0 ∧ ∃ (l : List U) (x : U), pre.map (·.1) = l ++ [x] ∧ (∀ u ∈ l, decide ((u.p : Int) < at') = true) ∧ decide ((x.p : Int) < at') = false)) ∧ Below w.heap.size w W
theorem posI_own (s : ByteArray) (at' : Int) (w : World) (B : Nat) (hB : w.heap.size ≤ B) : OwnFrom B (PosI s at' w) :=
  OwnFrom.and (OwnFrom.and (Own.from (cells_ownF _ _ _ _) _) (OwnFrom.and (Own.from (cells_ownF _ _ _ _) _) (OwnFrom.and (Own.from (cells_ownF _ _ _ _) _) (OwnFrom.and (ownFrom_pure _ _) (size_own _ _))))) (ownFrom_below (Nat.le_refl _) hB)
theorem posX_own (s : ByteArray) (at' : Int) (w : World) (B : Nat) (hB : w.heap.size ≤ B) (c : Code) : OwnFrom B (PosX s at' w c) :=
  OwnFrom.and (OwnFrom.and (Own.from (cells_ownF _ _ _ _) _) (OwnFrom.and (Own.from (cells_ownF _ _ _ _) _) (ownFrom_pure _ _))) (ownFrom_below (Nat.le_refl _) hB)

set_option maxRecDepth 100000 in
set_option maxHeartbeats 1000000 in
theorem position_any (s : ByteArray) (hs : s.size ≤ 140737488355328) (at' : Int) (w : World) :
    Calls Tryz.prog 46 #[.string s, .int .i64 at'] w fun e w' => e = .returned (.agg (posV (posP (before s at')))) ∧ Below w.heap.size w w' := by
  refine (callsIn_wide (n := 3)).1 ?_
  refine callsIn_of_wp_marks Tryz.func46 rfl trivial ?_ rfl
  simp only [Tryz.ntmps46, List.size_toArray, List.length_cons, List.length_nil, Nat.reduceAdd, Nat.reduceSub, Array.replicate_succ, Array.replicate_zero, List.push_toArray, List.append_toArray, List.nil_append, List.cons_append]
  gi_wp2_with (refine ⟨trivial, ?_⟩; gi_at_call 77; refine (callsIn_wide.2 (units_fn s _)).mono ?_; rintro e w' ⟨rfl, rfl⟩)
  obtain ⟨W0, hW0⟩ : ∃ W0, (((w.alloc (Obj.cells #[Value.int IntKind.i64 at'] 3)).alloc (Obj.cells #[Value.int IntKind.i64 0, Value.int IntKind.i64 0] 69)).alloc (Obj.cells #[Value.int IntKind.i64 1, Value.int IntKind.i64 1] 69)).alloc (Obj.cells #[Value.string s] 9) = W0 := ⟨_, rfl⟩
  have b0 : W0.heap[w.heap.size]? = some (.cells #[.int .i64 at'] 3 (0, 0)) := by rw [← hW0]; exact block_alloc _ (block_alloc _ (block_alloc _ (block_new w _)))
  have b1 : W0.heap[w.heap.size + 1]? = some (.cells #[.int .i64 0, .int .i64 0] 69 (0, 0)) := by
    rw [← hW0]; have := block_new (w.alloc (Obj.cells #[Value.int IntKind.i64 at'] 3)) (Obj.cells #[Value.int IntKind.i64 0, Value.int IntKind.i64 0] 69)
    rw [World.size_alloc] at this; exact block_alloc _ (block_alloc _ this)
  have b2 : W0.heap[w.heap.size + 2]? = some (.cells #[.int .i64 1, .int .i64 1] 69 (0, 0)) := by
    rw [← hW0]; have := block_new ((w.alloc (Obj.cells #[Value.int IntKind.i64 at'] 3)).alloc (Obj.cells #[Value.int IntKind.i64 0, Value.int IntKind.i64 0] 69)) (Obj.cells #[Value.int IntKind.i64 1, Value.int IntKind.i64 1] 69)
    rw [World.size_alloc, World.size_alloc] at this; exact block_alloc _ this
  have b3 : W0.heap[w.heap.size + 3]? = some (.cells #[.string s] 9 (0, 0)) := by
    rw [← hW0]; have := block_new (((w.alloc (Obj.cells #[Value.int IntKind.i64 at'] 3)).alloc (Obj.cells #[Value.int IntKind.i64 0, Value.int IntKind.i64 0] 69)).alloc (Obj.cells #[Value.int IntKind.i64 1, Value.int IntKind.i64 1] 69)) (Obj.cells #[Value.string s] 9)
    rw [World.size_alloc, World.size_alloc, World.size_alloc] at this; exact this
  have hB0 : Below w.heap.size w W0 := by
    rw [← hW0]; exact (((((Below.refl _ w).alloc (Nat.le_refl _) _).alloc (by simp) _).alloc (by simp; omega) _).alloc (by simp; omega) _)
  have hsz : W0.heap.size = w.heap.size + 4 := by rw [← hW0]; simp
  rw [hW0]
  clear hW0
  refine wpIn_rangeFunc_ownH (n := 3) rfl (by omega) (gf := 105) (lb := #[.pointer (some ⟨w.heap.size + 3, 0, none⟩)]) rfl trivial (enters_of Tryz.func105 (by kernel_rfl) rfl)
    (units_stops 2 (by omega) (w.heap.size + 3) w.heap.size s (by unfold maxLen; omega) W0 (by omega) (cell_of b3 rfl)) keepsIt_t (keepsIt_b (by omega) (by omega)) (Below.refl _ _) (fun _ => rfl)
    (PosI s at' w) (PosX s at' w) (posI_own s at' w _ (by omega)) (posX_own s at' w _ (by omega))
    ⟨⟨b0, b1, b2, (fun u hu => by simp at hu), by omega⟩, hB0⟩
    (fun x a' W => ∃ Bx, w.heap.size + 3 < Bx ∧ Boxed3 W Bx s x.1 ∧ a' = { tmps := #[.string s, .int .i64 at', undef, .pointer (some ⟨w.heap.size, 0, none⟩), .pointer (some ⟨w.heap.size + 1, 0, none⟩), .pointer (some ⟨w.heap.size + 1 + 1, 0, none⟩), .pointer (some ⟨Bx, 0, none⟩), .agg #[.int .i64 1, .int .i64 1], .string s, .func (.func 105) #[] #[.pointer (some ⟨w.heap.size + 1 + 1 + 1, 0, none⟩)], uval s x.1, undef, undef, undef, undef, undef, undef, undef, undef, undef, undef, undef, undef, undef, undef, undef, undef, undef], defers := [] })
    (fun x a' _ X Y row hs hg hr => by obtain ⟨Bx, h1, h2, h3⟩ := hs; exact ⟨Bx, h1, cells_own Bx _ _ _ () X Y row h2 hg (fun r e => (hr r e).2), h3⟩)
    ?assign ?body ?done ?stop
  case assign =>
    rintro l pre x W K ⟨⟨b0, b1, b2, hp, hz⟩, hB⟩ hK
    unfold encU uval
    gi_wp2
    exact hK _ _ ((KeepsOthers.alloc _ _).from _) (keepsIt_alloc W hB.size (by omega) _) ⟨⟨block_alloc _ b0, block_alloc _ b1, block_alloc _ b2, hp, by simp; omega⟩, hB.alloc hB.size _⟩ ⟨W.heap.size, by omega, Boxed3.new W s x.1, rfl⟩
  case body =>
    rintro l pre x a' W hl ⟨r, hr⟩ ⟨⟨b0, b1, b2, hp, hz⟩, hB⟩ ⟨Bx, hBx, bX, rfl⟩ hlt
    obtain ⟨c0, c1, c2⟩ := bX.cells
    have hlen : pre.length < 9223372036854775806 := by
      have := units_le s
      omega
    have hple := posP_le (pre.map (·.1))
    rw [List.length_map] at hple
    have hsn := posP_snoc (pre.map (·.1)) x.1
    obtain ⟨⟨q1, q2⟩, hq⟩ : ∃ q, posP (pre.map (·.1)) = q := ⟨_, rfl⟩
    rw [hq] at hple hsn b2
    have cA := cell_of (i := 0) (v := .int .i64 at') b0 rfl
    have cL := cell_of (i := 0) (v := .int .i64 (q1 : Int)) b2 rfl
    have cC := cell_of (i := 1) (v := .int .i64 (q2 : Int)) b2 rfl
    have fL := frozen_of (i := 0) b2
    have fC := frozen_of (i := 1) b2
    obtain ⟨hple1, hple2⟩ := hple
    simp only at hple1 hple2
    have hmap : (pre ++ [x]).map (·.1) = pre.map (·.1) ++ [x.1] := by simp
    have HM := Lib.hid hmap
    have HQ := Lib.hid hq
    have HN := Lib.hid hsn
    have HP := Lib.hid hp
    have H0 := Lib.hid b0
    have H1 := Lib.hid b1
    have H2 := Lib.hid b2
    clear hmap hq hsn hp hlt hr b0 b1 b2 c2 bX
    by_cases hge : at' ≤ (x.1.p : Int)
    · gi_wp2
      refine ⟨KeepsFrom.refl _ _, ⟨H1.out, ?_, rfl, pre.map (·.1), x.1, HM.out, HP.out, by simpa using hge⟩, hB⟩
      rw [HM.out, List.dropLast_concat, HQ.out]
      exact H2.out
    · have hlt : (x.1.p : Int) < at' := by omega
      clear hge
      have HPX : Hid (∀ u ∈ (pre ++ [x]).map (·.1), decide ((u.p : Int) < at') = true) := by
        refine Lib.hid ?_
        rw [HM.out]
        intro u hu
        rcases List.mem_append.1 hu with hu | hu
        · exact HP.out u hu
        · rw [List.mem_singleton.1 hu]; simpa using hlt
      by_cases h10 : ((x.1.c : Int) == 10) = true
      · have hv : posV (posP ((pre ++ [x]).map (·.1))) = ((posV (q1, q2)).setIfInBounds 0 (.int .i64 ((q1 : Int) + 1))).setIfInBounds 1 (.int .i64 1) := by
          have h10' : x.1.c = 10 := by have := eq_of_beq h10; omega
          rw [HM.out, HN.out]
          unfold stepP
          rw [if_pos h10']
          simp [posV]
        have HV := Lib.hid hv
        clear hv
        gi_wp2
        refine ⟨((KeepsOthers.setCell _ _ _).trans (KeepsOthers.setCell _ _ _)).from _, keepsIt_t (keepsIt_setCell W _ _ (by omega) (by omega) _) (keepsIt_setCell _ _ _ (by omega) (by omega) _),
          ⟨block_other _ (block_other _ H0.out (by omega)) (by omega), block_other _ (block_other _ H1.out (by omega)) (by omega), ?_, HPX.out, by have := ((KeepsOthers.setCell W ⟨w.heap.size + 1 + 1, 0, none⟩ (.int .i64 ((q1 : Int) + 1))).trans (KeepsOthers.setCell _ ⟨w.heap.size + 1 + 1, 1, none⟩ (.int .i64 1))).size; omega⟩,
          (hB.setCell (p := ⟨w.heap.size + 1 + 1, 0, none⟩) (by simp; omega) _).setCell (p := ⟨w.heap.size + 1 + 1, 1, none⟩) (by simp; omega) _⟩
        rw [HV.out]
        exact block_setU _ (block_setU _ H2.out)
      · have h10' : ((x.1.c : Int) == 10) = false := by simpa using h10
        have hv : posV (posP ((pre ++ [x]).map (·.1))) = (posV (q1, q2)).setIfInBounds 1 (.int .i64 ((q2 : Int) + 1)) := by
          have h11 : x.1.c ≠ 10 := by
            intro e
            rw [e] at h10
            exact h10 rfl
          rw [HM.out, HN.out]
          unfold stepP
          rw [if_neg h11]
          simp [posV]
        have HV := Lib.hid hv
        clear hv h10
        gi_wp2
        refine ⟨(KeepsOthers.setCell _ _ _).from _, keepsIt_setCell W _ _ (by omega) (by omega) _,
          ⟨block_other _ H0.out (by omega), block_other _ H1.out (by omega), ?_, HPX.out, by have := (KeepsOthers.setCell W ⟨w.heap.size + 1 + 1, 1, none⟩ (.int .i64 ((q2 : Int) + 1))).size; omega⟩,
          hB.setCell (p := ⟨w.heap.size + 1 + 1, 1, none⟩) (by simp; omega) _⟩
        rw [HV.out]
        exact block_setU _ H2.out
  case done =>
    rintro D xs W hD hx ⟨⟨b0, b1, b2, hp, hz⟩, hB⟩ hK
    have hbe : before s at' = xs.map (·.1) := by
      have h1 := takeWhile_all (fun u : U => decide ((u.p : Int) < at')) _ hp
      unfold before
      rw [← h1]
      exact congrArg (List.takeWhile fun u : U => decide ((u.p : Int) < at')) hx.symm
    obtain ⟨q, hq⟩ : ∃ q, posP (xs.map (·.1)) = q := ⟨_, rfl⟩
    rw [hq] at b2
    have cL := cell_of (i := 0) (v := .int .i64 (q.1 : Int)) b2 rfl
    have cC := cell_of (i := 1) (v := .int .i64 (q.2 : Int)) b2 rfl
    have d0 := cell_of (i := 0) (v := .int .i64 0) b1 rfl
    have d1 := cell_of (i := 1) (v := .int .i64 0) b1 rfl
    have f0 := frozen_of (i := 0) b1
    have f1 := frozen_of (i := 1) b1
    have HE := Lib.hid hbe
    have HQ := Lib.hid hq
    have H1 := Lib.hid b1
    clear hbe hq hx hp b0 b2 b1
    gi_wp2
    have hK' := ((KeepsOthers.setCell W ⟨w.heap.size + 1, 0, none⟩ (.int .i64 (q.1 : Int))).trans (KeepsOthers.setCell _ ⟨w.heap.size + 1, 1, none⟩ (.int .i64 (q.2 : Int)))).same D _ hK rfl
    have hB2 := (hB.setCell (p := ⟨w.heap.size + 1, 0, none⟩) (by simp) (.int .i64 (q.1 : Int))).setCell (p := ⟨w.heap.size + 1, 1, none⟩) (by simp) (.int .i64 (q.2 : Int))
    have hb5 := (World.putObj_heap_other (o := .deferred none) (show w.heap.size + 1 ≠ D by omega)).trans (block_setU (i := 1) (.int .i64 (q.2 : Int)) (block_setU (i := 0) (.int .i64 (q.1 : Int)) H1.out))
    have q0 := cell_of (i := 0) (v := .int .i64 (q.1 : Int)) hb5 rfl
    have q1 := cell_of (i := 1) (v := .int .i64 (q.2 : Int)) hb5 rfl
    refine ⟨by simp, .inl ⟨_, _, rfl, run_takeDeferred hK', ?_⟩⟩
    refine ⟨.agg (posV q), ?_, by rw [HE.out, HQ.out], hB2.trans (belowK_b (w := w) (Nat.le_refl _) _ D _ _ (by omega) hK' rfl rfl)⟩
    simp [results, Tryz.f46, go_sem, q0, q1, posV]
  case stop =>
    rintro D c pre W hD hpre ⟨⟨b1, b2, rfl, l, x, hm, hl, hxx⟩, hB⟩ hK
    have hbe : before s at' = l := by
      unfold before
      obtain ⟨r, hr⟩ := hpre
      rw [hm, List.append_assoc] at hr
      have := takeWhile_stop (fun u : U => decide ((u.p : Int) < at')) x r l hl hxx
      rw [← this]
      exact congrArg (List.takeWhile fun u : U => decide ((u.p : Int) < at')) hr.symm
    rw [hm, List.dropLast_concat] at b2
    obtain ⟨q, hq⟩ : ∃ q, posP l = q := ⟨_, rfl⟩
    rw [hq] at b2
    have cL := cell_of (i := 0) (v := .int .i64 (q.1 : Int)) b2 rfl
    have cC := cell_of (i := 1) (v := .int .i64 (q.2 : Int)) b2 rfl
    have d0 := cell_of (i := 0) (v := .int .i64 0) b1 rfl
    have d1 := cell_of (i := 1) (v := .int .i64 0) b1 rfl
    have f0 := frozen_of (i := 0) b1
    have f1 := frozen_of (i := 1) b1
    have HE := Lib.hid hbe
    have HQ := Lib.hid hq
    have H1 := Lib.hid b1
    clear hbe hq hpre hm hl hxx b2 b1
    gi_wp2
    have hK' := ((KeepsOthers.setCell W ⟨w.heap.size + 1, 0, none⟩ (.int .i64 (q.1 : Int))).trans (KeepsOthers.setCell _ ⟨w.heap.size + 1, 1, none⟩ (.int .i64 (q.2 : Int)))).same D _ hK rfl
    have hB2 := (hB.setCell (p := ⟨w.heap.size + 1, 0, none⟩) (by simp) (.int .i64 (q.1 : Int))).setCell (p := ⟨w.heap.size + 1, 1, none⟩) (by simp) (.int .i64 (q.2 : Int))
    have hb5 := (World.putObj_heap_other (o := .deferred none) (show w.heap.size + 1 ≠ D by omega)).trans (block_setU (i := 1) (.int .i64 (q.2 : Int)) (block_setU (i := 0) (.int .i64 (q.1 : Int)) H1.out))
    have q0 := cell_of (i := 0) (v := .int .i64 (q.1 : Int)) hb5 rfl
    have q1 := cell_of (i := 1) (v := .int .i64 (q.2 : Int)) hb5 rfl
    refine ⟨by simp, .inl ⟨_, _, rfl, run_takeDeferred hK', ?_⟩⟩
    refine ⟨.agg (posV q), ?_, by rw [HE.out, HQ.out], hB2.trans (belowK_b (w := w) (Nat.le_refl _) _ D _ _ (by omega) hK' rfl rfl)⟩
    simp [results, Tryz.f46, go_sem, q0, q1, posV]
end Go.Proofs.YtmjmidgfdjcbfaaGreatDoor.Dep
