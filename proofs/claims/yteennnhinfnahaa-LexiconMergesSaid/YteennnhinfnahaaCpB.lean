/-
  WALKS over package codepoint, second part: the contract of the iterator over a string's units: whatever loop ranges over it is handed the units in their order, all of them or a part after which it said stop. At any string.
-/
import Derived.Test.YteennnhinfnahaaCpA
import Derived.Lib.OthersKept
namespace Go.Proofs.Yteennnhinfnahaa
open Go.RowKit Go.Shelf Go.Lib

attribute [local go_sem] Oper.semAt_some

/-- The units of a string. -/
def units (s : ByteArray) : List U := unitsA s.data.toList 0
/-- A unit of s. -/
abbrev Un (s : ByteArray) := { u : U // u ∈ units s }
/-- A unit as the iterator hands it over. -/
def uval (s : ByteArray) (u : U) : Value := .agg #[.int .i32 (u.c : Int), .int .i64 (u.p : Int), .string (s.extract u.p (u.p + u.w))]
def encU (s : ByteArray) (u : U) : Array Value := #[uval s u]
/-- What a round keeps for the iterator: whatever lay below n₀, the walks' objects, and the variable that the iterator has captured. -/
def KeepsIt (n₀ Bn : Nat) (W W' : World) : Prop := Below n₀ W W' ∧ KeepsWalks W W' ∧ W'.heap[Bn]? = W.heap[Bn]?

theorem keepsIt_t {n₀ Bn : Nat} {A B C : World} (h : KeepsIt n₀ Bn A B) (k : KeepsIt n₀ Bn B C) : KeepsIt n₀ Bn A C := ⟨h.1.trans k.1, h.2.1.trans k.2.1, k.2.2.trans h.2.2⟩
theorem keepsIt_b {n₀ Bn : Nat} {w : World} (hn : n₀ ≤ w.heap.size) (hb : Bn < w.heap.size) (W : World) (l : Nat) (o o' : Obj) (hl : w.heap.size ≤ l) (h : W.heap[l]? = some o) (h1 : o.isCells = false) (h2 : o.isWalk = false) : KeepsIt n₀ Bn W (W.putObj l o') :=
  ⟨belowK_b hn W l o o' hl h h1 h2, KeepsWalks.putObj _ h h2, World.putObj_heap_other (by omega)⟩
/-- A round that leaves alone all that lay keeps it. -/
theorem keepsIt_below {n₀ Bn B : Nat} {W W' : World} (h : Below B W W') (hB : W.heap.size ≤ B) (hn : n₀ ≤ B) (hb : Bn < B) : KeepsIt n₀ Bn W W' :=
  ⟨h.mono hn, ⟨h.size, fun k _ hk _ => (h.block k (Nat.lt_of_lt_of_le (Array.getElem?_eq_some_iff.1 hk).1 hB)).trans hk⟩, h.block Bn hb⟩
/-- A store into a variable of the round's own. -/
theorem keepsIt_setCell {n₀ Bn : Nat} (W : World) (b i : Nat) (hn : n₀ ≤ b) (hb : Bn ≠ b) (v : Value) : KeepsIt n₀ Bn W (W.setCell ⟨b, i, none⟩ v) :=
  ⟨(Below.refl n₀ W).setCell (p := ⟨b, i, none⟩) hn v, KeepsWalks.setCell W _ v, Below.heap_setCell W ⟨b, i, none⟩ v Bn hb⟩
theorem keepsIt_alloc {n₀ Bn : Nat} (W : World) (hn : n₀ ≤ W.heap.size) (hb : Bn < W.heap.size) (o : Obj) : KeepsIt n₀ Bn W (W.alloc o) :=
  ⟨(Below.refl n₀ W).alloc hn o, KeepsWalks.alloc W o, Below.heap_alloc W o Bn hb⟩
theorem keepsIt_drew {n₀ Bn : Nat} (W : World) : KeepsIt n₀ Bn W W.drew := ⟨(Below.refl n₀ W).drew, ⟨Nat.le_refl _, fun _ _ h _ => h⟩, rfl⟩
theorem keepsIt_refl {n₀ Bn : Nat} (W : World) : KeepsIt n₀ Bn W W := ⟨Below.refl n₀ W, KeepsWalks.refl W, rfl⟩

theorem abides_drew {β : Type} {B : Nat} {J : β → World → Prop} (h : AbidesFrom B J) {s : β} {W : World} (hs : J s W) : J s W.drew :=
  h s W _ none hs ⟨rfl, rfl, rfl, Nat.le_refl _, fun _ _ _ => rfl⟩ (fun _ e => by cases e)
theorem abides_alloc {β : Type} {B : Nat} {J : β → World → Prop} (h : AbidesFrom B J) {s : β} {W : World} (o : Obj) (hs : J s W) : J s (W.alloc o) :=
  h s W _ none hs (World.grownBy_alloc W o none) (fun _ e => by cases e)
theorem abides_iterAt {β : Type} {B : Nat} {J : β → World → Prop} (h : AbidesFrom B J) {x : β} {W : World} {k : Nat} (hk : B ≤ k) {s : ByteArray} {p : Nat} (hit : W.heap[k]? = some (.stringIter s p)) (p' : Nat) (hs : J x W) : J x (W.iterAt k s p') :=
  h x W _ (some k) hs ⟨rfl, rfl, rfl, by rw [Lib.iterAt_size]; exact Nat.le_refl _, fun j _ hj => Lib.iterAt_other W k j s p' (fun e => hj (by rw [e]))⟩
    (fun r e => by cases e; exact ⟨hk, _, hit, rfl⟩)

theorem units_tail (s : ByteArray) (p : Nat) (hp : p < s.size) :
    unitsA (s.data.toList.drop p) p = { c := (Utf8.decode s p).1, p := p, w := (Utf8.decode s p).2 } :: unitsA (s.data.toList.drop (p + (Utf8.decode s p).2)) (p + (Utf8.decode s p).2) := by
  have hne : s.data.toList.drop p ≠ [] := by
    intro h
    have := congrArg List.length h
    rw [List.length_drop, ← Lib.size_eq] at this
    simp at this
    omega
  rw [unitsA_step _ _ hne, Lib.decodeL_drop, List.drop_drop]
theorem units_end (s : ByteArray) (p : Nat) (hp : ¬ p < s.size) : unitsA (s.data.toList.drop p) p = [] := by
  have : s.data.toList.drop p = [] := List.drop_eq_nil_of_le (by rw [← Lib.size_eq]; omega)
  rw [this, unitsA_nil]

/-- What a round has answered, and what it has left. -/
def AfterY {s : ByteArray} (n₀ Bn : Nat) (J Jx : List (Un s) → World → Prop) (xs : List (Un s)) (W : World) (b : Bool) (W' : World) : Prop :=
  (b = true → J xs W' ∧ KeepsIt n₀ Bn W W') ∧ (b = false → Jx xs W')

set_option maxRecDepth 100000 in
set_option maxHeartbeats 1000000 in
theorem iter_in (n : Nat) (hn : 1 ≤ n) (l Bn n₀ : Nat) (s : ByteArray) (hs : s.size ≤ maxLen) (J Jx : List (Un s) → World → Prop) (B : Nat) (hJ : AbidesFrom B J)
    (hY : ∀ pre (x : Un s) W, J pre W → pre.length < (units s).length → YieldAt Fence.wide (n - 1) Try.prog l (encU s x.1) W fun e W' =>
      (e = .returned (.bool true) ∧ J (pre ++ [x]) W' ∧ KeepsIt n₀ Bn W W') ∨ (e = .returned (.bool false) ∧ Jx (pre ++ [x]) W'))
    (W : World) (hB : B ≤ W.heap.size) (hBn : W.cell? ⟨Bn, 0, none⟩ = some (.string s)) (hBl : Bn < W.heap.size) (h0 : J [] W) :
    CallsIn Fence.wide n Try.prog 90 #[.func (.yield l) #[] #[], .pointer (some ⟨Bn, 0, none⟩)] W fun e W' => (∃ v, e = .returned v) ∧
      ((∃ ys : List (Un s), ys.map (·.1) = units s ∧ J ys W') ∨ (∃ pre : List (Un s), pre.map (·.1) <+: units s ∧ Jx pre W')) := by
  refine callsIn_of_wp Try.func90 rfl trivial ?_ rfl
  simp only [Try.ntmps90, List.size_toArray, List.length_cons, List.length_nil, Nat.reduceAdd, Nat.reduceSub, Array.replicate_succ, Array.replicate_zero, List.push_toArray, List.append_toArray, List.nil_append, List.cons_append]
  unfold maxLen at hs
  gi_wp2
  gi_loopw [] (fun wr => ∃ (pre : List (Un s)) (p : Nat), p ≤ s.size ∧ pre.map (·.1) ++ unitsA (s.data.toList.drop p) p = units s ∧ wr.heap[W.heap.size]? = some (.stringIter s p) ∧ wr.cell? ⟨Bn, 0, none⟩ = some (.string s) ∧ J pre wr)
    (fun wr => s.size - wr.iterPos W.heap.size)
  case atStart =>
    exact ⟨[], 0, Nat.zero_le _, rfl, World.iter_heap _ _ _, by rw [← hBn]; exact ((Below.refl W.heap.size W).alloc (Nat.le_refl _) _).cell (p := ⟨Bn, 0, none⟩) hBl, abides_alloc hJ _ h0⟩
  case round =>
    obtain ⟨pre, p, hp, hun, hit, hcb, hJs⟩ := hrel
    by_cases hlt : p < s.size
    · have hsz := sizeAt_unit s p hlt
      have htl := units_tail s p hlt
      have hmem : (⟨(Utf8.decode s p).1, p, (Utf8.decode s p).2⟩ : U) ∈ units s := by
        rw [← hun, htl]; simp
      have hfit := units_fit _ _ _ hmem
      have hlen : pre.length < (units s).length := by
        rw [← hun, htl]; simp
      have hnx := fun ty => Lib.run_next_any_at (P := Try.prog) wr W.heap.size s p ty hit hlt
      have hit2 := Lib.iterAt_heap wr W.heap.size s p (p + (Utf8.decode s p).2) hit
      have hJ2 := abides_drew hJ (abides_iterAt hJ hB hit (p + (Utf8.decode s p).2) hJs)
      obtain ⟨W2, hW2⟩ : ∃ W2, wr.iterAt W.heap.size s (p + (Utf8.decode s p).2) = W2 := ⟨_, rfl⟩
      have hcb2 : W2.cell? ⟨Bn, 0, none⟩ = some (.string s) := by
        rw [← hW2, ← hcb]; exact (Lib.below_iterAt (Below.refl W.heap.size wr) (Nat.le_refl _) s _).cell (p := ⟨Bn, 0, none⟩) hBl
      rw [hW2] at hit2 hJ2
      have hb : 1 ≤ (Utf8.decode s p).2 ∧ p + (Utf8.decode s p).2 ≤ s.size ∧ (Utf8.decode s p).1 ≤ 1114111 := by
        obtain ⟨_, h2, h3, _, h5, _, _⟩ := hfit
        simp only at h2 h3 h5
        rw [← Lib.size_eq] at h2
        exact ⟨h3, by omega, h5⟩
      obtain ⟨x0, hx0⟩ : ∃ x0 : Un s, x0.1 = ⟨(Utf8.decode s p).1, p, (Utf8.decode s p).2⟩ := ⟨⟨_, hmem⟩, rfl⟩
      have hY2 := hY pre x0 W2.drew hJ2 hlen
      obtain ⟨fn, tmps, assign, body, hy, hR⟩ := hY2
      rw [hx0] at hy
      dsimp only [encU, uval] at hy
      have hnx2 : ∀ ty, (Instr.next (.pointer (some ⟨W.heap.size, 0, none⟩)) true ty).run Try.prog wr = .ok (.tuple #[.bool true, .int .i64 p, .int .i32 ((Utf8.decode s p).1 : Nat)]) W2 := fun ty => by rw [hnx ty, hW2]
      obtain ⟨c, hc⟩ : ∃ c, (Utf8.decode s p).1 = c := ⟨_, rfl⟩
      obtain ⟨k, hk⟩ : ∃ k, (Utf8.decode s p).2 = k := ⟨_, rfl⟩
      rw [hc] at hy hnx2 hsz hb htl hx0
      rw [hk] at hy hsz hb hit2 htl hx0
      have key0 : (pre ++ [x0]).map (·.1) ++ unitsA (s.data.toList.drop (p + k)) (p + k) = units s := by
        rw [List.map_append, List.map_cons, List.map_nil, hx0, List.append_assoc]
        rw [htl] at hun
        exact hun
      have key := Lib.hid key0
      have HS := Lib.hid hsz
      have HI := Lib.hid hit2
      have hpos : wr.iterPos W.heap.size = p := by simp only [World.iterPos, hit]
      have HP := Lib.hid hpos
      clear hpos
      obtain ⟨hb1, hb2, hb3⟩ := hb
      clear key0 hnx hsz hun htl hx0 hit2 hW2 hc hk hcb hit hJs hfit hJ2 hmem
      have hwr : IntKind.i64.wrap ((p : Int) + k) = (p : Int) + k := by rw [IntKind.wrap_i64]; omega
      have hR2 := hR.mono (R' := fun e W' => ∃ b, e = .returned (.bool b) ∧ AfterY n₀ Bn J Jx (pre ++ [x0]) W2.drew b W') (fun e W' h => by
        rcases h with ⟨h1, h2, h3⟩ | ⟨h1, h2⟩
        · exact ⟨true, h1, fun _ => ⟨h2, h3⟩, fun h => by cases h⟩
        · exact ⟨false, h1, (fun h => by cases h), fun _ => h2⟩)
      clear hR
      gi_wp2
      have hmx : Try.prog.follows .mixedOrders = true := by kernel_rfl
      gi_region_with_o (first | (refine ⟨trivial, ?_⟩; gi_at_call 91; refine (callsIn_wide.2 (HS.out _)).mono ?_; rintro e w' ⟨rfl, rfl⟩) | (refine hR2.mono ?_; rintro e w' ⟨b, rfl, h3⟩))
      all_goals
        cases b
        · gi_wp2
          refine bodyPost_ret (results_none rfl _ _ _) rfl ?_
          refine ⟨⟨_, rfl⟩, .inr ⟨pre ++ [x0], ?_, h3.2 rfl⟩⟩
          refine ⟨unitsA (s.data.toList.drop (p + k)) (p + k), ?_⟩
          exact key.out
        · obtain ⟨hJ3, hk3⟩ := h3.1 rfl
          have hcb3 : w'.cell? ⟨Bn, 0, none⟩ = some (.string s) := (World.cell?_of_block (w := W2.drew) (a := ⟨Bn, 0, none⟩) hk3.2.2).trans hcb2
          have hit3 : w'.heap[W.heap.size]? = some (.stringIter s (p + k)) := hk3.2.1.same _ _ HI.out rfl
          have HI3 := Lib.hid hit3
          clear hit3
          gi_wp2
          go_roundw
          case rel =>
            (repeat apply Exists.intro)
            exact ⟨⟨pre ++ [x0], p + k, hb2, key.out, HI3.out, hcb3, hJ3⟩, rfl⟩
          case measure =>
            have e1 : w'.iterPos W.heap.size = p + k := by simp only [World.iterPos, HI3.out]
            rw [e1, HP.out]
            omega
    · have hnx := fun ty => Lib.run_next_end_at (P := Try.prog) wr W.heap.size s p ty hit hlt
      have hend := units_end s p hlt
      rw [hend, List.append_nil] at hun
      have HU := Lib.hid hun
      clear hun hend hit
      gi_wp2
      go_end0
      exact ⟨⟨_, rfl⟩, .inl ⟨pre, HU.out, hJs⟩⟩

/-- units(s) hands back a value that gives the units of s, in their order, to whatever loop. -/
theorem units_stops (n : Nat) (hn : 1 ≤ n) (Bn n₀ : Nat) (s : ByteArray) (hs : s.size ≤ maxLen) (w : World) (hBn : Bn < w.heap.size) (hc : w.cell? ⟨Bn, 0, none⟩ = some (.string s)) :
    SeqStopsK Fence.wide n Try.prog 90 #[.pointer (some ⟨Bn, 0, none⟩)] (fun x : Un s => encU s x.1) (KeepsIt n₀ Bn) (fun ys => ys.map (·.1) = units s) (fun pre => pre.map (·.1) <+: units s) (units s).length w :=
  fun l J Jx W hW hJ _ hY h0 => iter_in n hn l Bn n₀ s hs J Jx W.heap.size hJ hY W (Nat.le_refl _) ((hW.cell (p := ⟨Bn, 0, none⟩) hBn).trans hc) (Nat.lt_of_lt_of_le hBn hW.size) h0
end Go.Proofs.Yteennnhinfnahaa
