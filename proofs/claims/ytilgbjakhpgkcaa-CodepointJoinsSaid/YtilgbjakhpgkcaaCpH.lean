/-
  WALKS over package codepoint, eighth part: Compare: two strings by their code points, then by their bytes; nothing that lay has turned. At any two strings.
-/
import Derived.Test.YtilgbjakhpgkcaaCpG
import Derived.Lib.Bytealg
namespace Go.Proofs.Ytilgbjakhpgkcaa
open Go.RowKit Go.Shelf Go.Lib

attribute [local go_sem] Oper.semAt_some

set_option maxHeartbeats 400000 in
theorem isNaN_any (c : Int) (w : World) : Calls Try.prog 42 #[.int .i32 c] w fun e w' => e = .returned (.bool false) ∧ w = w' := by
  go_enter Try.func42, Try.ntmps42
  go_wp2
  go_ret
  exact ⟨by simp, rfl⟩
/-- The order of two numbers. -/
def ordI (x y : Int) : Int := if x < y then -1 else if y < x then 1 else 0
set_option maxHeartbeats 400000 in
theorem cmp_any (x y : Int) (w : World) : Calls Try.prog 35 #[.int .i32 x, .int .i32 y] w fun e w' => e = .returned (.int .i64 (ordI x y)) ∧ w = w' := by
  by_cases h1 : x < y
  · have e : ordI x y = -1 := by simp [ordI, h1]
    rw [e]
    clear e
    go_enter Try.func35, Try.ntmps35
    go_wp2_with (go_at_call 42; refine (isNaN_any _ _).mono ?_; rintro e w' ⟨rfl, rfl⟩)
    go_ret
    exact ⟨rfl, rfl⟩
  · by_cases h2 : y < x
    · have e : ordI x y = 1 := by simp [ordI, h1, h2]
      rw [e]
      clear e
      have h1' : y ≤ x := by omega
      clear h1
      go_enter Try.func35, Try.ntmps35
      go_wp2_with (go_at_call 42; refine (isNaN_any _ _).mono ?_; rintro e w' ⟨rfl, rfl⟩)
      go_ret
      exact ⟨rfl, rfl⟩
    · obtain rfl : x = y := by omega
      have e : ordI x x = 0 := by simp [ordI]
      rw [e]
      clear e h1 h2
      go_enter Try.func35, Try.ntmps35
      go_wp2_with (go_at_call 42; refine (isNaN_any _ _).mono ?_; rintro e w' ⟨rfl, rfl⟩)
      go_ret
      exact ⟨rfl, rfl⟩

set_option maxHeartbeats 400000 in
theorem compareString_any (a b : ByteArray) (w : World) : Calls Try.prog 43 #[.string a, .string b] w fun e w' => e = .returned (.int .i64 (compareBytes a.data.toList b.data.toList)) ∧ w = w' := by
  go_enter Try.func43, Try.ntmps43
  go_wp2
  rw [run_callFunc_extern Try.func47 (by kernel_rfl) (by kernel_rfl) (by kernel_rfl) (e := Extern.BytealgCompare.compare) (by kernel_rfl), Lib.run_compareString]
  simp only [Result.andThen]
  rw [Oper.upon_value]
  go_wp2
  go_ret
  exact ⟨rfl, rfl⟩
set_option maxHeartbeats 400000 in
theorem stringsCompare_any (a b : ByteArray) (w : World) : Calls Try.prog 36 #[.string a, .string b] w fun e w' => e = .returned (.int .i64 (compareBytes a.data.toList b.data.toList)) ∧ w = w' := by
  go_enter Try.func36, Try.ntmps36
  go_wp2_with (go_at_call 43; refine (compareString_any _ _ _).mono ?_; rintro e w' ⟨rfl, rfl⟩)
  go_ret
  exact ⟨rfl, rfl⟩

/-- The code points of a string. -/
def cps (s : ByteArray) : List Nat := (units s).map (·.c)
/-- The order of two lists of code points. -/
def cmpC : List Nat → List Nat → Int
  | [], [] => 0
  | [], _ :: _ => -1
  | _ :: _, [] => 1
  | x :: xs, y :: ys => if x < y then -1 else if y < x then 1 else cmpC xs ys
/-- What Compare answers. -/
def cmpS (a b : ByteArray) : Int := if cmpC (cps a) (cps b) = 0 then compareBytes a.data.toList b.data.toList else cmpC (cps a) (cps b)

/-- b, without its first n units. -/
def restN (b : ByteArray) : Nat → ByteArray
  | 0 => b
  | n + 1 => (restN b n).extract (Utf8.decode (restN b n) 0).2 (restN b n).size

theorem units_shift1 (d : Nat) : ∀ (l : List UInt8) (p : Nat), unitsA l (p + d) = (unitsA l p).map fun u => { c := u.c, p := u.p + d, w := u.w } := by
  refine unitsA_ind ?_ ?_
  · intro p; rfl
  · intro l p hne ih
    rw [unitsA_step l p hne, unitsA_step l (p + d) hne, List.map_cons, ← ih]
    have : p + d + (decodeL l).2 = p + (decodeL l).2 + d := by omega
    rw [this]
theorem cps_step (t : ByteArray) (h : 0 < t.size) : cps t = (Utf8.decode t 0).1 :: cps (t.extract (Utf8.decode t 0).2 t.size) ∧ (Utf8.decode t 0).2 ≤ t.size ∧ 1 ≤ (Utf8.decode t 0).2 := by
  have hd := Lib.decodeL_drop t 0
  rw [List.drop_zero] at hd
  have hne : t.data.toList ≠ [] := by
    intro e
    have := congrArg List.length e
    rw [← Lib.size_eq, List.length_nil] at this
    omega
  have hle := decodeL_le t.data.toList hne
  have hw := decodeL_width t.data.toList
  rw [hd, ← Lib.size_eq] at hle
  rw [hd] at hw
  refine ⟨?_, hle, hw⟩
  have hx : (t.extract (Utf8.decode t 0).2 t.size).data.toList = t.data.toList.drop (Utf8.decode t 0).2 := by
    rw [Lib.extract_data, List.take_of_length_le]
    rw [List.length_drop, ← Lib.size_eq]
    exact Nat.le_refl _
  unfold cps units
  rw [unitsA_step _ _ hne, hd, List.map_cons, hx]
  congr 1
  have hs := units_shift1 (Utf8.decode t 0).2 (t.data.toList.drop (Utf8.decode t 0).2) 0
  rw [hs, List.map_map]
  rfl
theorem cps_nil (t : ByteArray) (h : t.size = 0) : cps t = [] := by
  have : t.data.toList = [] := by
    apply List.eq_nil_of_length_eq_zero
    rw [← Lib.size_eq]
    exact h
  unfold cps units
  rw [this]
  rfl
theorem cps_rest (b : ByteArray) : ∀ n, n ≤ (cps b).length → cps (restN b n) = (cps b).drop n ∧ (restN b n).size ≤ b.size
  | 0, _ => ⟨rfl, Nat.le_refl _⟩
  | n + 1, h => by
    obtain ⟨h1, h2⟩ := cps_rest b n (by omega)
    have hpos : 0 < (restN b n).size := by
      by_cases h0 : (restN b n).size = 0
      · have h3 := cps_nil _ h0
        rw [h1] at h3
        have := congrArg List.length h3
        rw [List.length_drop] at this
        simp at this
        omega
      · omega
    obtain ⟨e, hw, _⟩ := cps_step _ hpos
    rw [h1] at e
    have hd : (cps b).drop n = (cps b)[n]'(by omega) :: (cps b).drop (n + 1) := List.drop_eq_getElem_cons (by omega)
    rw [hd] at e
    refine ⟨(List.cons.inj e).2.symm, ?_⟩
    show ((restN b n).extract _ (restN b n).size).size ≤ b.size
    rw [Lib.size_eq, Lib.extract_data, List.length_take]
    omega
theorem rest_zero (b : ByteArray) (n : Nat) (h : n ≤ (cps b).length) : (restN b n).size = 0 ↔ n = (cps b).length := by
  obtain ⟨h1, _⟩ := cps_rest b n h
  constructor
  · intro h0
    have := cps_nil _ h0
    rw [h1] at this
    have := congrArg List.length this
    rw [List.length_drop] at this
    simp at this
    omega
  · intro hn
    by_cases h0 : (restN b n).size = 0
    · exact h0
    · obtain ⟨e, _⟩ := cps_step (restN b n) (by omega)
      rw [h1, hn, List.drop_length] at e
      cases e
theorem atU_zero (t : ByteArray) (h : 0 < t.size) : atU t 0 = some { c := (Utf8.decode t 0).1, p := 0, w := (Utf8.decode t 0).2 } := by
  have := units_tail t 0 h
  rw [List.drop_zero] at this
  have hu : units t = { c := (Utf8.decode t 0).1, p := 0, w := (Utf8.decode t 0).2 } :: unitsA (t.data.toList.drop (0 + (Utf8.decode t 0).2)) (0 + (Utf8.decode t 0).2) := this
  unfold atU
  rw [if_pos (by omega)]
  exact congrArg (fun us : List U => us[(0 : Int).toNat]?) hu
theorem atU_none (t : ByteArray) (h : t.size = 0) : atU t 0 = none := by
  have hl : (units t).length = 0 := by
    have := units_le t
    omega
  unfold atU
  rw [if_pos (by omega), List.getElem?_eq_none_iff, hl]
  exact Nat.zero_le _

/-- Where Compare's loop stands behind some units of a, none of which has decided: the first n code points agree. -/
def Agree (b : ByteArray) (pre : List U) : Prop := pre.length ≤ (cps b).length ∧ pre.map (·.c) = (cps b).take pre.length
/-- Between two rounds of Compare's loop. -/
def CmpI (a b : ByteArray) (w : World) (pre : List (Un a)) (W : World) : Prop :=
  (W.heap[w.heap.size]? = some (.cells #[.int .i64 0] 3 (0, 0)) ∧ W.heap[w.heap.size + 1]? = some (.cells #[.string (restN b pre.length)] 9 (0, 0)) ∧ Agree b (pre.map (·.1)) ∧ w.heap.size + 3 ≤ W.heap.size) ∧ Below w.heap.size w W
/-- Compare's loop has been left, with an answer. -/
def CmpX (a b : ByteArray) (w : World) (c : Code) (pre : List (Un a)) (W : World) : Prop :=
  (∃ (l : List U) (x : U) (r : Int), W.heap[w.heap.size]? = some (.cells #[.int .i64 r] 3 (0, 0)) ∧ c = .ret ∧ pre.map (·.1) = l ++ [x] ∧ Agree b l ∧
    ((l.length = (cps b).length ∧ r = 1) ∨ ∃ y : Nat, (cps b)[l.length]? = some y ∧ r = ordI (x.c : Int) (y : Int) ∧ r ≠ 0)) ∧ Below w.heap.size w W
theorem cmpI_own (a b : ByteArray) (w : World) (B : Nat) (hB : w.heap.size ≤ B) : OwnFrom B (CmpI a b w) :=
  OwnFrom.and (OwnFrom.and (Own.from (cells_ownF _ _ _ _) _) (OwnFrom.and (Own.from (cells_ownF _ _ _ _) _) (OwnFrom.and (ownFrom_pure _ _) (size_own _ _)))) (ownFrom_below (Nat.le_refl _) hB)
theorem cmpX_own (a b : ByteArray) (w : World) (B : Nat) (hB : w.heap.size ≤ B) (c : Code) : OwnFrom B (CmpX a b w c) :=
  fun _ X Y row h hg hr => by
    obtain ⟨⟨l, x, r, hv, h2⟩, hb⟩ := h
    exact ⟨⟨l, x, r, cells_own _ _ _ _ () X Y row hv hg (fun r e => (hr r e).2), h2⟩, ownFrom_below (β := Unit) (Nat.le_refl _) hB () X Y row hb hg hr⟩

theorem cmpC_app : ∀ (p xs ys : List Nat), cmpC (p ++ xs) (p ++ ys) = cmpC xs ys
  | [], _, _ => rfl
  | a :: p, xs, ys => by
    rw [List.cons_append, List.cons_append]
    simp only [cmpC]
    rw [if_neg (Nat.lt_irrefl a), if_neg (Nat.lt_irrefl a), cmpC_app p xs ys]
theorem cmpC_cons (x y : Nat) (xs ys : List Nat) (h : ordI (x : Int) (y : Int) ≠ 0) : cmpC (x :: xs) (y :: ys) = ordI (x : Int) (y : Int) := by
  unfold ordI at *
  simp only [cmpC]
  by_cases h1 : x < y
  · rw [if_pos h1, if_pos (by omega)]
  · rw [if_neg h1]
    by_cases h2 : y < x
    · rw [if_pos h2, if_neg (by omega), if_pos (by omega)]
    · exact absurd (by rw [if_neg (by omega), if_neg (by omega)]) h
theorem cmpC_self (xs : List Nat) : cmpC xs xs = 0 := by
  have := cmpC_app xs [] []
  rw [List.append_nil] at this
  exact this
/-- a ends where the others went on. -/
theorem cmpS_short (a b : ByteArray) (h : cps a = (cps b).take (cps a).length) (hl : (cps a).length < (cps b).length) : cmpS a b = -1 := by
  have hd : (cps b).drop (cps a).length = (cps b)[(cps a).length] :: (cps b).drop ((cps a).length + 1) := List.drop_eq_getElem_cons hl
  have hb : cps b = cps a ++ ((cps b)[(cps a).length] :: (cps b).drop ((cps a).length + 1)) := by
    have := List.take_append_drop (cps a).length (cps b)
    rw [← h, hd] at this
    exact this.symm
  have hc : cmpC (cps a) (cps b) = -1 := by
    have := cmpC_app (cps a) [] ((cps b)[(cps a).length] :: (cps b).drop ((cps a).length + 1))
    rw [List.append_nil, ← hb] at this
    rw [this]
    rfl
  unfold cmpS
  rw [hc, if_neg (by decide)]
theorem cmpS_same (a b : ByteArray) (h : cps a = cps b) : cmpS a b = compareBytes a.data.toList b.data.toList := by
  unfold cmpS
  rw [h, cmpC_self, if_pos rfl]
theorem cmpS_stop (a b : ByteArray) (l : List U) (x : U) (q : List U) (r : Int) (hu : units a = l ++ [x] ++ q) (hg2 : l.map (·.c) = (cps b).take l.length)
    (hor : (l.length = (cps b).length ∧ r = 1) ∨ ∃ y : Nat, (cps b)[l.length]? = some y ∧ r = ordI (x.c : Int) (y : Int) ∧ r ≠ 0) : cmpS a b = r := by
  have ha : cps a = (cps b).take l.length ++ (x.c :: q.map (·.c)) := by
    have : cps a = (l ++ [x] ++ q).map (·.c) := congrArg (List.map fun u : U => u.c) hu
    rw [this, ← hg2]
    simp
  have key : cmpC (cps a) (cps b) = cmpC (x.c :: q.map (·.c)) ((cps b).drop l.length) := by
    have := cmpC_app ((cps b).take l.length) (x.c :: q.map (·.c)) ((cps b).drop l.length)
    rw [List.take_append_drop, ← ha] at this
    exact this
  have hc : cmpC (cps a) (cps b) = r ∧ r ≠ 0 := by
    rw [key]
    rcases hor with ⟨h1, rfl⟩ | ⟨y, hy, rfl, hne⟩
    · rw [h1, List.drop_length]
      exact ⟨rfl, by decide⟩
    · obtain ⟨hlt, hv⟩ := List.getElem?_eq_some_iff.1 hy
      have hd : (cps b).drop l.length = y :: (cps b).drop (l.length + 1) := by rw [List.drop_eq_getElem_cons hlt, hv]
      rw [hd]
      exact ⟨cmpC_cons _ _ _ _ hne, hne⟩
  unfold cmpS
  rw [hc.1, if_neg hc.2]

set_option maxRecDepth 100000 in
set_option maxHeartbeats 1000000 in
theorem compare_any (a b : ByteArray) (ha : a.size ≤ 140737488355328) (hb : b.size ≤ 140737488355328) (w : World) :
    Calls Try.prog 27 #[.string a, .string b] w fun e w' => e = .returned (.int .i64 (cmpS a b)) ∧ Below w.heap.size w w' := by
  refine (callsIn_wide (n := 3)).1 ?_
  refine callsIn_of_wp_marks Try.func27 rfl trivial ?_ rfl
  simp only [Try.ntmps27, List.size_toArray, List.length_cons, List.length_nil, Nat.reduceAdd, Nat.reduceSub, Array.replicate_succ, Array.replicate_zero, List.push_toArray, List.append_toArray, List.nil_append, List.cons_append]
  gi_wp2_with (refine ⟨trivial, ?_⟩; gi_at_call 29; refine (callsIn_wide.2 (units_fn a _)).mono ?_; rintro e w' ⟨rfl, rfl⟩)
  have b0 := block_new w (Obj.cells #[Value.int IntKind.i64 0] 3)
  have b1 := block_new (w.alloc (Obj.cells #[Value.int IntKind.i64 0] 3)) (Obj.cells #[Value.string b] 9)
  have b2 := block_new ((w.alloc (Obj.cells #[Value.int IntKind.i64 0] 3)).alloc (Obj.cells #[Value.string b] 9)) (Obj.cells #[Value.string a] 9)
  simp only [World.size_alloc] at b1 b2
  replace b0 := block_alloc (Obj.cells #[Value.string a] 9) (block_alloc (Obj.cells #[Value.string b] 9) b0)
  replace b1 := block_alloc (Obj.cells #[Value.string a] 9) b1
  have hB0 : Below w.heap.size w (((w.alloc (Obj.cells #[Value.int IntKind.i64 0] 3)).alloc (Obj.cells #[Value.string b] 9)).alloc (Obj.cells #[Value.string a] 9)) :=
    (((Below.refl _ w).alloc (Nat.le_refl _) _).alloc (by simp) _).alloc (by simp; omega) _
  have hsz : (((w.alloc (Obj.cells #[Value.int IntKind.i64 0] 3)).alloc (Obj.cells #[Value.string b] 9)).alloc (Obj.cells #[Value.string a] 9)).heap.size = w.heap.size + 3 := by simp
  obtain ⟨W0, hW0⟩ : ∃ W0, (((w.alloc (Obj.cells #[Value.int IntKind.i64 0] 3)).alloc (Obj.cells #[Value.string b] 9)).alloc (Obj.cells #[Value.string a] 9)) = W0 := ⟨_, rfl⟩
  rw [hW0] at b0 b1 b2 hB0 hsz ⊢
  clear hW0
  refine wpIn_rangeFunc_ownH (n := 3) rfl (by omega) (gf := 38) (lb := #[.pointer (some ⟨w.heap.size + 2, 0, none⟩)]) rfl trivial (enters_of Try.func38 (by kernel_rfl) rfl)
    (units_stops 2 (by omega) (w.heap.size + 2) w.heap.size a (by unfold maxLen; omega) W0 (by omega) (cell_of b2 rfl)) keepsIt_t (keepsIt_b (by omega) (by omega)) (Below.refl _ _) (fun _ => rfl)
    (CmpI a b w) (CmpX a b w) (cmpI_own a b w _ (by omega)) (cmpX_own a b w _ (by omega))
    ⟨⟨b0, b1, ⟨Nat.zero_le _, rfl⟩, by omega⟩, hB0⟩
    (fun x a' W => ∃ Bx, w.heap.size + 2 < Bx ∧ Boxed3 W Bx a x.1 ∧ a' = { tmps := #[.string a, .string b, undef, undef, .pointer (some ⟨w.heap.size, 0, none⟩), .pointer (some ⟨w.heap.size + 1, 0, none⟩), .pointer (some ⟨Bx, 0, none⟩), undef, undef, undef, undef, undef, .string b, .string a, .func (.func 38) #[] #[.pointer (some ⟨w.heap.size + 1 + 1, 0, none⟩)], uval a x.1, undef, undef, undef, undef, undef, undef, undef, undef, undef, undef, undef, undef, undef, undef, undef, undef, undef, undef, undef, undef, undef, undef, undef, undef], defers := [] })
    (fun x a' _ X Y row hs hg hr => by obtain ⟨Bx, h1, h2, h3⟩ := hs; exact ⟨Bx, h1, cells_own Bx _ _ _ () X Y row h2 hg (fun r e => (hr r e).2), h3⟩)
    ?assign ?body ?done ?stop
  case assign =>
    rintro l pre x W K ⟨⟨b0, b1, hg, hz⟩, hB⟩ hK
    unfold encU uval
    gi_wp2
    exact hK _ _ ((KeepsOthers.alloc _ _).from _) (keepsIt_alloc W hB.size (by omega) _) ⟨⟨block_alloc _ b0, block_alloc _ b1, hg, by simp; omega⟩, hB.alloc hB.size _⟩ ⟨W.heap.size, by omega, Boxed3.new W a x.1, rfl⟩
  case body =>
    rintro l pre x a' W hl ⟨r, hr⟩ ⟨⟨b0, b1, ⟨hg1, hg2⟩, hz⟩, hB⟩ ⟨Bx, hBx, bX, rfl⟩ hlt
    obtain ⟨c0, c1, c2⟩ := bX.cells
    have hmap : (pre ++ [x]).map (·.1) = pre.map (·.1) ++ [x.1] := by simp
    have HM := Lib.hid hmap
    have hlen : (pre.map (·.1)).length = pre.length := List.length_map _
    obtain ⟨hr1, hr2⟩ := cps_rest b (pre.map (·.1)).length hg1
    have hr3 := rest_zero b (pre.map (·.1)).length hg1
    rw [hlen] at hr1 hr2 hr3
    have hnext : restN b (pre ++ [x]).length = (restN b pre.length).extract (Utf8.decode (restN b pre.length) 0).2 (restN b pre.length).size := by
      rw [List.length_append, List.length_singleton]; rfl
    have HA1 := Lib.hid hg1
    have HA2 := Lib.hid hg2
    have HLN := Lib.hid hlen
    obtain ⟨T, hT⟩ : ∃ T, restN b pre.length = T := ⟨_, rfl⟩
    rw [hT] at hr1 hr2 hr3 hnext b1
    have d0 := cell_of (i := 0) (v := .int .i64 0) b0 rfl
    have d1 := cell_of (i := 0) (v := .string T) b1 rfl
    have f0 := frozen_of (i := 0) b0
    have f1 := frozen_of (i := 0) b1
    have e0 : W.cell? ⟨Bx, 0, none⟩ = some (.int .i32 (x.1.c : Int)) := c0
    have hBxlt : Bx < W.heap.size := (Array.getElem?_eq_some_iff.1 (show W.heap[Bx]? = _ from bX)).1
    have H0 := Lib.hid b0
    have H1 := Lib.hid b1
    clear c1 c2 hT hlen hg1 hg2 hmap hlt hr b0 b1 bX
    by_cases hz0 : T.size = 0
    · have hcl := hr3.1 hz0
      have hAt : ∀ w, Calls Try.prog 15 #[.string T, .int .i64 0] w fun e w' => e = .returned (.tuple #[.int .i32 0, .int .i64 0, .int .i64 0, .bool false]) ∧ Below w.heap.size w w' := by
        intro w
        have := at_any T (by omega) 0 w
        rw [atU_none T hz0] at this
        exact this
      have HAT := Lib.hid hAt
      have HCL := Lib.hid hcl
      clear hAt hr1 hr2 hr3 hnext hz0 hcl
      gi_wp2_with (refine ⟨trivial, ?_⟩; gi_at_call 15; refine (CallsIn.inRound l (callsIn_wide.2 (HAT.out _))).mono ?_; rintro e w1 ⟨rfl, hb1⟩; have g0 := (hb1.cell (p := ⟨w.heap.size, 0, none⟩) (by simp; omega)).trans d0; have k0 := (hb1.frozen (p := ⟨w.heap.size, 0, none⟩) (by simp; omega)).trans f0)
      refine ⟨(keepsFrom_below hb1).trans ((KeepsOthers.setCell _ _ _).from _), ⟨pre.map (·.1), x.1, 1, block_set _ (block_below H0.out hb1 (by omega)), rfl, HM.out, ⟨HA1.out, HA2.out⟩, .inl ⟨HLN.out.trans HCL.out, rfl⟩⟩, (hB.trans (hb1.mono hB.size)).setCell (p := ⟨w.heap.size, 0, none⟩) (Nat.le_refl _) _⟩
    · obtain ⟨hst, hwl, hw1⟩ := cps_step T (by omega)
      have hau := atU_zero T (by omega)
      have hcd : (Utf8.decode T 0).1 ≤ 1114111 := by
        have := decodeL_c_le (T.data.toList.drop 0)
        rw [Lib.decodeL_drop] at this
        exact this.1
      obtain ⟨y, hy⟩ : ∃ y, (Utf8.decode T 0).1 = y := ⟨_, rfl⟩
      obtain ⟨k, hk⟩ : ∃ k, (Utf8.decode T 0).2 = k := ⟨_, rfl⟩
      rw [hy] at hst hau hcd
      rw [hk] at hst hau hwl hw1 hnext
      have hget : (cps b)[(pre.map (·.1)).length]? = some y := by
        rw [HLN.out]
        rw [hr1] at hst
        have := congrArg (fun l : List Nat => l[0]?) hst
        simpa [List.getElem?_drop] using this
      have hAt : ∀ w, Calls Try.prog 15 #[.string T, .int .i64 0] w fun e w' => e = .returned (.tuple #[.int .i32 (y : Int), .int .i64 0, .int .i64 (k : Int), .bool true]) ∧ Below w.heap.size w w' := by
        intro w
        have := at_any T (by omega) 0 w
        rw [hau] at this
        exact this
      have HAT := Lib.hid hAt
      have HG := Lib.hid hget
      have HN := Lib.hid hnext
      have hTm : T.size ≤ 140737488355328 := by omega
      clear hAt hr1 hr2 hr3 hnext hz0 hst hau hget hy hk
      obtain ⟨o, ho⟩ : ∃ o, ordI (x.1.c : Int) (y : Int) = o := ⟨_, rfl⟩
      have HO := Lib.hid ho
      by_cases ho0 : o = 0
      · have hcy : x.1.c = y := by
          rw [ho0] at ho
          unfold ordI at ho
          split at ho
          · cases ho
          · split at ho
            · cases ho
            · omega
        have HCY := Lib.hid hcy
        have hcmp : ∀ w, Calls Try.prog 35 #[.int .i32 (x.1.c : Int), .int .i32 (y : Int)] w fun e w' => e = .returned (.int .i64 0) ∧ w = w' := by
          intro w
          have := cmp_any (x.1.c : Int) (y : Int) w
          rw [ho, ho0] at this
          exact this
        have HCM := Lib.hid hcmp
        clear hcy hcmp ho ho0
        gi_wp2_with (first | (refine ⟨trivial, ?_⟩; gi_at_call 15; refine (CallsIn.inRound l (callsIn_wide.2 (HAT.out _))).mono ?_; rintro e w1 ⟨rfl, hb1⟩; have g0 := (hb1.cell (p := ⟨w.heap.size + 1, 0, none⟩) (by simp; omega)).trans d1; have k0 := (hb1.frozen (p := ⟨w.heap.size + 1, 0, none⟩) (by simp; omega)).trans f1; have u0 := (hb1.cell (p := ⟨Bx, 0, none⟩) hBxlt).trans e0) | (refine ⟨trivial, ?_⟩; gi_at_call 35; refine (CallsIn.inRound l (callsIn_wide.2 (HCM.out _))).mono ?_; rintro e w2 ⟨rfl, rfl⟩))
        refine ⟨(keepsFrom_below hb1).trans ((KeepsOthers.setCell _ _ _).from _), keepsIt_t (keepsIt_below hb1 (Nat.le_refl _) hB.size (by omega)) (keepsIt_setCell w1 _ _ (by omega) (by omega) _),
          ⟨block_other _ (block_below H0.out hb1 (by omega)) (by omega), ?_, ?_, ?_⟩, (hB.trans (hb1.mono hB.size)).setCell (p := ⟨w.heap.size + 1, 0, none⟩) (by simp) _⟩
        · rw [HN.out]
          exact block_set _ (block_below H1.out hb1 (by omega))
        · have hg := HG.out
          obtain ⟨hlt, hv⟩ := List.getElem?_eq_some_iff.1 hg
          refine ⟨?_, ?_⟩
          · rw [HM.out, List.length_append, List.length_singleton]
            omega
          · rw [HM.out, List.map_append, HA2.out, List.length_append, List.length_singleton, List.take_succ_eq_append_getElem hlt, hv, List.map_cons, List.map_nil, HCY.out]
        · have := (KeepsOthers.setCell w1 ⟨w.heap.size + 1, 0, none⟩ (.string (T.extract k T.size))).size
          have := hb1.size
          omega
      · have hbo : (o != 0) = true := by simpa using ho0
        have hcmp : ∀ w, Calls Try.prog 35 #[.int .i32 (x.1.c : Int), .int .i32 (y : Int)] w fun e w' => e = .returned (.int .i64 o) ∧ w = w' := by
          intro w
          have := cmp_any (x.1.c : Int) (y : Int) w
          rw [ho] at this
          exact this
        have HCM := Lib.hid hcmp
        have HO0 := Lib.hid ho0
        clear hcmp ho ho0
        gi_wp2_with (first | (refine ⟨trivial, ?_⟩; gi_at_call 15; refine (CallsIn.inRound l (callsIn_wide.2 (HAT.out _))).mono ?_; rintro e w1 ⟨rfl, hb1⟩; have g0 := (hb1.cell (p := ⟨w.heap.size, 0, none⟩) (by simp; omega)).trans d0; have k0 := (hb1.frozen (p := ⟨w.heap.size, 0, none⟩) (by simp; omega)).trans f0; have u0 := (hb1.cell (p := ⟨Bx, 0, none⟩) hBxlt).trans e0) | (refine ⟨trivial, ?_⟩; gi_at_call 35; refine (CallsIn.inRound l (callsIn_wide.2 (HCM.out _))).mono ?_; rintro e w2 ⟨rfl, rfl⟩))
        refine ⟨(keepsFrom_below hb1).trans ((KeepsOthers.setCell _ _ _).from _), ⟨pre.map (·.1), x.1, o, block_set _ (block_below H0.out hb1 (by omega)), rfl, HM.out, ⟨HA1.out, HA2.out⟩, .inr ⟨y, HG.out, HO.out.symm, HO0.out⟩⟩, (hB.trans (hb1.mono hB.size)).setCell (p := ⟨w.heap.size, 0, none⟩) (Nat.le_refl _) _⟩
  case done =>
    rintro D xs W hD hx ⟨⟨b0, b1, ⟨hg1, hg2⟩, hz⟩, hB⟩ hK
    have hxl : xs.length = (cps a).length := by
      have := congrArg List.length hx
      rw [List.length_map] at this
      unfold cps
      rw [List.length_map]
      exact this
    have hmc : (xs.map (·.1)).map (·.c) = cps a := congrArg (List.map (·.c)) hx
    have hml : (xs.map (·.1)).length = (cps a).length := by rw [List.length_map, hxl]
    rw [hmc, hml] at hg2
    rw [hml] at hg1
    have hr3 := rest_zero b (cps a).length hg1
    rw [hxl] at b1
    obtain ⟨T, hT⟩ : ∃ T, restN b (cps a).length = T := ⟨_, rfl⟩
    rw [hT] at hr3 b1
    have d0 := cell_of (i := 0) (v := .int .i64 0) b0 rfl
    have d1 := cell_of (i := 0) (v := .string T) b1 rfl
    have f0 := frozen_of (i := 0) b0
    have H0 := Lib.hid b0
    have hTl : T.toList = T.data.toList := toList_d T
    by_cases hz0 : T.size = 0
    · have hres : cmpS a b = compareBytes a.data.toList b.data.toList := by
        refine cmpS_same a b ?_
        have h1 := hr3.1 hz0
        rw [hg2, h1, List.take_length]
      have HR := Lib.hid hres
      have hte : T.toList = [] := by
        rw [hTl]
        apply List.eq_nil_of_length_eq_zero
        rw [← Lib.size_eq]
        exact hz0
      have hte2 : T.toList.isEmpty = true := by rw [hte]; rfl
      clear hres hr3 hg1 hg2 hx hmc hml hxl hz0 hTl hT b0 b1
      gi_wp2_with (refine ⟨trivial, ?_⟩; gi_at_call 36; refine (callsIn_wide.2 (stringsCompare_any _ _ _)).mono ?_; rintro e w2 ⟨rfl, rfl⟩)
      have hK' := (KeepsOthers.setCell W ⟨w.heap.size, 0, none⟩ (.int .i64 (compareBytes a.data.toList b.data.toList))).same D _ hK rfl
      have hB2 := hB.setCell (p := ⟨w.heap.size, 0, none⟩) (Nat.le_refl _) (.int .i64 (compareBytes a.data.toList b.data.toList))
      have hb5 := (World.putObj_heap_other (o := .deferred none) (show w.heap.size ≠ D by omega)).trans (block_set (i := 0) (.int .i64 (compareBytes a.data.toList b.data.toList)) H0.out)
      have q0 := cell_of (i := 0) (v := .int .i64 (compareBytes a.data.toList b.data.toList)) hb5 rfl
      refine ⟨by simp, .inl ⟨_, _, rfl, run_takeDeferred hK', ?_⟩⟩
      refine ⟨.int .i64 (compareBytes a.data.toList b.data.toList), ?_, by rw [HR.out], hB2.trans (belowK_b (w := w) (Nat.le_refl _) _ D _ _ (by omega) hK' rfl rfl)⟩
      simp [results, Try.f27, go_sem, q0]
    · have hres : cmpS a b = -1 := by
        refine cmpS_short a b hg2 ?_
        have : (cps a).length ≠ (cps b).length := fun h => hz0 (hr3.2 h)
        omega
      have HR := Lib.hid hres
      have hte : ¬ T.toList = [] := by
        rw [hTl]
        intro h
        apply hz0
        rw [Lib.size_eq, h]
        rfl
      have hte2 : T.toList.isEmpty = false := by
        rw [List.isEmpty_eq_false_iff]
        exact hte
      clear hres hr3 hg1 hg2 hx hmc hml hxl hz0 hTl hT b0 b1
      gi_wp2
      have hK' := (KeepsOthers.setCell W ⟨w.heap.size, 0, none⟩ (.int .i64 (-1))).same D _ hK rfl
      have hB2 := hB.setCell (p := ⟨w.heap.size, 0, none⟩) (Nat.le_refl _) (.int .i64 (-1))
      have hb5 := (World.putObj_heap_other (o := .deferred none) (show w.heap.size ≠ D by omega)).trans (block_set (i := 0) (.int .i64 (-1)) H0.out)
      have q0 := cell_of (i := 0) (v := .int .i64 (-1)) hb5 rfl
      refine ⟨by simp, .inl ⟨_, _, rfl, run_takeDeferred hK', ?_⟩⟩
      refine ⟨.int .i64 (-1), ?_, by rw [HR.out], hB2.trans (belowK_b (w := w) (Nat.le_refl _) _ D _ _ (by omega) hK' rfl rfl)⟩
      simp [results, Try.f27, go_sem, q0]
  case stop =>
    rintro D c pre W hD hpre ⟨⟨l, x, r, b0, rfl, hm, ⟨hg1, hg2⟩, hor⟩, hB⟩ hK
    have hres : cmpS a b = r := by
      obtain ⟨q, hq⟩ := hpre
      rw [hm] at hq
      exact cmpS_stop a b l x q r hq.symm hg2 hor
    have HR := Lib.hid hres
    have H0 := Lib.hid b0
    clear hres hpre hm hg1 hg2 hor b0
    gi_wp2
    have hb5 := (World.putObj_heap_other (o := .deferred none) (show w.heap.size ≠ D by omega)).trans H0.out
    have q0 := cell_of (i := 0) (v := .int .i64 r) hb5 rfl
    refine ⟨by simp, .inl ⟨_, _, rfl, run_takeDeferred hK, ?_⟩⟩
    refine ⟨.int .i64 r, ?_, by rw [HR.out], hB.trans (belowK_b (w := w) (Nat.le_refl _) _ D _ _ (by omega) hK rfl rfl)⟩
    simp [results, Try.f27, go_sem, q0]
end Go.Proofs.Ytilgbjakhpgkcaa
