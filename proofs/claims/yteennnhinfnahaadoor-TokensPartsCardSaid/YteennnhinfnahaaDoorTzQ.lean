/-
  WALKS over package block, reading: a number, the lowest bits of numbers.
  WALKS over package block, reading: Unpack, Get.
  WALKS over package block, reading: Get; the reference's SameInts.
-/
import Derived.Test.YteennnhinfnahaaDoorTzO
import Derived.Test.YteennnhinfnahaaDoorTzP
import Derived.Test.YteennnhinfnahaaDoorBiF
import Derived.Test.YteennnhinfnahaaDoorTzM
import Derived.Laws.Bits64b
import Derived.Scope
import Derived.WalkMore
import Derived.ScopeJumps
import Derived.BigQuiet
import Derived.Deep.QuietTactic
namespace Go.Proofs.YteennnhinfnahaaDoor
open Go.RowKit Go.Shelf Go.Lib
set_option linter.unusedVariables false
set_option linter.unusedSimpArgs false

theorem slice_fromB (A : Option Addr) (n cap k : Nat) (hk : k ≤ n) (hn : n ≤ cap) (w : World) : (Instr.slice 44 (.slice A n cap) (some (.int .i64 (k : Int))) none none).run Tryd.prog w = .ok (sliced A k n cap 1) w := by
  rw [run_slice_l w 44 _ _ _ (by kernel_rfl) .i64 k (by omega) (by omega)]
  have hz1 : (sizeOf (Tryd.prog.elem 44)).run Tryd.prog w = .ok 1 w := by kernel_rfl
  rw [hz1]
  simp [Result.andThen]
theorem seesB_from {w : World} {B n cap k : Nat} {A : Option Addr} {L : List UInt8} (h : Sees w B (.slice A n cap) L) (hk : k ≤ n) : Sees w B (sliced A k n cap 1) (L.drop k) := by
  rcases h with ⟨rfl, h2⟩ | ⟨ad, cap', h2, hc, hb, hj⟩
  · cases h2
    obtain rfl : k = 0 := by omega
    exact .inl ⟨rfl, by simp [sliced]⟩
  · cases h2
    have hl : (L.drop k).length = L.length - k := List.length_drop
    by_cases h0 : k = L.length
    · subst h0
      refine .inr ⟨if cap = L.length then ad else ad.add (L.length * 1), cap - L.length, ?_, ?_, fun h => absurd h (by simp), fun j hj => absurd hj (by simp)⟩
      · unfold sliced
        rw [hl]
        split <;> simp
      · simp
    · have h0j := hj 0 (by omega)
      have e := plain_cell (by simpa [Addr.add] using h0j)
      obtain ⟨bk, of, sp⟩ := ad
      have hsp : sp = none := congrArg Addr.spot e
      subst hsp
      have ha : ∀ o m : Nat, (⟨bk, o, none⟩ : Addr).add m = ⟨bk, o + m, none⟩ := fun o m => by unfold Addr.add; split <;> simp_all
      unfold sliced
      rw [if_neg (by omega)]
      refine .inr ⟨⟨bk, of + k, none⟩, cap - k, ?_, by rw [hl]; omega, fun _ => hb (by omega), fun j hj' => ?_⟩
      · rw [hl, Option.map_some, ha, Nat.mul_one]
      · rw [List.getElem_drop, ha, Nat.add_assoc]
        have := hj (k + j) (by rw [hl] at hj'; omega)
        rw [ha] at this
        exact this
/-- A reader in memory: its rest. -/
def RdB (w : World) (g B : Nat) (L : List UInt8) : Prop := ∃ v, w.heap[g]? = some (.cells #[v] 86 (0, 0)) ∧ Sees w B v L ∧ B ≤ g
def okN (L : List UInt8) (lo hi : Nat) : Prop := (tk L 0 0).2.2 = 0 ∧ lo ≤ (tk L 0 0).1 ∧ (tk L 0 0).1 ≤ hi
def NumV (w : World) (g B : Nat) (L : List UInt8) (lo hi : Nat) (e : Ending) (w' : World) : Prop :=
  (okN L lo hi ∧ e = .returned (.tuple #[.int .i64 ((tk L 0 0).1 : Nat), .bool true]) ∧ RdB w' g B (L.drop (tk L 0 0).2.1) ∧ w.grownBy w' (some g)) ∨
  (¬ okN L lo hi ∧ e = .returned (.tuple #[.int .i64 0, .bool false]) ∧ w' = w)
theorem RdB.set {w : World} {g B : Nat} {L M : List UInt8} {v u : Value} (h : w.heap[g]? = some (.cells #[v] 86 (0, 0))) (hs : Sees w B u M) (hB : B ≤ g) : RdB (w.setCell ⟨g, 0, none⟩ u) g B M ∧ w.grownBy (w.setCell ⟨g, 0, none⟩ u) (some g) := by
  have h1 := set_of h (i := 0) u
  refine ⟨⟨u, h1, hs.below ((Below.refl _ _).setCell (p := ⟨g, 0, none⟩) hB u), hB⟩, ?_⟩
  refine ⟨rfl, rfl, rfl, by simp [World.setCell], fun k hk hne => Below.heap_setCell w ⟨g, 0, none⟩ u k (fun e => hne (by rw [e]))⟩
set_option maxRecDepth 100000 in
set_option maxHeartbeats 4000000 in
theorem rdnum_any {w : World} {g B : Nat} {L : List UInt8} (h : RdB w g B L) (hL : L.length ≤ 12500) (lo hi : Nat) (hlo : lo ≤ 2147483647) (hhi : hi ≤ 2147483647) :
    Calls Tryd.prog 47 #[.pointer (some ⟨g, 0, none⟩), .int .i64 lo, .int .i64 hi] w (NumV w g B L lo hi) := by
  obtain ⟨v, hb, hs, hB⟩ := h
  have c0 := cell_of (i := 0) hb rfl
  have f0 := frozen_of (i := 0) hb
  have HU := Lib.hid (uvarint_any hs (by omega))
  obtain ⟨htk1, htk2⟩ := tk_fits L 0 0 (by omega) (by omega)
  obtain ⟨A, cap, rfl, hcap, -⟩ := hs.form2
  obtain ⟨n, hn⟩ : ∃ n, L.length = n := ⟨_, rfl⟩
  rw [hn] at hb hs c0 HU hL hcap htk2
  obtain ⟨x, hx⟩ : ∃ x, (tk L 0 0).1 = x := ⟨_, rfl⟩
  obtain ⟨m, hm⟩ : ∃ x, (tk L 0 0).2.1 = x := ⟨_, rfl⟩
  obtain ⟨er, he⟩ : ∃ x, (tk L 0 0).2.2 = x := ⟨_, rfl⟩
  have hkV : tkV (tk L 0 0) = .tuple #[.int .u64 x, .int .i64 m, .int .i64 er] := by unfold tkV; rw [hx, hm, he]
  rw [hkV] at HU
  have hok : okN L lo hi ↔ er = 0 ∧ lo ≤ x ∧ x ≤ hi := by unfold okN; rw [he, hx]
  rw [hx] at htk1
  rw [hm] at htk2
  have hsl := slice_fromB A n cap m (by omega) hcap w
  have hfr := seesB_from hs (k := m) (by omega)
  have hset := RdB.set (L := L) hb hfr hB
  obtain ⟨A', n', c', hu⟩ : ∃ A' n' c', sliced A m n cap 1 = .slice A' n' c' := ⟨_, _, _, rfl⟩
  rw [hu] at hsl hset
  have HY : Hid (okN L lo hi → NumV w g B L lo hi (.returned (.tuple #[.int .i64 x, .bool true])) (w.setCell ⟨g, 0, none⟩ (.slice A' n' c'))) := Lib.hid (fun h => .inl ⟨h, by rw [hx], by rw [hm]; exact hset.1, hset.2⟩)
  have HN : Hid (¬ okN L lo hi → NumV w g B L lo hi (.returned (.tuple #[.int .i64 0, .bool false])) w) := Lib.hid (fun h => .inr ⟨h, rfl, rfl⟩)
  clear hb hs hB hfr hset hu hx hm he hkV hn
  by_cases h1 : er = 0
  · subst h1
    by_cases h2 : x < lo
    · have HG := Lib.hid (HN.out (fun h => by have := hok.1 h; omega))
      have b2 : decide ((x : Int) < (lo : Int)) = true := decide_eq_true (by omega)
      clear hok HY HN
      go_enter Tryd.func47, Tryd.ntmps47
      go_wp2_with fail
      refine HU.out.mono ?_
      rintro e w' ⟨rfl, rfl⟩
      go_wp2_with fail
      go_ret2
      exact HG.out
    · have b2 : decide ((x : Int) < (lo : Int)) = false := decide_eq_false (by omega)
      by_cases h3 : hi < x
      · have HG := Lib.hid (HN.out (fun h => by have := hok.1 h; omega))
        have b3 : decide ((x : Int) > (hi : Int)) = true := decide_eq_true (by omega)
        clear hok HY HN
        go_enter Tryd.func47, Tryd.ntmps47
        go_wp2_with fail
        refine HU.out.mono ?_
        rintro e w' ⟨rfl, rfl⟩
        go_wp2_with fail
        go_ret2
        exact HG.out
      · have HG := Lib.hid (HY.out (hok.2 ⟨rfl, by omega, by omega⟩))
        have b3 : decide ((x : Int) > (hi : Int)) = false := decide_eq_false (by omega)
        have hxs : x ≤ 2147483647 := by omega
        clear hok HY HN
        go_enter Tryd.func47, Tryd.ntmps47
        go_wp2_with fail
        refine HU.out.mono ?_
        rintro e w' ⟨rfl, rfl⟩
        go_wp2_with fail
        go_ret2
        exact HG.out
  · have HG := Lib.hid (HN.out (fun h => h1 (hok.1 h).1))
    have b1 : ((er : Int) != 0) = true := by simp; omega
    have b1' : ((er : Int) == 0) = false := by simp; omega
    clear hok HY HN h1
    go_enter Tryd.func47, Tryd.ntmps47
    go_wp2_with fail
    refine HU.out.mono ?_
    rintro e w' ⟨rfl, rfl⟩
    go_wp2_with fail
    go_ret2
    exact HG.out

theorem infoIntU : (Tryd.prog.info? 3).map (fun i => (i.zero, i.size, i.bytes)) = some (some (.int .i64 0), 1, 8) := by kernel_rfl
def iVU (ns : List Nat) : List Value := ns.map fun (x : Nat) => Value.int .i64 (x : Int)
theorem own_rowsU {w : World} {base : Nat} {v : Value} {ns : List Nat} (h : w.ownsRow base 3 1 v ns.length (iVU ns)) : Rows 1 EInt w v (castB ns) := by
  refine own_rows (base := base) ?_
  rw [castB_len]
  unfold iVU at h
  unfold castB
  rw [List.map_map]
  exact h
theorem own_setU {w : World} {base g n cap : Nat} {T : TypeId} {F : List Value} (h : w.ownsRow base T 1 (.slice (some ⟨g, 0, none⟩) n cap) n F) {i : Nat} (hi : i < n) (z : Value) :
    (w.setCell ⟨g, i, none⟩ z).ownsRow base T 1 (.slice (some ⟨g, 0, none⟩) n cap) n (F.set i z) := by
  have hn := h.1
  rcases h.2 with ⟨hv, _⟩ | ⟨g', cap', cur, hv, hb, hh, hc, hm, hs, ht⟩
  · cases hv
  · cases hv
    exact ⟨by rw [List.length_set, hn], .inr ⟨g, cap, _, rfl, hb, set_of hh _, hc, hm, by simp [hs], by rw [← ht, Array.toList_setIfInBounds, List.take_set]⟩⟩
theorem iVU_set (ns : List Nat) (p g : Nat) : (iVU ns).set p (.int .i64 (g : Int)) = iVU (ns.set p g) := by
  unfold iVU
  rw [List.map_set]
theorem rbits_low (l : List Bool) (i c W : Nat) (h : l.length = c * W) (hi : i < c) : rbits l (i * W) W = (numL ((l.drop (i * W)).take W), (i + 1) * W, 0) := by
  unfold rbits
  have h1 : (i + 1) * W ≤ c * W := Nat.mul_le_mul_right _ hi
  have e1 : (i + 1) * W = i * W + W := by rw [Nat.add_mul, Nat.one_mul]
  rw [if_neg (by rw [h]; omega), e1]
theorem lowsOf_len (L : List UInt8) (c W : Nat) : (lowsOf L c W).length = c := by simp [lowsOf]
theorem lowsOf_at (L : List UInt8) {c W i : Nat} (hi : i < c) : (lowsOf L c W)[i]? = some (numL (((unpack L (c * W)).drop (i * W)).take W)) := by
  unfold lowsOf
  rw [List.getElem?_map, List.getElem?_range hi]
  rfl
/-- A row that is being filled. -/
def fillB (l : List Nat) (c k : Nat) : List Nat := l.take k ++ List.replicate (c - k) 0
theorem fillB_len {l : List Nat} {c k : Nat} (hl : l.length = c) (hk : k ≤ c) : (fillB l c k).length = c := by
  unfold fillB
  rw [List.length_append, List.length_take, List.length_replicate]
  omega
theorem fillB_set {l : List Nat} {c k x : Nat} (hl : l.length = c) (h : l[k]? = some x) : (fillB l c k).set k x = fillB l c (k + 1) := by
  have hk : k < l.length := (List.getElem?_eq_some_iff.1 h).1
  unfold fillB
  have e : c - k = (c - (k + 1)) + 1 := by omega
  rw [e, List.replicate_succ, List.take_add_one, h]
  have hlt : (l.take k).length = k := by rw [List.length_take]; omega
  rw [List.set_append_right _ _ (by omega), hlt, Nat.sub_self]
  simp
theorem numL_le (l : List Bool) (W : Nat) (h : l.length ≤ W) : numL l < 2 ^ W := Nat.lt_of_lt_of_le (numL_lt l) (Nat.pow_le_pow_right (by decide) h)
theorem castB_at {ns : List Nat} {i x : Nat} (h : ns[i]? = some x) : (castB ns)[i]? = some (x : Int) := by unfold castB; rw [List.getElem?_map, h]; rfl
theorem castB_set (ns : List Nat) (p g : Nat) : (castB ns).set p (g : Int) = castB (ns.set p g) := by unfold castB; rw [List.map_set]
theorem castB_rep (n : Nat) : castB (List.replicate n 0) = List.replicate n (0 : Int) := by simp [castB]
theorem intRow_at {l : List Int} {i : Nat} {x : Int} (h : l[i]? = some x) : (intRow l)[i]? = some (.int .i64 x) := by
  have hi := (List.getElem?_eq_some_iff.1 h).1
  rw [intRow_get hi, List.getD_eq_getElem?_getD, h]
  rfl
theorem make_int (n : Nat) (hn : n ≤ 100000) (W : World) : (Instr.makeSlice 22 (.int .i64 n) (.int .i64 n)).run Tryd.prog W = .ok (.slice (some ⟨W.heap.size, 0, none⟩) n n) (W.alloc (.cells (intRow (castB (List.replicate n 0))) 3)) := by
  obtain ⟨i1, hi1, hy0, hy1, hy2⟩ := info_parts' infoIntU
  have := run_make (P := Tryd.prog) W 22 3 i1 _ Tryd.underlying22 hi1 hy0 .i64 .i64 n n (by omega) (by omega) (by rw [hy2]; omega) (by omega)
  rw [Int.toNat_natCast, hy1, Nat.mul_one] at this
  rw [castB_rep, ← made_int]
  exact this
theorem RAt.setB {w : World} {B g D i : Nat} {vb u : Value} {bs : List UInt8} {size p : Nat} (h : RAt w B g vb bs size p) (hg : g ≠ D) (ho : vb.ownBlock ≠ some D) :
    RAt (w.setCell ⟨D, i, none⟩ u) B g vb bs size p :=
  ⟨h.1, by rw [Below.heap_setCell w ⟨D, i, none⟩ u g hg]; exact h.2.1, own_below h.2.2.1 fun k hk => Below.heap_setCell w ⟨D, i, none⟩ u k (fun e => ho (by rw [hk, e])), h.2.2.2⟩
/-- Between two numbers of low: the new Reader has moved, the row is filled to k. -/
structure LwAt (w : World) (L bs : List UInt8) (c W : Nat) (gr D : Nat) (vb : Value) (k : Nat) (wr : World) : Prop where
  bl : Below w.heap.size w wr
  rd : RAt wr w.heap.size gr vb bs (c * W) (k * W)
  ro : wr.heap[D]? = some (.cells (intRow (castB (fillB (lowsOf L c W) c k))) 3 (0, 0))
  ne : gr ≠ D ∧ vb.ownBlock ≠ some D ∧ w.heap.size ≤ D
def LowV (w : World) (g B : Nat) (L : List UInt8) (c W : Nat) (e : Ending) (w' : World) : Prop :=
  (c * W ≤ 8 * L.length ∧ ∃ D, e = .returned (.tuple #[.slice (some ⟨D, 0, none⟩) c c, .bool true]) ∧ w.heap.size ≤ D ∧ w'.heap[D]? = some (.cells (intRow (castB (lowsOf L c W))) 3 (0, 0)) ∧ RdB w' g B (L.drop ((c * W + 7) / 8)) ∧ Below B w w') ∨
  (¬ c * W ≤ 8 * L.length ∧ e = .returned (.tuple #[.slice none 0 0, .bool false]) ∧ w' = w)
set_option maxRecDepth 100000 in
set_option maxHeartbeats 4000000 in
theorem low_anyB {w : World} {g B : Nat} {L : List UInt8} (h : RdB w g B L) (hg : g < w.heap.size) (hL : L.length ≤ 12500) (c W : Nat) (hc : c ≤ 128) (hW : W ≤ 31) :
    Calls Tryd.prog 48 #[.pointer (some ⟨g, 0, none⟩), .int .i64 c, .int .i64 W] w (LowV w g B L c W) := by
  obtain ⟨v, hb, hs, hB⟩ := h
  have hmul : c * W ≤ 128 * 31 := Nat.mul_le_mul hc hW
  have e1 : (c : Int) * (W : Int) = ((c * W : Nat) : Int) := (Int.natCast_mul c W).symm
  obtain ⟨t, ht⟩ : ∃ t, c * W = t := ⟨_, rfl⟩
  rw [ht] at hmul e1
  obtain ⟨A, cap, rfl, hcap, -⟩ := hs.form2
  have hsw := hs.mono (Nat.le_of_lt (Nat.lt_of_le_of_lt hB hg))
  have c0 : w.cell? ⟨g, 0, none⟩ = some (.slice A L.length cap) := cell_of (i := 0) hb rfl
  by_cases hfit : t ≤ 8 * L.length
  · have HNR := Lib.hid (newReader_any hsw hL t hfit)
    have hts : (t + 7) / 8 ≤ L.length := by omega
    have HFIN : Hid (∀ (D : Nat) (wr : World), LwAt w L (L.take ((t + 7) / 8)) c W D D (.slice none 0 0) c wr → True) := Lib.hid (fun _ _ _ => trivial)
    have HBW := Lib.hid hb
    have HSS := Lib.hid hs
    have HT := Lib.hid ht
    have HB0 := Lib.hid hB
    have HG0 := Lib.hid hg
    have HFIT := Lib.hid hfit
    have HLL := Lib.hid hL
    clear HFIN hb hs hsw ht hfit
    go_enter Tryd.func48, Tryd.ntmps48
    go_wp2_with fail
    refine HNR.out.mono ?_
    rintro e w2 ⟨gr, vb, rfl, hrat, hb2⟩
    have hmk := make_int c (by omega) w2
    have hstart : LwAt w L (L.take ((t + 7) / 8)) c W gr w2.heap.size vb 0 (w2.alloc (.cells (intRow (castB (List.replicate c 0))) 3)) := by
      have h1 : w.heap.size ≤ w2.heap.size := hb2.size
      refine ⟨hb2.alloc h1 _, ?_, ?_, ?_⟩
      · have h2 : (w2.alloc (.cells (intRow (castB (List.replicate c 0))) 3)).heap[gr]? = w2.heap[gr]? := (below_box w2 _).block gr hrat.lt
        rw [HT.out, Nat.zero_mul]
        exact ⟨hrat.1, h2.trans hrat.2.1, own_below hrat.2.2.1 fun k hk => (below_box w2 _).block k (own_low hrat.2.2.1 k hk).2, hrat.2.2.2⟩
      · have h3 : fillB (lowsOf L c W) c 0 = List.replicate c 0 := by simp [fillB]
        rw [h3]
        exact block_new w2 _
      · exact ⟨Nat.ne_of_lt hrat.lt, fun e => by have := (own_low hrat.2.2.1 _ e).2; omega, h1⟩
    have HS0 := Lib.hid hstart
    clear hstart hrat hb2 HNR c0
    go_wp2_with fail
    obtain ⟨D, hD⟩ : ∃ D, w2.heap.size = D := ⟨_, rfl⟩
    obtain ⟨w3, hw3⟩ : ∃ w3, w2.alloc (.cells (intRow (castB (List.replicate c 0))) 3) = w3 := ⟨_, rfl⟩
    rw [hD, hw3] at HS0
    rw [hD, hw3]
    clear hD hw3 hmk
    go_loopw [31] (fun iv wr => ∃ k : Nat, k ≤ c ∧ iv = .int .i64 k ∧ Hid (LwAt w L (L.take ((t + 7) / 8)) c W gr D vb k wr)) (fun iv _ => c - (Go.RowKit.intOf iv).toNat)
    case atStart => exact ⟨0, Nat.zero_le _, rfl, HS0⟩
    case round =>
      clear HS0
      obtain ⟨k, hk, rfl, HS⟩ := hrel
      by_cases hlt : k < c
      · have hlti : (k : Int) < (c : Int) := by omega
        have HRB := Lib.hid (rbits_any HS.out.rd W (by omega))
        have hul : (unpack (L.take ((t + 7) / 8)) (c * W)).length = c * W := unpack_len _ _
        have hrl := rbits_low _ k c W hul hlt
        have hut : unpack (L.take ((t + 7) / 8)) (c * W) = unpack L (c * W) := by rw [← HT.out]; exact unpack_takeB L (c * W)
        rw [hrl, hut] at HRB
        have hat := lowsOf_at L (W := W) hlt
        have hxb := numL_le (((unpack L (c * W)).drop (k * W)).take W) W (by rw [List.length_take]; omega)
        have h31 : 2 ^ W ≤ 2 ^ 31 := Nat.pow_le_pow_right (by omega) hW
        have h32 : (2 : Nat) ^ 31 = 2147483648 := by decide
        rw [h32] at h31
        obtain ⟨x, hx⟩ : ∃ x, numL (((unpack L (c * W)).drop (k * W)).take W) = x := ⟨_, rfl⟩
        rw [hx] at HRB hat hxb
        have hx31 : x < 2147483648 := by omega
        have HAT := Lib.hid hat
        clear hx hat hut hrl hul hxb h31 h32
        go_wp2_with fail
        refine HRB.out.mono ?_
        rintro er w4 ⟨rfl, hr4, hg4⟩
        have hDlt : D < wr.heap.size := (Array.getElem?_eq_some_iff.1 HS.out.ro).1
        have hro4 := (hg4.block D hDlt (fun e => HS.out.ne.1 (Option.some.inj e).symm)).trans HS.out.ro
        have hfl : (fillB (lowsOf L c W) c k).length = c := fillB_len (lowsOf_len _ _ _) hk
        obtain ⟨u, hu⟩ : ∃ u, (fillB (lowsOf L c W) c k)[k]? = some u := ⟨_, List.getElem?_eq_getElem (by rw [hfl]; exact hlt)⟩
        have hcell : w4.cell? ⟨D, k, none⟩ = some (.int .i64 (u : Int)) := cell_of hro4 (intRow_at (castB_at hu))
        have hfz : w4.frozen? ⟨D, k, none⟩ = false := frozen_of hro4
        have HNX : Hid (LwAt w L (L.take ((t + 7) / 8)) c W gr D vb (k + 1) (w4.setCell ⟨D, k, none⟩ (.int .i64 (x : Int)))) := Lib.hid (by
          have h1 := set_of hro4 (i := k) (.int .i64 (x : Int))
          rw [intRow_set, castB_set, fillB_set (lowsOf_len _ _ _) HAT.out] at h1
          have hb4 : Below w.heap.size w w4 := HS.out.bl.grown hg4 HS.out.bl.size (fun j e => by
            have := Option.some.inj e
            rw [← this]
            exact HS.out.rd.1)
          exact ⟨hb4.setCell (p := ⟨D, k, none⟩) HS.out.ne.2.2 _, hr4.setB HS.out.ne.1 HS.out.ne.2.1, h1, HS.out.ne⟩)
        clear hr4 hg4 hro4 hu hfl hDlt HS HRB
        go_wp2_with fail
        exact ⟨⟨k + 1, by omega, by go_num, HNX⟩, by simp only [Go.RowKit.intOf]; omega⟩
      · obtain rfl : k = c := by omega
        have hlti : ¬ (k : Int) < (k : Int) := by omega
        have hbw := (HS.out.bl.block g HG0.out).trans HBW.out
        have hss := HSS.out.below (HS.out.bl.mono (Nat.le_of_lt (Nat.lt_of_le_of_lt HB0.out HG0.out)))
        have hcg : wr.drew.cell? ⟨g, 0, none⟩ = some (.slice A L.length cap) := cell_of (i := 0) (show wr.drew.heap[g]? = _ from hbw) rfl
        have hfg : wr.drew.frozen? ⟨g, 0, none⟩ = false := frozen_of (show wr.drew.heap[g]? = _ from hbw)
        have hsl := fun W' => slice_fromB A L.length cap ((t + 7) / 8) hts hcap W'
        have HLS := Lib.hid (fun W' => lowSize_any k W hc (by omega) W')
        have hfr := seesB_from hss hts
        obtain ⟨A', n', c', hu⟩ : ∃ A' n' c', sliced A ((t + 7) / 8) L.length cap 1 = .slice A' n' c' := ⟨_, _, _, rfl⟩
        rw [hu] at hfr
        simp only [hu] at hsl
        have hset := RdB.set (w := wr.drew) (L := L) (show wr.drew.heap[g]? = _ from hbw) (hfr.keep fun _ _ => rfl) HB0.out
        have HF : Hid (LowV w g B L k W (.returned (.tuple #[.slice (some ⟨D, 0, none⟩) k k, .bool true])) (wr.drew.setCell ⟨g, 0, none⟩ (.slice A' n' c'))) := Lib.hid (by
          have hro := HS.out.ro
          have hfe : fillB (lowsOf L k W) k k = lowsOf L k W := by
            unfold fillB
            rw [Nat.sub_self, List.replicate_zero, List.append_nil, List.take_of_length_le (by rw [lowsOf_len]; exact Nat.le_refl _)]
          rw [hfe] at hro
          have hDg : D ≠ g := by have := HS.out.ne.2.2; have := HG0.out; omega
          refine .inl ⟨by rw [HT.out]; exact HFIT.out, D, rfl, HS.out.ne.2.2, ?_, by rw [HT.out]; exact hset.1, ?_⟩
          · rw [Below.heap_setCell wr.drew ⟨g, 0, none⟩ _ D hDg]
            exact hro
          · exact (HS.out.bl.drew.mono (Nat.le_of_lt (Nat.lt_of_le_of_lt HB0.out HG0.out))).setCell (p := ⟨g, 0, none⟩) HB0.out _)
        have hte : (k * W + 7) / 8 = (t + 7) / 8 := by rw [HT.out]
        rw [hte] at HLS
        obtain ⟨z, hz⟩ : ∃ z, (t + 7) / 8 = z := ⟨_, rfl⟩
        rw [hz] at HLS hts
        simp only [hz] at hsl
        clear hbw hss hfr hset hu HS hte hz
        go_wp2_with fail
        refine wp_region_any (by kernel_rfl) ?_
        change wpAny _ _ _ _ _ _ _ (World.drew _)
        refine wpAny_take (i := 0) (oi := ?oi1) (v := ?v1) ?hi1 (by kernel_rfl) (by kernel_rfl) (by kernel_rfl) ?hq1 ?hy1 ?hr1
        case hi1 => (simp only [List.getElem?_toArray, List.getElem?_cons_zero]; rfl)
        case hq1 => exact fun _ _ _ h => h
        case hy1 => exact Or.inl ⟨by rfl, by intro w; (first | (go_simp; done) | (go_simp; with_reducible rfl))⟩
        try simp only [Act.put, List.setIfInBounds_toArray, List.set_cons_zero, List.set_cons_succ]
        refine wpAny_take (i := 1) (oi := ?oi2) (v := ?v2) ?hi2 (by kernel_rfl) (by kernel_rfl) (by kernel_rfl) ?hq2 ?hy2 ?hr2
        case hi2 => (simp only [List.getElem?_toArray, List.getElem?_cons_succ, List.getElem?_cons_zero]; rfl)
        case hq2 => exact fun _ _ _ h => h
        case hy2 => exact Or.inl ⟨by rfl, by intro w; (first | (go_simp; done) | (go_simp; with_reducible rfl))⟩
        try simp only [Act.put, List.setIfInBounds_toArray, List.set_cons_zero, List.set_cons_succ]
        refine wpAny_take (i := 2) (oi := ?oi3) (v := ?v3) ?hi3 (by kernel_rfl) (by kernel_rfl) (by kernel_rfl) ?hq3 ?hy3 ?hr3
        case hi3 => (simp only [List.getElem?_toArray, List.getElem?_cons_succ, List.getElem?_cons_zero]; rfl)
        case hq3 => exact fun _ _ _ h => h
        case hy3 => exact Or.inl ⟨by rfl, by intro w; (first | (go_simp; done) | (go_simp; with_reducible rfl))⟩
        try simp only [Act.put, List.setIfInBounds_toArray, List.set_cons_zero, List.set_cons_succ]
        refine wpAny_take (i := 3) (oi := ?oi4) (v := ?v4) ?hi4 (by kernel_rfl) (by kernel_rfl) (by kernel_rfl) ?hq4 ?hy4 ?hr4
        case hi4 => (simp only [List.getElem?_toArray, List.getElem?_cons_succ, List.getElem?_cons_zero]; rfl)
        case hq4 => exact fun _ _ _ h => h
        case hy4 => exact Or.inl ⟨by rfl, by intro w; (first | (go_simp; done) | (go_simp; with_reducible rfl))⟩
        try simp only [Act.put, List.setIfInBounds_toArray, List.set_cons_zero, List.set_cons_succ]
        refine wpAny_take (i := 5) (oi := ?oi5) (v := ?v5) ?hi5 (by kernel_rfl) (by kernel_rfl) (by kernel_rfl) ?hq5 ?hy5 ?hr5
        case hi5 => (simp only [List.getElem?_toArray, List.getElem?_cons_succ, List.getElem?_cons_zero]; rfl)
        case hq5 => exact fun _ _ _ h => h
        case hy5 => exact Or.inl ⟨by rfl, by intro w; (first | (go_simp; done) | (go_simp; with_reducible rfl))⟩
        try simp only [Act.put, List.setIfInBounds_toArray, List.set_cons_zero, List.set_cons_succ]
        refine wpAny_take (i := 6) (oi := ?oi6) (v := ?v6) ?hi6 (by kernel_rfl) (by kernel_rfl) (by kernel_rfl) ?hq6 ?hy6 ?hr6
        case hi6 => (simp only [List.getElem?_toArray, List.getElem?_cons_succ, List.getElem?_cons_zero]; rfl)
        case hq6 => exact fun _ _ _ h => h
        case hy6 => exact Or.inl ⟨by rfl, by intro w; (first | (go_simp; done) | (go_simp; with_reducible rfl))⟩
        try simp only [Act.put, List.setIfInBounds_toArray, List.set_cons_zero, List.set_cons_succ]
        refine wpAny_ready (rs := [4, 7]) (by kernel_rfl) (by simp) ?_
        refine AllReady.cons (o := ?oo7) ?hi7 (fun K hK => ?hs7) ?hm7
        case hi7 => (simp only [List.getElem?_toArray, List.getElem?_cons_succ, List.getElem?_cons_zero]; rfl)
        · go_simp
          refine hK _ _ ?_; clear hK K
          try simp only [Act.put, List.setIfInBounds_toArray, List.set_cons_zero, List.set_cons_succ]
          refine wpAny_ready (rs := [7]) (by kernel_rfl) (by simp) ?_
          refine AllReady.cons (o := ?oo8) ?hi8 (fun K hK => ?hs8) ?hm8
          case hi8 => (simp only [List.getElem?_toArray, List.getElem?_cons_succ, List.getElem?_cons_zero]; rfl)
          · go_simp
            refine (HLS.out _).mono ?_
            rintro e w5 ⟨rfl, rfl⟩
            go_wp2_with fail
            try simp only [Act.put, List.setIfInBounds_toArray, List.set_cons_zero, List.set_cons_succ]
            refine wpAny_take (i := 8) (oi := ?oi9) (v := ?v9) ?hi9 (by kernel_rfl) (by kernel_rfl) (by kernel_rfl) ?hq9 ?hy9 ?hr9
            case hi9 => (simp only [List.getElem?_toArray, List.getElem?_cons_succ, List.getElem?_cons_zero]; rfl)
            case hq9 => exact fun _ _ _ h => h
            case hy9 => exact Or.inl ⟨by rfl, by intro w; (first | (go_simp; done) | (go_simp; with_reducible rfl))⟩
            try simp only [Act.put, List.setIfInBounds_toArray, List.set_cons_zero, List.set_cons_succ]
            refine wpAny_take (i := 9) (oi := ?oi10) (v := ?v10) ?hi10 (by kernel_rfl) (by kernel_rfl) (by kernel_rfl) ?hq10 ?hy10 ?hr10
            case hi10 => (simp only [List.getElem?_toArray, List.getElem?_cons_succ, List.getElem?_cons_zero]; rfl)
            case hq10 => exact fun _ _ _ h => h
            case hy10 => exact Or.inl ⟨by rfl, by intro w; (first | (go_simp; done) | (go_simp; with_reducible rfl))⟩
            try simp only [Act.put, List.setIfInBounds_toArray, List.set_cons_zero, List.set_cons_succ]
            refine wpAny_take (i := 10) (oi := ?oi11) (v := ?v11) ?hi11 (by kernel_rfl) (by kernel_rfl) (by kernel_rfl) ?hq11 ?hy11 ?hr11
            case hi11 => (simp only [List.getElem?_toArray, List.getElem?_cons_succ, List.getElem?_cons_zero]; rfl)
            case hq11 => exact fun _ _ _ h => h
            case hy11 => exact Or.inl ⟨by rfl, by intro w; (first | (go_simp; done) | (go_simp; with_reducible rfl))⟩
            try simp only [Act.put, List.setIfInBounds_toArray, List.set_cons_zero, List.set_cons_succ]
            refine wpAny_ready (rs := [11]) (by kernel_rfl) (by simp) ?_
            refine AllReady.cons (o := ?oo12) ?hi12 (fun K hK => ?hs12) ?hm12
            case hi12 => (simp only [List.getElem?_toArray, List.getElem?_cons_succ, List.getElem?_cons_zero]; rfl)
            · go_simp
              refine hK _ _ ?_; clear hK K
              try simp only [Act.put, List.setIfInBounds_toArray, List.set_cons_zero, List.set_cons_succ]
              refine wpAny_done (by kernel_rfl) ?_ _
              go_wp2_with fail
              go_ret2
              exact HF.out
            exact AllReady.nil
          exact AllReady.nil
        refine AllReady.cons (o := ?oo13) ?hi13 (fun K hK => ?hs13) ?hm13
        case hi13 => (simp only [List.getElem?_toArray, List.getElem?_cons_succ, List.getElem?_cons_zero]; rfl)
        · go_simp
          refine (HLS.out _).mono ?_
          rintro e w5 ⟨rfl, rfl⟩
          go_wp2_with fail
          try simp only [Act.put, List.setIfInBounds_toArray, List.set_cons_zero, List.set_cons_succ]
          refine wpAny_ready (rs := [4]) (by kernel_rfl) (by simp) ?_
          refine AllReady.cons (o := ?oo14) ?hi14 (fun K hK => ?hs14) ?hm14
          case hi14 => (simp only [List.getElem?_toArray, List.getElem?_cons_succ, List.getElem?_cons_zero]; rfl)
          · go_simp
            refine hK _ _ ?_; clear hK K
            try simp only [Act.put, List.setIfInBounds_toArray, List.set_cons_zero, List.set_cons_succ]
            refine wpAny_take (i := 8) (oi := ?oi15) (v := ?v15) ?hi15 (by kernel_rfl) (by kernel_rfl) (by kernel_rfl) ?hq15 ?hy15 ?hr15
            case hi15 => (simp only [List.getElem?_toArray, List.getElem?_cons_succ, List.getElem?_cons_zero]; rfl)
            case hq15 => exact fun _ _ _ h => h
            case hy15 => exact Or.inl ⟨by rfl, by intro w; (first | (go_simp; done) | (go_simp; with_reducible rfl))⟩
            try simp only [Act.put, List.setIfInBounds_toArray, List.set_cons_zero, List.set_cons_succ]
            refine wpAny_take (i := 9) (oi := ?oi16) (v := ?v16) ?hi16 (by kernel_rfl) (by kernel_rfl) (by kernel_rfl) ?hq16 ?hy16 ?hr16
            case hi16 => (simp only [List.getElem?_toArray, List.getElem?_cons_succ, List.getElem?_cons_zero]; rfl)
            case hq16 => exact fun _ _ _ h => h
            case hy16 => exact Or.inl ⟨by rfl, by intro w; (first | (go_simp; done) | (go_simp; with_reducible rfl))⟩
            try simp only [Act.put, List.setIfInBounds_toArray, List.set_cons_zero, List.set_cons_succ]
            refine wpAny_take (i := 10) (oi := ?oi17) (v := ?v17) ?hi17 (by kernel_rfl) (by kernel_rfl) (by kernel_rfl) ?hq17 ?hy17 ?hr17
            case hi17 => (simp only [List.getElem?_toArray, List.getElem?_cons_succ, List.getElem?_cons_zero]; rfl)
            case hq17 => exact fun _ _ _ h => h
            case hy17 => exact Or.inl ⟨by rfl, by intro w; (first | (go_simp; done) | (go_simp; with_reducible rfl))⟩
            try simp only [Act.put, List.setIfInBounds_toArray, List.set_cons_zero, List.set_cons_succ]
            refine wpAny_ready (rs := [11]) (by kernel_rfl) (by simp) ?_
            refine AllReady.cons (o := ?oo18) ?hi18 (fun K hK => ?hs18) ?hm18
            case hi18 => (simp only [List.getElem?_toArray, List.getElem?_cons_succ, List.getElem?_cons_zero]; rfl)
            · go_simp
              refine hK _ _ ?_; clear hK K
              try simp only [Act.put, List.setIfInBounds_toArray, List.set_cons_zero, List.set_cons_succ]
              refine wpAny_done (by kernel_rfl) ?_ _
              go_wp2_with fail
              go_ret2
              exact HF.out
            exact AllReady.nil
          exact AllReady.nil
        exact AllReady.nil
  · have HNR := Lib.hid (newReader_out hsw (by omega) (t : Int) (.inr (by omega)))
    have HF : Hid (LowV w g B L c W (.returned (.tuple #[.slice none 0 0, .bool false])) w) := Lib.hid (.inr ⟨by rw [ht]; exact hfit, rfl, rfl⟩)
    clear hb hs hsw ht hfit
    go_enter Tryd.func48, Tryd.ntmps48
    go_wp2_with fail
    refine HNR.out.mono ?_
    rintro e w' ⟨rfl, rfl⟩
    go_wp2_with fail
    go_ret2
    exact HF.out
end Go.Proofs.YteennnhinfnahaaDoor
namespace Go.Proofs.YteennnhinfnahaaDoor
open Go.RowKit Go.Shelf Go.Lib
set_option linter.unusedVariables false
set_option linter.unusedSimpArgs false

theorem bits_or_i64_nat (a b : Nat) (ha : a < 9223372036854775808) (hb : b < 9223372036854775808) : bits .or .i64 (a : Int) (b : Int) = ((a ||| b : Nat) : Int) := by
  have hx : a ||| b < 2 ^ 63 := Nat.or_lt_two_pow (by omega) (by omega)
  have h1 : (BitVec.ofInt 64 (a : Int)).toNat = a := by
    rw [BitVec.ofInt_natCast, BitVec.toNat_ofNat]; exact Nat.mod_eq_of_lt (by omega)
  have h2 : (BitVec.ofInt 64 (b : Int)).toNat = b := by
    rw [BitVec.ofInt_natCast, BitVec.toNat_ofNat]; exact Nat.mod_eq_of_lt (by omega)
  show IntKind.i64.wrap ((BitVec.ofInt 64 (a : Int) ||| BitVec.ofInt 64 (b : Int)).toNat : Int) = _
  rw [BitVec.toNat_or, h1, h2, IntKind.wrap_i64]
  omega
theorem bytesB_beq (L L' : List UInt8) : ((⟨L.toArray⟩ : ByteArray).toList == (⟨L'.toArray⟩ : ByteArray).toList) = decide (L = L') := by
  rw [Lib.toList_data, Lib.toList_data, Bool.eq_iff_iff]
  simp
theorem equalB_any {w : World} {B B' : Nat} {v v' : Value} {L L' : List UInt8} (h : Sees w B v L) (h' : Sees w B' v' L') :
    Calls Tryd.prog 49 #[v, v'] w fun e w' => e = .returned (.bool (decide (L = L'))) ∧ w = w' := by
  have c1 := h.convert
  have c2 := h'.convert
  have e3 := bytesB_beq L L'
  obtain ⟨x, hx⟩ : ∃ x, (⟨L.toArray⟩ : ByteArray) = x := ⟨_, rfl⟩
  obtain ⟨y, hy⟩ : ∃ y, (⟨L'.toArray⟩ : ByteArray) = y := ⟨_, rfl⟩
  rw [hx] at c1 e3
  rw [hy] at c2 e3
  have H := Lib.hid e3
  clear e3 hx hy h h'
  go_enter Tryd.func49, Tryd.ntmps49
  go_wp2
  go_ret
  rw [H.out]
  exact ⟨rfl, rfl⟩
/-- What Unpack answers. -/
def UnpV (w : World) (o : Option (List Nat)) (e : Ending) (w' : World) : Prop :=
  Below w.heap.size w w' ∧ ((∃ vs, o = some vs ∧ ok31 vs ∧ ∃ v, e = .returned (.tuple #[v, .int .i64 0]) ∧ Rows 1 EInt w' v (castB vs)) ∨ (o = none ∧ e = .returned (.tuple #[.slice none 0 0, .int .i64 9])))
theorem rdnum_of {w : World} {g B : Nat} {L M : List UInt8} {x n er : Nat} (h : RdB w g B L) (hL : L.length ≤ 12500) (lo hi : Nat) (hlo : lo ≤ 2147483647) (hhi : hi ≤ 2147483647) (ht : tk L 0 0 = (x, n, er)) (hM : L.drop n = M) :
    Calls Tryd.prog 47 #[.pointer (some ⟨g, 0, none⟩), .int .i64 lo, .int .i64 hi] w fun e w' =>
      ((er = 0 ∧ lo ≤ x ∧ x ≤ hi) ∧ e = .returned (.tuple #[.int .i64 (x : Nat), .bool true]) ∧ RdB w' g B M ∧ w.grownBy w' (some g)) ∨ (¬ (er = 0 ∧ lo ≤ x ∧ x ≤ hi) ∧ e = .returned (.tuple #[.int .i64 0, .bool false]) ∧ w' = w) := by
  refine (rdnum_any h hL lo hi hlo hhi).mono ?_
  intro e w' hh
  have hok : okN L lo hi ↔ er = 0 ∧ lo ≤ x ∧ x ≤ hi := by unfold okN; rw [ht]
  unfold NumV at hh
  rw [hok, ht] at hh
  simp only [hM] at hh
  exact hh
theorem lowsOf_lt (L : List UInt8) {c W : Nat} (hW : W ≤ 31) : ∀ v ∈ lowsOf L c W, v < 2147483648 := fun v hv => by
  unfold lowsOf at hv
  obtain ⟨i, _, rfl⟩ := List.mem_map.1 hv
  have h1 := numL_le (((unpack L (c * W)).drop (i * W)).take W) W (by rw [List.length_take]; omega)
  have h2 : 2 ^ W ≤ 2 ^ 31 := Nat.pow_le_pow_right (by omega) hW
  have h3 : (2 : Nat) ^ 31 = 2147483648 := by decide
  omega
theorem set_lt {vals : List Nat} {p r : Nat} (h : ∀ v ∈ vals, v < 2147483648) (hr : r < 2147483648) : ∀ v ∈ vals.set p r, v < 2147483648 := fun v hv => by
  rcases List.mem_or_eq_of_mem_set hv with h1 | h1
  · exact h v h1
  · rw [h1]; exact hr
theorem okN_zero {L : List UInt8} {c n e hi : Nat} (h : tk L 0 0 = (c, n, e)) : okN L 0 hi ↔ e = 0 ∧ c ≤ hi := by
  unfold okN
  rw [h]
  exact ⟨fun h => ⟨h.1, h.2.2⟩, fun h => ⟨h.1, Nat.zero_le _, h.2⟩⟩
theorem prs1_eq {L L1 L2 L3 : List UInt8} {c n1 e1 W n2 e2 E n3 e3 : Nat} (h1 : tk L 0 0 = (c, n1, e1)) (hL1 : L.drop n1 = L1) (h2 : tk L1 0 0 = (W, n2, e2)) (hL2 : L1.drop n2 = L2) (h3 : tk L2 0 0 = (E, n3, e3)) (hL3 : L2.drop n3 = L3) :
    prs1 L = if e1 = 0 ∧ c ≤ 128 then if e2 = 0 ∧ W ≤ 31 then if e3 = 0 ∧ E ≤ c then if c * W ≤ 8 * L3.length then exG (og1 c) (oh1 W) W E 0 (lowsOf L3 c W) (L3.drop ((c * W + 7) / 8)) else none else none else none else none := by
  subst hL1 hL2 hL3
  unfold prs1 prsG
  rw [h1]
  simp only
  rw [h2]
  simp only
  rw [h3]
  rfl
theorem exG_step {og : Nat → Nat → Bool} {oh : Nat → Bool} {W k a : Nat} {vals : List Nat} {L L1 L2 : List UInt8} {x n e y m f : Nat} (h1 : tk L 0 0 = (x, n, e)) (hL1 : L.drop n = L1) (h2 : tk L1 0 0 = (y, m, f)) (hL2 : L1.drop m = L2) :
    exG og oh W (k + 1) a vals L = if e = 0 ∧ og a x = true then if f = 0 ∧ oh y = true then exG og oh W k (a + x) (vals.set (a + x - 1) (vals.getD (a + x - 1) 0 ||| y * 2 ^ W)) L2 else none else none := by
  subst hL1 hL2
  rw [exG, h1]
  simp only
  rw [h2]
theorem RdB.below {w w' : World} {g B N : Nat} {L : List UInt8} (h : RdB w g B L) (hb : Below N w w') (hg : g < N) : RdB w' g B L := by
  obtain ⟨v, h1, h2, h3⟩ := h
  exact ⟨v, (hb.block g hg).trans h1, h2.below (hb.mono (Nat.le_of_lt (Nat.lt_of_le_of_lt h3 hg))), h3⟩
theorem RdB.other {w w' : World} {g B : Nat} {L : List UInt8} (h : RdB w g B L) (hb : Below B w w') (hk : w'.heap[g]? = w.heap[g]?) : RdB w' g B L := by
  obtain ⟨v, h1, h2, h3⟩ := h
  exact ⟨v, hk.trans h1, h2.below hb, h3⟩
theorem grown_B {w w' : World} {g B : Nat} {a : World} (h : Below B a w) (hg : w.grownBy w' (some g)) (hB : B ≤ g) (hz : B ≤ w.heap.size) : Below B a w' :=
  h.grown hg hz (fun k e => by cases e; exact hB)
/-- Between two exceptions of Unpack. -/
structure UnAt (w : World) (g D : Nat) (R : Option (List Nat)) (c W E : Nat) (k a : Nat) (vals : List Nat) (L : List UInt8) (wr : World) : Prop where
  bl : Below w.heap.size w wr
  rd : RdB wr g w.heap.size L
  ln : L.length ≤ 12500
  ro : wr.heap[D]? = some (.cells (intRow (castB vals)) 3 (0, 0))
  vl : vals.length = c
  vb : ∀ v ∈ vals, v < 2147483648
  al : a ≤ c
  e : exG (og1 c) (oh1 W) W (E - k) a vals L = R
/-- Where the way goes that leads to ErrCorrupt. -/
def JmpAt (w : World) (R : Option (List Nat)) (a : Act) (wr : World) : Prop :=
  Hid (Below w.heap.size w wr ∧ R = none) ∧ ∃ u0 u1 u2 u3 u4 u5 u6 u7 u8 u9 u10 u11 u12 u13 u14 u15 u16 u17 u18 u19 u20 u21 u22 u23 u24 u25 u26 u27 u28 u29 u30 u31 u32 u33 u34 u35 u36 u37 u38 u39 u40 u41 u42 u43 u44 u45 u46 u47 u48 u49 u50 u51 u52 u53 u54 u55 u56 u57 u58 u59 u60 u61 u62 u63 u64 u65 u66 u67 u68 u69 u70 u71 u72 u73 u74 u75 u76 u77 u78 u79 u80 u81 u82 u83 u84 u85 u86 u87 u88 u89 u90 u91 : Value, a = { tmps := #[u0, u1, u2, u3, u4, u5, u6, u7, u8, u9, u10, u11, u12, u13, u14, u15, u16, u17, u18, u19, u20, u21, u22, u23, u24, u25, u26, u27, u28, u29, u30, u31, u32, u33, u34, u35, u36, u37, u38, u39, u40, u41, u42, u43, u44, u45, u46, u47, u48, u49, u50, u51, u52, u53, u54, u55, u56, u57, u58, u59, u60, u61, u62, u63, u64, u65, u66, u67, u68, u69, u70, u71, u72, u73, u74, u75, u76, u77, u78, u79, u80, u81, u82, u83, u84, u85, u86, u87, u88, u89, u90, u91], defers := [] }
theorem jmp_at {w : World} {R : Option (List Nat)} {wr : World} (h : Hid (Below w.heap.size w wr ∧ R = none)) {u0 u1 u2 u3 u4 u5 u6 u7 u8 u9 u10 u11 u12 u13 u14 u15 u16 u17 u18 u19 u20 u21 u22 u23 u24 u25 u26 u27 u28 u29 u30 u31 u32 u33 u34 u35 u36 u37 u38 u39 u40 u41 u42 u43 u44 u45 u46 u47 u48 u49 u50 u51 u52 u53 u54 u55 u56 u57 u58 u59 u60 u61 u62 u63 u64 u65 u66 u67 u68 u69 u70 u71 u72 u73 u74 u75 u76 u77 u78 u79 u80 u81 u82 u83 u84 u85 u86 u87 u88 u89 u90 u91 : Value} : JmpAt w R { tmps := #[u0, u1, u2, u3, u4, u5, u6, u7, u8, u9, u10, u11, u12, u13, u14, u15, u16, u17, u18, u19, u20, u21, u22, u23, u24, u25, u26, u27, u28, u29, u30, u31, u32, u33, u34, u35, u36, u37, u38, u39, u40, u41, u42, u43, u44, u45, u46, u47, u48, u49, u50, u51, u52, u53, u54, u55, u56, u57, u58, u59, u60, u61, u62, u63, u64, u65, u66, u67, u68, u69, u70, u71, u72, u73, u74, u75, u76, u77, u78, u79, u80, u81, u82, u83, u84, u85, u86, u87, u88, u89, u90, u91], defers := [] } wr :=
  ⟨h, _, _, _, _, _, _, _, _, _, _, _, _, _, _, _, _, _, _, _, _, _, _, _, _, _, _, _, _, _, _, _, _, _, _, _, _, _, _, _, _, _, _, _, _, _, _, _, _, _, _, _, _, _, _, _, _, _, _, _, _, _, _, _, _, _, _, _, _, _, _, _, _, _, _, _, _, _, _, _, _, _, _, _, _, _, _, _, _, _, _, _, _, rfl⟩
set_option maxRecDepth 100000 in
set_option maxHeartbeats 8000000 in
theorem unpackB_any {w : World} {v : Value} {L : List UInt8} (hs : Sees w w.heap.size v L) (hL : L.length ≤ 12500) :
    Calls Tryd.prog 29 #[v] w (UnpV w (unpB (prs1 L) L)) := by
  obtain ⟨A, cap, rfl, hcap, -⟩ := hs.form2
  obtain ⟨c, n1, e1, h1⟩ : ∃ c n e, tk L 0 0 = (c, n, e) := ⟨_, _, _, rfl⟩
  obtain ⟨L1, hL1⟩ : ∃ M, L.drop n1 = M := ⟨_, rfl⟩
  obtain ⟨W, n2, e2, h2⟩ : ∃ c n e, tk L1 0 0 = (c, n, e) := ⟨_, _, _, rfl⟩
  obtain ⟨L2, hL2⟩ : ∃ M, L1.drop n2 = M := ⟨_, rfl⟩
  obtain ⟨E, n3, e3, h3⟩ : ∃ c n e, tk L2 0 0 = (c, n, e) := ⟨_, _, _, rfl⟩
  obtain ⟨L3, hL3⟩ : ∃ M, L2.drop n3 = M := ⟨_, rfl⟩
  have hprs := prs1_eq h1 hL1 h2 hL2 h3 hL3
  obtain ⟨R, hR⟩ : ∃ R, prs1 L = R := ⟨_, rfl⟩
  rw [hR] at hprs ⊢
  have hl1 : L1.length ≤ 12500 := by rw [← hL1, List.length_drop]; omega
  have hl2 : L2.length ≤ 12500 := by rw [← hL2, List.length_drop]; omega
  have hl3 : L3.length ≤ 12500 := by rw [← hL3, List.length_drop]; omega
  have HBAD : Hid (∀ wr, Below w.heap.size w wr → R = none → UnpV w (unpB R L) (.returned (.tuple #[.slice none 0 0, .int .i64 9])) wr) := Lib.hid (fun wr hb h => ⟨hb, .inr ⟨by rw [h]; rfl, rfl⟩⟩)
  have hrd : RdB (w.alloc (.cells #[.slice A L.length cap] 86)) w.heap.size w.heap.size L := ⟨_, block_new w _, hs.below (below_box w _), Nat.le_refl _⟩
  have hb1 := below_box w (.cells #[.slice A L.length cap] 86)
  have hsz1 : (w.alloc (.cells #[.slice A L.length cap] 86)).heap.size = w.heap.size + 1 := alloc_sz _ _
  obtain ⟨w1, hw1⟩ : ∃ X, w.alloc (.cells #[.slice A L.length cap] 86) = X := ⟨_, rfl⟩
  rw [hw1] at hrd hb1 hsz1
  have HN1 := Lib.hid (rdnum_of hrd hL 0 128 (by omega) (by omega) h1 hL1)
  have HN2 := Lib.hid (fun (W' : World) (h : RdB W' w.heap.size w.heap.size L1) => rdnum_of h hl1 0 31 (by omega) (by omega) h2 hL2)
  have HN3 := Lib.hid (fun (W' : World) (h : RdB W' w.heap.size w.heap.size L2) (hc : c ≤ 128) => rdnum_of h hl2 0 c (by omega) (by omega) h3 hL3)
  have HLW := Lib.hid (fun (W' : World) (h : RdB W' w.heap.size w.heap.size L3) (hg : w.heap.size < W'.heap.size) (hc : c ≤ 128) (hW : W ≤ 31) => low_anyB h hg hl3 c W hc hW)
  have HP := Lib.hid hprs
  have HS := Lib.hid hs
  have HL := Lib.hid hL
  have HL3 := Lib.hid hl3
  have HB1 := Lib.hid hb1
  have HSZ1 := Lib.hid (show w.heap.size < w1.heap.size by omega)
  clear hs hprs hR hrd hb1 h1 h2 h3 hL hsz1 hl1 hl2 hl3 hL1 hL2 hL3
  go_enter Tryd.func29, Tryd.ntmps29
  go_wp2_with fail
  refine wp_scope_jumps 0 (JmpAt w R) (fun _ _ => 0) rfl ?_ ?_
  · go_wp2_with fail
    refine HN1.out.mono ?_
    rintro e w2 (⟨⟨rfl, -, hc128⟩, rfl, hrd2, hg2⟩ | ⟨hno, rfl, hww⟩)
    · have HB2 := Lib.hid (grown_B HB1.out hg2 (Nat.le_refl _) (Nat.le_of_lt HSZ1.out))
      have HSZ2 := Lib.hid (Nat.lt_of_lt_of_le HSZ1.out hg2.size)
      have HN2' := Lib.hid (HN2.out w2 hrd2)
      clear hrd2 hg2 HN1 HN2 HB1 HSZ1 hw1
      go_wp2_with fail
      refine HN2'.out.mono ?_
      rintro e w3 (⟨⟨rfl, -, hW31⟩, rfl, hrd3, hg3⟩ | ⟨hno, rfl, hww⟩)
      · have HB3 := Lib.hid (grown_B HB2.out hg3 (Nat.le_refl _) (Nat.le_of_lt HSZ2.out))
        have HSZ3 := Lib.hid (Nat.lt_of_lt_of_le HSZ2.out hg3.size)
        have HN3' := Lib.hid (HN3.out w3 hrd3 hc128)
        clear hrd3 hg3 HN2' HN3 HB2 HSZ2
        go_wp2_with fail
        refine HN3'.out.mono ?_
        rintro e w4 (⟨⟨rfl, -, hEc⟩, rfl, hrd4, hg4⟩ | ⟨hno, rfl, hww⟩)
        · have HB4 := Lib.hid (grown_B HB3.out hg4 (Nat.le_refl _) (Nat.le_of_lt HSZ3.out))
          have HSZ4 := Lib.hid (Nat.lt_of_lt_of_le HSZ3.out hg4.size)
          have HLW' := Lib.hid (HLW.out w4 hrd4 HSZ4.out hc128 hW31)
          clear hrd4 hg4 HN3' HLW HB3 HSZ3
          go_wp2_with fail
          refine HLW'.out.mono ?_
          rintro e w5 (⟨hfit, D, rfl, hD, hro, hrd5, hb5⟩ | ⟨hno, rfl, hww⟩)
          · have hRR := HP.out
            rw [if_pos ⟨by trivial, hc128⟩, if_pos ⟨by trivial, hW31⟩, if_pos ⟨by trivial, hEc⟩, if_pos hfit] at hRR
            have HDW := Lib.hid (show w.heap.size < D from Nat.lt_of_lt_of_le HSZ4.out hD)
            have HST0 : Hid (UnAt w w.heap.size D R c W E 0 0 (lowsOf L3 c W) (L3.drop ((c * W + 7) / 8)) w5) := Lib.hid ⟨HB4.out.trans hb5, hrd5, by rw [List.length_drop]; have := HL3.out; omega, hro, lowsOf_len _ _ _, lowsOf_lt _ hW31, Nat.zero_le _, hRR.symm⟩
            clear hfit hD hro hrd5 hb5 hRR HLW' HB4 HSZ4 HP
            go_wp2_with fail
            go_loopw [10, 46] (fun av iv wr => ∃ (k a : Nat) (vals : List Nat) (Lr : List UInt8), k ≤ E ∧ av = .int .i64 ((a : Int) - 1) ∧ iv = .int .i64 k ∧ Hid (UnAt w w.heap.size D R c W E k a vals Lr wr)) (fun _ iv _ => E - (Go.RowKit.intOf iv).toNat)
            case atStart => exact ⟨0, 0, _, _, Nat.zero_le _, rfl, rfl, HST0⟩
            case round =>
              clear HST0
              obtain ⟨k, a, vals, Lr, hk, rfl, rfl, HST⟩ := hrel
              have hac := HST.out.al
              by_cases hlt : k < E
              · have hlti : (k : Int) < (E : Int) := by omega
                obtain ⟨x, n, e, ht1⟩ : ∃ c n e, tk Lr 0 0 = (c, n, e) := ⟨_, _, _, rfl⟩
                obtain ⟨Lr1, hLr1⟩ : ∃ M, Lr.drop n = M := ⟨_, rfl⟩
                obtain ⟨y, m, f, ht2⟩ : ∃ c n e, tk Lr1 0 0 = (c, n, e) := ⟨_, _, _, rfl⟩
                obtain ⟨Lr2, hLr2⟩ : ∃ M, Lr1.drop m = M := ⟨_, rfl⟩
                have hst := exG_step (og := og1 c) (oh := oh1 W) (W := W) (k := E - (k + 1)) (a := a) (vals := vals) ht1 hLr1 ht2 hLr2
                rw [show E - (k + 1) + 1 = E - k by omega, HST.out.e] at hst
                have hln1 : Lr1.length ≤ 12500 := by rw [← hLr1, List.length_drop]; have := HST.out.ln; omega
                have hln2 : Lr2.length ≤ 12500 := by rw [← hLr2, List.length_drop]; omega
                obtain ⟨d, hd⟩ : ∃ d, c - a = d := ⟨_, rfl⟩
                have m1 : (c : Int) - 1 - ((a : Int) - 1) = (d : Int) := by omega
                obtain ⟨G, hG⟩ : ∃ G, 2147483647 / 2 ^ W = G := ⟨_, rfl⟩
                have hGi : (2147483647 : Int) / 2 ^ W = (G : Int) := by rw [← hG]; simp
                have hG31 : G ≤ 2147483647 := by rw [← hG]; exact Nat.div_le_self _ _
                have HNA := Lib.hid (rdnum_of HST.out.rd HST.out.ln 1 d (by omega) (by omega) ht1 hLr1)
                have HNB := Lib.hid (fun (W' : World) (h : RdB W' w.heap.size w.heap.size Lr1) => rdnum_of h hln1 1 G (by omega) hG31 ht2 hLr2)
                have HSTP := Lib.hid hst
                have HLN2 := Lib.hid hln2
                have HGG := Lib.hid hG
                clear hst ht1 ht2 hLr1 hLr2 hln1 hln2 hG
                go_wp2_with fail
                refine HNA.out.mono ?_
                rintro er w6 (⟨⟨rfl, hx1, hxd⟩, rfl, hrd6, hg6⟩ | ⟨hno, rfl, hww⟩)
                · have hog : og1 c a x = true := decide_eq_true ⟨hx1, by omega⟩
                  have hszr : w.heap.size < wr.heap.size := by
                    obtain ⟨v0, hb0, _⟩ := HST.out.rd
                    exact (Array.getElem?_eq_some_iff.1 hb0).1
                  have HB6 := Lib.hid (grown_B HST.out.bl hg6 (Nat.le_refl _) (Nat.le_of_lt hszr))
                  have hDr : D < wr.heap.size := (Array.getElem?_eq_some_iff.1 HST.out.ro).1
                  have hDne : D ≠ w.heap.size := Nat.ne_of_gt HDW.out
                  have HRO6 := Lib.hid ((hg6.block D hDr (fun e => hDne (Option.some.inj e))).trans HST.out.ro)
                  have HSZ6 := Lib.hid (Nat.lt_of_lt_of_le hszr hg6.size)
                  have HNB' := Lib.hid (HNB.out w6 hrd6)
                  have HVL := Lib.hid HST.out.vl
                  have HVB := Lib.hid HST.out.vb
                  clear hrd6 hg6 hszr hDr hDne HNA HNB HST
                  go_wp2_with fail
                  refine HNB'.out.mono ?_
                  rintro er w7 (⟨⟨rfl, hy1, hyG⟩, rfl, hrd7, hg7⟩ | ⟨hno, rfl, hww⟩)
                  · have hoh : oh1 W y = true := decide_eq_true ⟨hy1, by rw [HGG.out]; exact hyG⟩
                    have hst := HSTP.out
                    rw [if_pos ⟨by trivial, hog⟩, if_pos ⟨by trivial, hoh⟩] at hst
                    obtain ⟨p, hp⟩ : ∃ p, a + x - 1 = p := ⟨_, rfl⟩
                    rw [hp] at hst
                    have hpc : p < c := by omega
                    have m2 : (a : Int) - 1 + (x : Int) = (p : Int) := by omega
                    obtain ⟨z, hz⟩ : ∃ z, y * 2 ^ W = z := ⟨_, rfl⟩
                    have hzb : z ≤ 2147483647 := by
                      rw [← hz]
                      have h1 : y * 2 ^ W ≤ G * 2 ^ W := Nat.mul_le_mul_right _ hyG
                      have h2 : G * 2 ^ W ≤ 2147483647 := by rw [← HGG.out]; exact Nat.div_mul_le_self _ _
                      omega
                    have m3 : (y : Int) * 2 ^ W = (z : Int) := by rw [← hz]; simp
                    obtain ⟨u, hu⟩ : ∃ u, vals[p]? = some u := ⟨_, List.getElem?_eq_getElem (by rw [HVL.out]; exact hpc)⟩
                    have hub := HVB.out u (List.mem_of_getElem? hu)
                    have hgd : vals.getD p 0 = u := by rw [List.getD_eq_getElem?_getD, hu]; rfl
                    rw [hgd, hz] at hst
                    have hor := bits_or_i64_nat u z (by omega) (by omega)
                    have hrb : u ||| z < 2147483648 := Nat.or_lt_two_pow (n := 31) (by omega) (by omega)
                    obtain ⟨r, hr⟩ : ∃ r, u ||| z = r := ⟨_, rfl⟩
                    rw [hr] at hor hst hrb
                    have hD7 : D < w6.heap.size := (Array.getElem?_eq_some_iff.1 HRO6.out).1
                    have hDne : D ≠ w.heap.size := Nat.ne_of_gt HDW.out
                    have hro7 := (hg7.block D hD7 (fun e => hDne (Option.some.inj e))).trans HRO6.out
                    have hb7 := grown_B HB6.out hg7 (Nat.le_refl _) (Nat.le_of_lt HSZ6.out)
                    have hcell : w7.drew.cell? ⟨D, p, none⟩ = some (.int .i64 (u : Int)) := cell_of (show w7.drew.heap[D]? = _ from hro7) (intRow_at (castB_at hu))
                    have hfz : w7.drew.frozen? ⟨D, p, none⟩ = false := frozen_of (show w7.drew.heap[D]? = _ from hro7)
                    have HNX : Hid (UnAt w w.heap.size D R c W E (k + 1) (a + x) (vals.set p r) Lr2 (w7.drew.setCell ⟨D, p, none⟩ (.int .i64 (r : Int)))) := Lib.hid (by
                      have h1 := set_of (show w7.drew.heap[D]? = _ from hro7) (i := p) (.int .i64 (r : Int))
                      rw [intRow_set, castB_set] at h1
                      have hrd7' : RdB w7.drew w.heap.size w.heap.size Lr2 := by
                        obtain ⟨v0, q1, q2, q3⟩ := hrd7
                        exact ⟨v0, q1, q2.keep fun _ _ => rfl, q3⟩
                      refine ⟨hb7.drew.setCell (p := ⟨D, p, none⟩) (Nat.le_of_lt HDW.out) _, hrd7'.other ((Below.refl _ _).setCell (p := ⟨D, p, none⟩) (Nat.le_of_lt HDW.out) _) (Below.heap_setCell w7.drew ⟨D, p, none⟩ _ _ hDne.symm), HLN2.out, h1, by rw [List.length_set]; exact HVL.out, set_lt HVB.out hrb, by omega, hst.symm⟩)
                    have hnxt : (Value.int .i64 (p : Int)) = .int .i64 (((a + x : Nat) : Int) - 1) := congrArg (Value.int .i64) (by omega)
                    have HNT := Lib.hid hnxt
                    clear hoh hog hst hp hz hu hgd hr hD7 hDne hro7 hb7 hrd7 hg7 HVL HVB HNB' HB6 HSZ6 HRO6 hnxt HSTP
                    go_wp2_with fail
                    refine wp_region_any (by kernel_rfl) ?_
                    change wpAny _ _ _ _ _ _ _ (World.drew _)
                    refine wpAny_take (i := 0) (oi := ?oi1) (v := ?v1) ?hi1 (by kernel_rfl) (by kernel_rfl) (by kernel_rfl) ?hq1 ?hy1 ?hr1
                    case hi1 => (simp only [List.getElem?_toArray, List.getElem?_cons_zero]; rfl)
                    case hq1 => exact fun _ _ _ h => h
                    case hy1 => exact Or.inl ⟨by rfl, by intro w; (first | (go_simp; done) | (go_simp; with_reducible rfl))⟩
                    try simp only [Act.put, List.setIfInBounds_toArray, List.set_cons_zero, List.set_cons_succ]
                    refine wpAny_take (i := 1) (oi := ?oi2) (v := ?v2) ?hi2 (by kernel_rfl) (by kernel_rfl) (by kernel_rfl) ?hq2 ?hy2 ?hr2
                    case hi2 => (simp only [List.getElem?_toArray, List.getElem?_cons_succ, List.getElem?_cons_zero]; rfl)
                    case hq2 => exact fun _ _ _ h => h
                    case hy2 => exact Or.inl ⟨by rfl, by intro w; (first | (go_simp; done) | (go_simp; with_reducible rfl))⟩
                    try simp only [Act.put, List.setIfInBounds_toArray, List.set_cons_zero, List.set_cons_succ]
                    refine wpAny_take (i := 2) (oi := ?oi3) (v := ?v3) ?hi3 (by kernel_rfl) (by kernel_rfl) (by kernel_rfl) ?hq3 ?hy3 ?hr3
                    case hi3 => (simp only [List.getElem?_toArray, List.getElem?_cons_succ, List.getElem?_cons_zero]; rfl)
                    case hq3 => exact fun _ _ _ h => h
                    case hy3 => exact Or.inl ⟨by rfl, by intro w; (first | (go_simp; done) | (go_simp; with_reducible rfl))⟩
                    try simp only [Act.put, List.setIfInBounds_toArray, List.set_cons_zero, List.set_cons_succ]
                    refine wpAny_take (i := 4) (oi := ?oi4) (v := ?v4) ?hi4 (by kernel_rfl) (by kernel_rfl) (by kernel_rfl) ?hq4 ?hy4 ?hr4
                    case hi4 => (simp only [List.getElem?_toArray, List.getElem?_cons_succ, List.getElem?_cons_zero]; rfl)
                    case hq4 => exact fun _ _ _ h => h
                    case hy4 => exact Or.inl ⟨by rfl, by intro w; (first | (go_simp; done) | (go_simp; with_reducible rfl))⟩
                    try simp only [Act.put, List.setIfInBounds_toArray, List.set_cons_zero, List.set_cons_succ]
                    refine wpAny_take (i := 5) (oi := ?oi5) (v := ?v5) ?hi5 (by kernel_rfl) (by kernel_rfl) (by kernel_rfl) ?hq5 ?hy5 ?hr5
                    case hi5 => (simp only [List.getElem?_toArray, List.getElem?_cons_succ, List.getElem?_cons_zero]; rfl)
                    case hq5 => exact fun _ _ _ h => h
                    case hy5 => exact Or.inl ⟨by rfl, by intro w; (first | (go_simp; done) | (go_simp; with_reducible rfl))⟩
                    try simp only [Act.put, List.setIfInBounds_toArray, List.set_cons_zero, List.set_cons_succ]
                    refine wpAny_take (i := 6) (oi := ?oi6) (v := ?v6) ?hi6 (by kernel_rfl) (by kernel_rfl) (by kernel_rfl) ?hq6 ?hy6 ?hr6
                    case hi6 => (simp only [List.getElem?_toArray, List.getElem?_cons_succ, List.getElem?_cons_zero]; rfl)
                    case hq6 => exact fun _ _ _ h => h
                    case hy6 => exact Or.inl ⟨by rfl, by intro w; (first | (go_simp; done) | (go_simp; with_reducible rfl))⟩
                    try simp only [Act.put, List.setIfInBounds_toArray, List.set_cons_zero, List.set_cons_succ]
                    refine wpAny_ready (rs := [3]) (by kernel_rfl) (by simp) ?_
                    refine AllReady.cons (o := ?oo7) ?hi7 (fun K hK => ?hs7) ?hm7
                    case hi7 => (simp only [List.getElem?_toArray, List.getElem?_cons_succ, List.getElem?_cons_zero]; rfl)
                    · go_simp
                      refine hK _ _ ?_; clear hK K
                      try simp only [Act.put, List.setIfInBounds_toArray, List.set_cons_zero, List.set_cons_succ]
                      refine wpAny_take (i := 7) (oi := ?oi8) (v := ?v8) ?hi8 (by kernel_rfl) (by kernel_rfl) (by kernel_rfl) ?hq8 ?hy8 ?hr8
                      case hi8 => (simp only [List.getElem?_toArray, List.getElem?_cons_succ, List.getElem?_cons_zero]; rfl)
                      case hq8 => exact fun _ _ _ h => h
                      case hy8 => exact Or.inl ⟨by rfl, by intro w; (first | (go_simp; done) | (go_simp; with_reducible rfl))⟩
                      try simp only [Act.put, List.setIfInBounds_toArray, List.set_cons_zero, List.set_cons_succ]
                      refine wpAny_take (i := 8) (oi := ?oi9) (v := ?v9) ?hi9 (by kernel_rfl) (by kernel_rfl) (by kernel_rfl) ?hq9 ?hy9 ?hr9
                      case hi9 => (simp only [List.getElem?_toArray, List.getElem?_cons_succ, List.getElem?_cons_zero]; rfl)
                      case hq9 => exact fun _ _ _ h => h
                      case hy9 => exact Or.inl ⟨by rfl, by intro w; (first | (go_simp; done) | (go_simp; with_reducible rfl))⟩
                      try simp only [Act.put, List.setIfInBounds_toArray, List.set_cons_zero, List.set_cons_succ]
                      refine wpAny_ready (rs := [9]) (by kernel_rfl) (by simp) ?_
                      refine AllReady.cons (o := ?oo10) ?hi10 (fun K hK => ?hs10) ?hm10
                      case hi10 => (simp only [List.getElem?_toArray, List.getElem?_cons_succ, List.getElem?_cons_zero]; rfl)
                      · go_simp
                        refine hK _ _ ?_; clear hK K
                        try simp only [Act.put, List.setIfInBounds_toArray, List.set_cons_zero, List.set_cons_succ]
                        refine wpAny_done (by kernel_rfl) ?_ _
                        go_wp2_with fail
                        exact ⟨⟨k + 1, a + x, vals.set p r, Lr2, by omega, HNT.out, by go_num, by rw [hor]; exact HNX⟩, by simp only [Go.RowKit.intOf]; omega⟩
                      exact AllReady.nil
                    exact AllReady.nil
                  · have hRn : R = none := by
                      rw [HSTP.out, if_pos ⟨by trivial, hog⟩, if_neg (fun h => hno ⟨h.1, (of_decide_eq_true h.2).1, by rw [← HGG.out]; exact (of_decide_eq_true h.2).2⟩)]
                    subst hww
                    have HJ := Lib.hid (And.intro HB6.out hRn)
                    clear hno hRn HNB' HSTP
                    go_wp2_with fail
                    go_step3
                    exact ⟨rfl, jmp_at HJ⟩
                · have hRn : R = none := by
                    rw [HSTP.out, if_neg (fun h => hno ⟨h.1, (of_decide_eq_true h.2).1, by have := (of_decide_eq_true h.2).2; omega⟩)]
                  subst hww
                  have HJ := Lib.hid (And.intro HST.out.bl hRn)
                  clear hno hRn HNA HNB HSTP HST
                  go_wp2_with fail
                  go_step3
                  exact ⟨rfl, jmp_at HJ⟩
              · obtain rfl : k = E := by omega
                have hlti : ¬ (k : Int) < (k : Int) := by omega
                have hR := HST.out.e
                rw [Nat.sub_self] at hR
                have hok : ok31 vals := ⟨by rw [HST.out.vl]; exact hc128, HST.out.vb⟩
                have hrow : Rows 1 EInt wr (.slice (some ⟨D, 0, none⟩) c c) (castB vals) := block_rowsB (castB vals) HST.out.ro (by simp [intRow]) (by rw [castB_len]; exact HST.out.vl) (by unfold maxLen; omega)
                have HPK := Lib.hid (pack_ok hrow (by rw [castB_len, HST.out.vl]; unfold maxLen; omega) (chk_nat hok) (show packB (castB vals) = blkB vals (wid vals) by unfold packB; rw [natB_cast]))
                have HB := Lib.hid HST.out.bl
                have HRW := Lib.hid hrow
                have HOK := Lib.hid hok
                have HR : Hid (R = some vals) := Lib.hid hR.symm
                clear hR hok hrow HST
                go_wp2_with fail
                refine HPK.out.mono ?_
                rintro er w6 ⟨v6, rfl, hs6, -, hb6⟩
                have HB6 := Lib.hid (HB.out.trans (hb6.mono HB.out.size))
                have HEQ := Lib.hid (equalB_any hs6 (HS.out.below HB6.out))
                have HRW6 := Lib.hid (HRW.out.below stays_int hb6)
                obtain ⟨sp6, cp6, rfl, -⟩ := hs6.form
                clear hs6 hb6 HPK HRW
                by_cases hPL : blkB vals (wid vals) = L
                · have HE : Hid (UnpV w (unpB R L) (.returned (.tuple #[.slice (some ⟨D, 0, none⟩) c c, .int .i64 0])) w6) := Lib.hid ⟨HB6.out, .inl ⟨vals, by rw [HR.out]; unfold unpB; simp only; rw [if_pos ⟨HOK.out, hPL⟩], HOK.out, _, rfl, HRW6.out⟩⟩
                  rw [decide_eq_true hPL] at HEQ
                  clear hPL HBAD HB6 HRW6
                  go_wp2_with fail
                  refine HEQ.out.mono ?_
                  rintro er w7 ⟨rfl, rfl⟩
                  go_wp2_with fail
                  simp only [Exit.jump]
                  go_ret2
                  exact HE.out
                · have HE : Hid (UnpV w (unpB R L) (.returned (.tuple #[.slice none 0 0, .int .i64 9])) w6) := Lib.hid ⟨HB6.out, .inr ⟨by rw [HR.out]; unfold unpB; simp only; rw [if_neg fun h => hPL h.2], rfl⟩⟩
                  rw [decide_eq_false hPL] at HEQ
                  clear hPL HBAD HB6 HRW6
                  go_wp2_with fail
                  refine HEQ.out.mono ?_
                  rintro er w7 ⟨rfl, rfl⟩
                  go_wp2_with fail
                  go_step3
                  go_wp2_with fail
                  simp only [Exit.jump]
                  go_ret2
                  exact HE.out
          · have hRn : R = none := by
              rw [HP.out, if_pos ⟨by trivial, hc128⟩, if_pos ⟨by trivial, hW31⟩, if_pos ⟨by trivial, hEc⟩, if_neg hno]
            subst hww
            have HJ := Lib.hid (And.intro HB4.out hRn)
            clear hno hRn HLW' HP
            go_wp2_with fail
            go_step3
            exact ⟨rfl, jmp_at HJ⟩
        · have hRn : R = none := by
            rw [HP.out, if_pos ⟨by trivial, hc128⟩, if_pos ⟨by trivial, hW31⟩, if_neg (fun h => hno ⟨h.1, Nat.zero_le _, h.2⟩)]
          subst hww
          have HJ := Lib.hid (And.intro HB3.out hRn)
          clear hno hRn HN3' HP
          go_wp2_with fail
          go_step3
          exact ⟨rfl, jmp_at HJ⟩
      · have hRn : R = none := by
          rw [HP.out, if_pos ⟨by trivial, hc128⟩, if_neg (fun h => hno ⟨h.1, Nat.zero_le _, h.2⟩)]
        subst hww
        have HJ := Lib.hid (And.intro HB2.out hRn)
        clear hno hRn HN2' HP
        go_wp2_with fail
        go_step3
        exact ⟨rfl, jmp_at HJ⟩
    · have hRn : R = none := by
        rw [HP.out, if_neg (fun h => hno ⟨h.1, Nat.zero_le _, h.2⟩)]
      have HJ := Lib.hid (And.intro HB1.out hRn)
      clear hno hRn HN1 HP
      rw [hww]
      go_wp2_with fail
      go_step3
      exact ⟨rfl, jmp_at HJ⟩
  · intro a wr hJ
    obtain ⟨hb, u0, u1, u2, u3, u4, u5, u6, u7, u8, u9, u10, u11, u12, u13, u14, u15, u16, u17, u18, u19, u20, u21, u22, u23, u24, u25, u26, u27, u28, u29, u30, u31, u32, u33, u34, u35, u36, u37, u38, u39, u40, u41, u42, u43, u44, u45, u46, u47, u48, u49, u50, u51, u52, u53, u54, u55, u56, u57, u58, u59, u60, u61, u62, u63, u64, u65, u66, u67, u68, u69, u70, u71, u72, u73, u74, u75, u76, u77, u78, u79, u80, u81, u82, u83, u84, u85, u86, u87, u88, u89, u90, u91, rfl⟩ := hJ
    have HE := Lib.hid (HBAD.out wr hb.out.1 hb.out.2)
    clear hb HBAD
    go_wp2_with fail
    simp only [Exit.jump]
    go_ret2
    exact HE.out
end Go.Proofs.YteennnhinfnahaaDoor
namespace Go.Proofs.YteennnhinfnahaaDoor
open Go.RowKit Go.Shelf Go.Lib
set_option linter.unusedVariables false
set_option linter.unusedSimpArgs false

set_option maxRecDepth 100000 in
set_option maxHeartbeats 4000000 in
theorem sameIntsB_any {w : World} {v u : Value} {h g : List Int} (hv : Rows 1 EInt w v h) (hu : Rows 1 EInt w u g) (hl : h.length ≤ maxLen) (hl2 : g.length ≤ maxLen) :
    Calls Tryd.prog 14 #[v, u] w fun e w' => e = .returned (.bool (decide (h = g))) ∧ Below w.heap.size w w' := by
  obtain ⟨A, cap, rfl, hc⟩ := hv.form
  obtain ⟨A2, cap2, rfl, hc2⟩ := hu.form
  obtain ⟨n, hn⟩ : ∃ n, h.length = n := ⟨_, rfl⟩
  obtain ⟨n2, hn2⟩ : ∃ n, g.length = n := ⟨_, rfl⟩
  obtain ⟨q, hq⟩ : ∃ q, decide (h = g) = q := ⟨_, rfl⟩
  have hqq : q = true ↔ h = g := by rw [← hq, decide_eq_true_iff]
  rw [hq]
  have HV := Lib.hid (fun W (hb : Below w.heap.size w W) => hv.below stays_int hb)
  have HU := Lib.hid (fun W (hb : Below w.heap.size w W) => hu.below stays_int hb)
  have HQ := Lib.hid hqq
  rw [hn] at hc hl HV ⊢
  rw [hn2] at hc2 hl2 HU ⊢
  unfold maxLen at hl hl2
  have HN := Lib.hid hn
  have HN2 := Lib.hid hn2
  clear hv hu hn hn2 hq hqq
  by_cases hnn : n = n2
  · subst hnn
    go_enter Tryd.func14, Tryd.ntmps14
    go_wp2_with fail
    go_loopw [13] (fun m wr => ∃ k : Nat, k ≤ n ∧ m = .int .i64 k ∧ Hid (∀ (j : Nat), j < k → h[j]? = g[j]?) ∧ Below w.heap.size w wr) (fun m _ => n - (Go.RowKit.intOf m).toNat)
    case atStart => exact ⟨0, Nat.zero_le _, rfl, Lib.hid (fun j h => absurd h (by omega)), Below.refl _ _⟩
    case round =>
      obtain ⟨k, hk, rfl, hno, hb⟩ := hrel
      by_cases hlt : k < n
      · obtain ⟨x, hx⟩ : ∃ x, h[k]? = some x := ⟨_, List.getElem?_eq_getElem (by rw [HN.out]; exact hlt)⟩
        obtain ⟨y, hy⟩ : ∃ x, g[k]? = some x := ⟨_, List.getElem?_eq_getElem (by rw [HN2.out]; exact hlt)⟩
        obtain ⟨b1, o1, rfl, -, hj1⟩ := at_int (HV.out wr hb) (by rw [HN.out]; omega)
        obtain ⟨b2, o2, rfl, -, hj2⟩ := at_int (HU.out wr hb) (by rw [HN2.out]; omega)
        have u0 := hj1 k x hx
        have u1 := hj2 k y hy
        have HB := Lib.hid hb
        have HX := Lib.hid hx
        have HY := Lib.hid hy
        have k0 : (0 : Int) ≤ (k : Int) := by omega
        have kn : (k : Int) < (n : Int) := by omega
        clear hj1 hj2 hx hy hb
        go_wp2_with fail
        go_quiet (fail)
        obtain ⟨w3, hw3⟩ : ∃ X, wr.drewN nq = X := ⟨_, rfl⟩
        rw [hw3]
        have HB3 := Lib.hid (show Below w.heap.size w w3 by rw [← hw3]; exact below_drewN HB.out nq)
        clear hw3
        by_cases hxy : x = y
        · subst hxy
          have hno' : Hid (∀ (j : Nat), j < k + 1 → h[j]? = g[j]?) := Lib.hid fun j hj => by
            by_cases e : j = k
            · subst e; rw [HX.out, HY.out]
            · exact hno.out j (by omega)
          have hxb : (x != x) = false := by simp
          go_wp2_with fail
          exact ⟨⟨k + 1, by omega, by go_num, hno', HB3.out⟩, by simp only [Go.RowKit.intOf]; omega⟩
        · have hqf : q = false := by
            rw [← Bool.not_eq_true]
            intro hq
            have := HQ.out.1 hq
            subst this
            rw [HX.out] at HY
            exact hxy (Option.some.inj HY.out)
          subst hqf
          have hxb : (x != y) = true := by simp [hxy]
          go_wp2_with fail
          go_ret
          exact ⟨rfl, HB3.out⟩
      · obtain rfl : k = n := by omega
        have hqt : q = true := HQ.out.2 (List.ext_getElem? fun j => by
          by_cases hj : j < k
          · exact hno.out j hj
          · rw [List.getElem?_eq_none (by rw [HN.out]; omega), List.getElem?_eq_none (by rw [HN2.out]; omega)])
        subst hqt
        have HB := Lib.hid hb
        clear hb
        go_wp2_with fail
        go_ret
        exact ⟨rfl, HB.out⟩
  · have hqf : q = false := by
      rw [← Bool.not_eq_true]
      intro hq
      have := HQ.out.1 hq
      exact hnn (by rw [← HN.out, ← HN2.out, this])
    subst hqf
    have hb : ((n : Int) != (n2 : Int)) = true := by simp; omega
    go_enter Tryd.func14, Tryd.ntmps14
    go_wp2_with fail
    go_ret
    exact ⟨rfl, Below.refl _ _⟩

/-- What Get answers. -/
def getE (o : Option (List Nat)) (i : Int) : Int × Int :=
  match o with
  | none => (0, 9)
  | some vs => if i < 0 ∨ (vs.length : Int) ≤ i then (0, 8) else ((vs.getD i.toNat 0 : Nat), 0)
def GetV (w : World) (t : Int × Int) (e : Ending) (w' : World) : Prop := e = .returned (.tuple #[.int .i64 t.1, .int .i64 t.2]) ∧ Below w.heap.size w w'
end Go.Proofs.YteennnhinfnahaaDoor
