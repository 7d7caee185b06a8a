/-
  WALKS over package block, reading: a number, the lowest bits of numbers.
-/
import Derived.Test.YtbfnkmibbieijaaBkP
import Derived.Test.YtbfnkmibbieijaaBkS
import Derived.Test.YtbfnkmibbieijaaBiF
import Derived.Test.YtbfnkmibbieijaaBjC
namespace Go.Proofs.Ytbfnkmibbieijaa
open Go.RowKit Go.Shelf Go.Lib
set_option linter.unusedVariables false
set_option linter.unusedSimpArgs false

theorem slice_fromB (A : Option Addr) (n cap k : Nat) (hk : k ≤ n) (hn : n ≤ cap) (w : World) : (Instr.slice 23 (.slice A n cap) (some (.int .i64 (k : Int))) none none).run Try.prog w = .ok (sliced A k n cap 1) w := by
  rw [run_slice_l w 23 _ _ _ (by kernel_rfl) .i64 k (by omega) (by omega)]
  have hz1 : (sizeOf (Try.prog.elem 23)).run Try.prog w = .ok 1 w := by kernel_rfl
  rw [hz1]
  simp [Result.andThen]
theorem seesB_from {w : World} {B n cap k : Nat} {A : Option Addr} {L : List UInt8} (h : Sees w B (.slice A n cap) L) (hk : k ≤ n) : Sees w B (sliced A k n cap 1) (L.drop k) := by
  rcases h with ⟨rfl, h2⟩ | ⟨ad, cap', h2, hc, hb, hj⟩
  · cases h2
    obtain rfl : k = 0 := by omega
    exact .inl ⟨rfl, by simp [sliced]⟩
  · cases h2
    have hl : (L.drop k).length = L.length - k := List.length_drop
    by_cases h0 : k = L.length
    · subst h0
      refine .inr ⟨if cap = L.length then ad else ad.add (L.length * 1), cap - L.length, ?_, ?_, fun h => absurd h (by simp), fun j hj => absurd hj (by simp)⟩
      · unfold sliced
        rw [hl]
        split <;> simp
      · simp
    · have h0j := hj 0 (by omega)
      have e := plain_cell (by simpa [Addr.add] using h0j)
      obtain ⟨bk, of, sp⟩ := ad
      have hsp : sp = none := congrArg Addr.spot e
      subst hsp
      have ha : ∀ o m : Nat, (⟨bk, o, none⟩ : Addr).add m = ⟨bk, o + m, none⟩ := fun o m => by unfold Addr.add; split <;> simp_all
      unfold sliced
      rw [if_neg (by omega)]
      refine .inr ⟨⟨bk, of + k, none⟩, cap - k, ?_, by rw [hl]; omega, fun _ => hb (by omega), fun j hj' => ?_⟩
      · rw [hl, Option.map_some, ha, Nat.mul_one]
      · rw [List.getElem_drop, ha, Nat.add_assoc]
        have := hj (k + j) (by rw [hl] at hj'; omega)
        rw [ha] at this
        exact this
/-- A reader in memory: its rest. -/
def RdB (w : World) (g B : Nat) (L : List UInt8) : Prop := ∃ v, w.heap[g]? = some (.cells #[v] 77 (0, 0)) ∧ Sees w B v L ∧ B ≤ g
def okN (L : List UInt8) (lo hi : Nat) : Prop := (tk L 0 0).2.2 = 0 ∧ lo ≤ (tk L 0 0).1 ∧ (tk L 0 0).1 ≤ hi
def NumV (w : World) (g B : Nat) (L : List UInt8) (lo hi : Nat) (e : Ending) (w' : World) : Prop :=
  (okN L lo hi ∧ e = .returned (.tuple #[.int .i64 ((tk L 0 0).1 : Nat), .bool true]) ∧ RdB w' g B (L.drop (tk L 0 0).2.1) ∧ w.grownBy w' (some g)) ∨
  (¬ okN L lo hi ∧ e = .returned (.tuple #[.int .i64 0, .bool false]) ∧ w' = w)
theorem RdB.set {w : World} {g B : Nat} {L M : List UInt8} {v u : Value} (h : w.heap[g]? = some (.cells #[v] 77 (0, 0))) (hs : Sees w B u M) (hB : B ≤ g) : RdB (w.setCell ⟨g, 0, none⟩ u) g B M ∧ w.grownBy (w.setCell ⟨g, 0, none⟩ u) (some g) := by
  have h1 := set_of h (i := 0) u
  refine ⟨⟨u, h1, hs.below ((Below.refl _ _).setCell (p := ⟨g, 0, none⟩) hB u), hB⟩, ?_⟩
  refine ⟨rfl, rfl, rfl, by simp [World.setCell], fun k hk hne => Below.heap_setCell w ⟨g, 0, none⟩ u k (fun e => hne (by rw [e]))⟩
set_option maxRecDepth 100000 in
set_option maxHeartbeats 4000000 in
theorem rdnum_any {w : World} {g B : Nat} {L : List UInt8} (h : RdB w g B L) (hL : L.length ≤ 12500) (lo hi : Nat) (hlo : lo ≤ 2147483647) (hhi : hi ≤ 2147483647) :
    Calls Try.prog 44 #[.pointer (some ⟨g, 0, none⟩), .int .i64 lo, .int .i64 hi] w (NumV w g B L lo hi) := by
  obtain ⟨v, hb, hs, hB⟩ := h
  have c0 := cell_of (i := 0) hb rfl
  have f0 := frozen_of (i := 0) hb
  have HU := Lib.hid (uvarint_any hs (by omega))
  obtain ⟨htk1, htk2⟩ := tk_fits L 0 0 (by omega) (by omega)
  obtain ⟨A, cap, rfl, hcap, -⟩ := hs.form2
  obtain ⟨n, hn⟩ : ∃ n, L.length = n := ⟨_, rfl⟩
  rw [hn] at hb hs c0 HU hL hcap htk2
  obtain ⟨x, hx⟩ : ∃ x, (tk L 0 0).1 = x := ⟨_, rfl⟩
  obtain ⟨m, hm⟩ : ∃ x, (tk L 0 0).2.1 = x := ⟨_, rfl⟩
  obtain ⟨er, he⟩ : ∃ x, (tk L 0 0).2.2 = x := ⟨_, rfl⟩
  have hkV : tkV (tk L 0 0) = .tuple #[.int .u64 x, .int .i64 m, .int .i64 er] := by unfold tkV; rw [hx, hm, he]
  rw [hkV] at HU
  have hok : okN L lo hi ↔ er = 0 ∧ lo ≤ x ∧ x ≤ hi := by unfold okN; rw [he, hx]
  rw [hx] at htk1
  rw [hm] at htk2
  have hsl := slice_fromB A n cap m (by omega) hcap w
  have hfr := seesB_from hs (k := m) (by omega)
  have hset := RdB.set (L := L) hb hfr hB
  obtain ⟨A', n', c', hu⟩ : ∃ A' n' c', sliced A m n cap 1 = .slice A' n' c' := ⟨_, _, _, rfl⟩
  rw [hu] at hsl hset
  have HY : Hid (okN L lo hi → NumV w g B L lo hi (.returned (.tuple #[.int .i64 x, .bool true])) (w.setCell ⟨g, 0, none⟩ (.slice A' n' c'))) := Lib.hid (fun h => .inl ⟨h, by rw [hx], by rw [hm]; exact hset.1, hset.2⟩)
  have HN : Hid (¬ okN L lo hi → NumV w g B L lo hi (.returned (.tuple #[.int .i64 0, .bool false])) w) := Lib.hid (fun h => .inr ⟨h, rfl, rfl⟩)
  clear hb hs hB hfr hset hu hx hm he hkV hn
  by_cases h1 : er = 0
  · subst h1
    by_cases h2 : x < lo
    · have HG := Lib.hid (HN.out (fun h => by have := hok.1 h; omega))
      have b2 : decide ((x : Int) < (lo : Int)) = true := decide_eq_true (by omega)
      clear hok HY HN
      go_enter Try.func44, Try.ntmps44
      go_wp2_with fail
      refine HU.out.mono ?_
      rintro e w' ⟨rfl, rfl⟩
      go_wp2_with fail
      go_ret2
      exact HG.out
    · have b2 : decide ((x : Int) < (lo : Int)) = false := decide_eq_false (by omega)
      by_cases h3 : hi < x
      · have HG := Lib.hid (HN.out (fun h => by have := hok.1 h; omega))
        have b3 : decide ((x : Int) > (hi : Int)) = true := decide_eq_true (by omega)
        clear hok HY HN
        go_enter Try.func44, Try.ntmps44
        go_wp2_with fail
        refine HU.out.mono ?_
        rintro e w' ⟨rfl, rfl⟩
        go_wp2_with fail
        go_ret2
        exact HG.out
      · have HG := Lib.hid (HY.out (hok.2 ⟨rfl, by omega, by omega⟩))
        have b3 : decide ((x : Int) > (hi : Int)) = false := decide_eq_false (by omega)
        have hxs : x ≤ 2147483647 := by omega
        clear hok HY HN
        go_enter Try.func44, Try.ntmps44
        go_wp2_with fail
        refine HU.out.mono ?_
        rintro e w' ⟨rfl, rfl⟩
        go_wp2_with fail
        go_ret2
        exact HG.out
  · have HG := Lib.hid (HN.out (fun h => h1 (hok.1 h).1))
    have b1 : ((er : Int) != 0) = true := by simp; omega
    have b1' : ((er : Int) == 0) = false := by simp; omega
    clear hok HY HN h1
    go_enter Try.func44, Try.ntmps44
    go_wp2_with fail
    refine HU.out.mono ?_
    rintro e w' ⟨rfl, rfl⟩
    go_wp2_with fail
    go_ret2
    exact HG.out

theorem infoIntU : (Try.prog.info? 3).map (fun i => (i.zero, i.size, i.bytes)) = some (some (.int .i64 0), 1, 8) := by kernel_rfl
def iVU (ns : List Nat) : List Value := ns.map fun (x : Nat) => Value.int .i64 (x : Int)
theorem own_rowsU {w : World} {base : Nat} {v : Value} {ns : List Nat} (h : w.ownsRow base 3 1 v ns.length (iVU ns)) : Rows 1 EInt w v (castB ns) := by
  refine own_rows (base := base) ?_
  rw [castB_len]
  unfold iVU at h
  unfold castB
  rw [List.map_map]
  exact h
theorem own_setU {w : World} {base g n cap : Nat} {T : TypeId} {F : List Value} (h : w.ownsRow base T 1 (.slice (some ⟨g, 0, none⟩) n cap) n F) {i : Nat} (hi : i < n) (z : Value) :
    (w.setCell ⟨g, i, none⟩ z).ownsRow base T 1 (.slice (some ⟨g, 0, none⟩) n cap) n (F.set i z) := by
  have hn := h.1
  rcases h.2 with ⟨hv, _⟩ | ⟨g', cap', cur, hv, hb, hh, hc, hm, hs, ht⟩
  · cases hv
  · cases hv
    exact ⟨by rw [List.length_set, hn], .inr ⟨g, cap, _, rfl, hb, set_of hh _, hc, hm, by simp [hs], by rw [← ht, Array.toList_setIfInBounds, List.take_set]⟩⟩
theorem iVU_set (ns : List Nat) (p g : Nat) : (iVU ns).set p (.int .i64 (g : Int)) = iVU (ns.set p g) := by
  unfold iVU
  rw [List.map_set]
theorem rbits_low (l : List Bool) (i c W : Nat) (h : l.length = c * W) (hi : i < c) : rbits l (i * W) W = (numL ((l.drop (i * W)).take W), (i + 1) * W, 0) := by
  unfold rbits
  have h1 : (i + 1) * W ≤ c * W := Nat.mul_le_mul_right _ hi
  have e1 : (i + 1) * W = i * W + W := by rw [Nat.add_mul, Nat.one_mul]
  rw [if_neg (by rw [h]; omega), e1]
theorem lowsOf_len (L : List UInt8) (c W : Nat) : (lowsOf L c W).length = c := by simp [lowsOf]
theorem lowsOf_at (L : List UInt8) {c W i : Nat} (hi : i < c) : (lowsOf L c W)[i]? = some (numL (((unpack L (c * W)).drop (i * W)).take W)) := by
  unfold lowsOf
  rw [List.getElem?_map, List.getElem?_range hi]
  rfl
/-- A row that is being filled. -/
def fillB (l : List Nat) (c k : Nat) : List Nat := l.take k ++ List.replicate (c - k) 0
theorem fillB_len {l : List Nat} {c k : Nat} (hl : l.length = c) (hk : k ≤ c) : (fillB l c k).length = c := by
  unfold fillB
  rw [List.length_append, List.length_take, List.length_replicate]
  omega
theorem fillB_set {l : List Nat} {c k x : Nat} (hl : l.length = c) (h : l[k]? = some x) : (fillB l c k).set k x = fillB l c (k + 1) := by
  have hk : k < l.length := (List.getElem?_eq_some_iff.1 h).1
  unfold fillB
  have e : c - k = (c - (k + 1)) + 1 := by omega
  rw [e, List.replicate_succ, List.take_add_one, h]
  have hlt : (l.take k).length = k := by rw [List.length_take]; omega
  rw [List.set_append_right _ _ (by omega), hlt, Nat.sub_self]
  simp
theorem numL_le (l : List Bool) (W : Nat) (h : l.length ≤ W) : numL l < 2 ^ W := Nat.lt_of_lt_of_le (numL_lt l) (Nat.pow_le_pow_right (by decide) h)
theorem castB_at {ns : List Nat} {i x : Nat} (h : ns[i]? = some x) : (castB ns)[i]? = some (x : Int) := by unfold castB; rw [List.getElem?_map, h]; rfl
theorem castB_set (ns : List Nat) (p g : Nat) : (castB ns).set p (g : Int) = castB (ns.set p g) := by unfold castB; rw [List.map_set]
theorem castB_rep (n : Nat) : castB (List.replicate n 0) = List.replicate n (0 : Int) := by simp [castB]
theorem intRow_at {l : List Int} {i : Nat} {x : Int} (h : l[i]? = some x) : (intRow l)[i]? = some (.int .i64 x) := by
  have hi := (List.getElem?_eq_some_iff.1 h).1
  rw [intRow_get hi, List.getD_eq_getElem?_getD, h]
  rfl
theorem make_int (n : Nat) (hn : n ≤ 100000) (W : World) : (Instr.makeSlice 22 (.int .i64 n) (.int .i64 n)).run Try.prog W = .ok (.slice (some ⟨W.heap.size, 0, none⟩) n n) (W.alloc (.cells (intRow (castB (List.replicate n 0))) 3)) := by
  obtain ⟨i1, hi1, hy0, hy1, hy2⟩ := info_parts' infoIntU
  have := run_make (P := Try.prog) W 22 3 i1 _ Try.underlying22 hi1 hy0 .i64 .i64 n n (by omega) (by omega) (by rw [hy2]; omega) (by omega)
  rw [Int.toNat_natCast, hy1, Nat.mul_one] at this
  rw [castB_rep, ← made_int]
  exact this
theorem RAt.setB {w : World} {B g D i : Nat} {vb u : Value} {bs : List UInt8} {size p : Nat} (h : RAt w B g vb bs size p) (hg : g ≠ D) (ho : vb.ownBlock ≠ some D) :
    RAt (w.setCell ⟨D, i, none⟩ u) B g vb bs size p :=
  ⟨h.1, by rw [Below.heap_setCell w ⟨D, i, none⟩ u g hg]; exact h.2.1, own_below h.2.2.1 fun k hk => Below.heap_setCell w ⟨D, i, none⟩ u k (fun e => ho (by rw [hk, e])), h.2.2.2⟩
/-- Between two numbers of low: the new Reader has moved, the row is filled to k. -/
structure LwAt (w : World) (L bs : List UInt8) (c W : Nat) (gr D : Nat) (vb : Value) (k : Nat) (wr : World) : Prop where
  bl : Below w.heap.size w wr
  rd : RAt wr w.heap.size gr vb bs (c * W) (k * W)
  ro : wr.heap[D]? = some (.cells (intRow (castB (fillB (lowsOf L c W) c k))) 3 (0, 0))
  ne : gr ≠ D ∧ vb.ownBlock ≠ some D ∧ w.heap.size ≤ D
def LowV (w : World) (g B : Nat) (L : List UInt8) (c W : Nat) (e : Ending) (w' : World) : Prop :=
  (c * W ≤ 8 * L.length ∧ ∃ D, e = .returned (.tuple #[.slice (some ⟨D, 0, none⟩) c c, .bool true]) ∧ w.heap.size ≤ D ∧ w'.heap[D]? = some (.cells (intRow (castB (lowsOf L c W))) 3 (0, 0)) ∧ RdB w' g B (L.drop ((c * W + 7) / 8)) ∧ Below B w w') ∨
  (¬ c * W ≤ 8 * L.length ∧ e = .returned (.tuple #[.slice none 0 0, .bool false]) ∧ w' = w)
set_option maxRecDepth 100000 in
set_option maxHeartbeats 4000000 in
theorem low_anyB {w : World} {g B : Nat} {L : List UInt8} (h : RdB w g B L) (hg : g < w.heap.size) (hL : L.length ≤ 12500) (c W : Nat) (hc : c ≤ 128) (hW : W ≤ 31) :
    Calls Try.prog 45 #[.pointer (some ⟨g, 0, none⟩), .int .i64 c, .int .i64 W] w (LowV w g B L c W) := by
  obtain ⟨v, hb, hs, hB⟩ := h
  have hmul : c * W ≤ 128 * 31 := Nat.mul_le_mul hc hW
  have e1 : (c : Int) * (W : Int) = ((c * W : Nat) : Int) := (Int.natCast_mul c W).symm
  obtain ⟨t, ht⟩ : ∃ t, c * W = t := ⟨_, rfl⟩
  rw [ht] at hmul e1
  obtain ⟨A, cap, rfl, hcap, -⟩ := hs.form2
  have hsw := hs.mono (Nat.le_of_lt (Nat.lt_of_le_of_lt hB hg))
  have c0 : w.cell? ⟨g, 0, none⟩ = some (.slice A L.length cap) := cell_of (i := 0) hb rfl
  by_cases hfit : t ≤ 8 * L.length
  · have HNR := Lib.hid (newReader_any hsw hL t hfit)
    have hts : (t + 7) / 8 ≤ L.length := by omega
    have HFIN : Hid (∀ (D : Nat) (wr : World), LwAt w L (L.take ((t + 7) / 8)) c W D D (.slice none 0 0) c wr → True) := Lib.hid (fun _ _ _ => trivial)
    have HBW := Lib.hid hb
    have HSS := Lib.hid hs
    have HT := Lib.hid ht
    have HB0 := Lib.hid hB
    have HG0 := Lib.hid hg
    have HFIT := Lib.hid hfit
    have HLL := Lib.hid hL
    clear HFIN hb hs hsw ht hfit
    go_enter Try.func45, Try.ntmps45
    go_wp2_with fail
    refine HNR.out.mono ?_
    rintro e w2 ⟨gr, vb, rfl, hrat, hb2⟩
    have hmk := make_int c (by omega) w2
    have hstart : LwAt w L (L.take ((t + 7) / 8)) c W gr w2.heap.size vb 0 (w2.alloc (.cells (intRow (castB (List.replicate c 0))) 3)) := by
      have h1 : w.heap.size ≤ w2.heap.size := hb2.size
      refine ⟨hb2.alloc h1 _, ?_, ?_, ?_⟩
      · have h2 : (w2.alloc (.cells (intRow (castB (List.replicate c 0))) 3)).heap[gr]? = w2.heap[gr]? := (below_box w2 _).block gr hrat.lt
        rw [HT.out, Nat.zero_mul]
        exact ⟨hrat.1, h2.trans hrat.2.1, own_below hrat.2.2.1 fun k hk => (below_box w2 _).block k (own_low hrat.2.2.1 k hk).2, hrat.2.2.2⟩
      · have h3 : fillB (lowsOf L c W) c 0 = List.replicate c 0 := by simp [fillB]
        rw [h3]
        exact block_new w2 _
      · exact ⟨Nat.ne_of_lt hrat.lt, fun e => by have := (own_low hrat.2.2.1 _ e).2; omega, h1⟩
    have HS0 := Lib.hid hstart
    clear hstart hrat hb2 HNR c0
    go_wp2_with fail
    obtain ⟨D, hD⟩ : ∃ D, w2.heap.size = D := ⟨_, rfl⟩
    obtain ⟨w3, hw3⟩ : ∃ w3, w2.alloc (.cells (intRow (castB (List.replicate c 0))) 3) = w3 := ⟨_, rfl⟩
    rw [hD, hw3] at HS0
    rw [hD, hw3]
    clear hD hw3 hmk
    go_loopw [31] (fun iv wr => ∃ k : Nat, k ≤ c ∧ iv = .int .i64 k ∧ Hid (LwAt w L (L.take ((t + 7) / 8)) c W gr D vb k wr)) (fun iv _ => c - (Go.RowKit.intOf iv).toNat)
    case atStart => exact ⟨0, Nat.zero_le _, rfl, HS0⟩
    case round =>
      clear HS0
      obtain ⟨k, hk, rfl, HS⟩ := hrel
      by_cases hlt : k < c
      · have hlti : (k : Int) < (c : Int) := by omega
        have HRB := Lib.hid (rbits_any HS.out.rd W (by omega))
        have hul : (unpack (L.take ((t + 7) / 8)) (c * W)).length = c * W := unpack_len _ _
        have hrl := rbits_low _ k c W hul hlt
        have hut : unpack (L.take ((t + 7) / 8)) (c * W) = unpack L (c * W) := by rw [← HT.out]; exact unpack_takeB L (c * W)
        rw [hrl, hut] at HRB
        have hat := lowsOf_at L (W := W) hlt
        have hxb := numL_le (((unpack L (c * W)).drop (k * W)).take W) W (by rw [List.length_take]; omega)
        have h31 : 2 ^ W ≤ 2 ^ 31 := Nat.pow_le_pow_right (by omega) hW
        have h32 : (2 : Nat) ^ 31 = 2147483648 := by decide
        rw [h32] at h31
        obtain ⟨x, hx⟩ : ∃ x, numL (((unpack L (c * W)).drop (k * W)).take W) = x := ⟨_, rfl⟩
        rw [hx] at HRB hat hxb
        have hx31 : x < 2147483648 := by omega
        have HAT := Lib.hid hat
        clear hx hat hut hrl hul hxb h31 h32
        go_wp2_with fail
        refine HRB.out.mono ?_
        rintro er w4 ⟨rfl, hr4, hg4⟩
        have hDlt : D < wr.heap.size := (Array.getElem?_eq_some_iff.1 HS.out.ro).1
        have hro4 := (hg4.block D hDlt (fun e => HS.out.ne.1 (Option.some.inj e).symm)).trans HS.out.ro
        have hfl : (fillB (lowsOf L c W) c k).length = c := fillB_len (lowsOf_len _ _ _) hk
        obtain ⟨u, hu⟩ : ∃ u, (fillB (lowsOf L c W) c k)[k]? = some u := ⟨_, List.getElem?_eq_getElem (by rw [hfl]; exact hlt)⟩
        have hcell : w4.cell? ⟨D, k, none⟩ = some (.int .i64 (u : Int)) := cell_of hro4 (intRow_at (castB_at hu))
        have hfz : w4.frozen? ⟨D, k, none⟩ = false := frozen_of hro4
        have HNX : Hid (LwAt w L (L.take ((t + 7) / 8)) c W gr D vb (k + 1) (w4.setCell ⟨D, k, none⟩ (.int .i64 (x : Int)))) := Lib.hid (by
          have h1 := set_of hro4 (i := k) (.int .i64 (x : Int))
          rw [intRow_set, castB_set, fillB_set (lowsOf_len _ _ _) HAT.out] at h1
          have hb4 : Below w.heap.size w w4 := HS.out.bl.grown hg4 HS.out.bl.size (fun j e => by
            have := Option.some.inj e
            rw [← this]
            exact HS.out.rd.1)
          exact ⟨hb4.setCell (p := ⟨D, k, none⟩) HS.out.ne.2.2 _, hr4.setB HS.out.ne.1 HS.out.ne.2.1, h1, HS.out.ne⟩)
        clear hr4 hg4 hro4 hu hfl hDlt HS HRB
        go_wp2_with fail
        exact ⟨⟨k + 1, by omega, by go_num, HNX⟩, by simp only [Go.RowKit.intOf]; omega⟩
      · obtain rfl : k = c := by omega
        have hlti : ¬ (k : Int) < (k : Int) := by omega
        have hbw := (HS.out.bl.block g HG0.out).trans HBW.out
        have hss := HSS.out.below (HS.out.bl.mono (Nat.le_of_lt (Nat.lt_of_le_of_lt HB0.out HG0.out)))
        have hcg : wr.drew.cell? ⟨g, 0, none⟩ = some (.slice A L.length cap) := cell_of (i := 0) (show wr.drew.heap[g]? = _ from hbw) rfl
        have hfg : wr.drew.frozen? ⟨g, 0, none⟩ = false := frozen_of (show wr.drew.heap[g]? = _ from hbw)
        have hsl := fun W' => slice_fromB A L.length cap ((t + 7) / 8) hts hcap W'
        have HLS := Lib.hid (fun W' => lowSize_any k W hc (by omega) W')
        have hfr := seesB_from hss hts
        obtain ⟨A', n', c', hu⟩ : ∃ A' n' c', sliced A ((t + 7) / 8) L.length cap 1 = .slice A' n' c' := ⟨_, _, _, rfl⟩
        rw [hu] at hfr
        simp only [hu] at hsl
        have hset := RdB.set (w := wr.drew) (L := L) (show wr.drew.heap[g]? = _ from hbw) (hfr.keep fun _ _ => rfl) HB0.out
        have HF : Hid (LowV w g B L k W (.returned (.tuple #[.slice (some ⟨D, 0, none⟩) k k, .bool true])) (wr.drew.setCell ⟨g, 0, none⟩ (.slice A' n' c'))) := Lib.hid (by
          have hro := HS.out.ro
          have hfe : fillB (lowsOf L k W) k k = lowsOf L k W := by
            unfold fillB
            rw [Nat.sub_self, List.replicate_zero, List.append_nil, List.take_of_length_le (by rw [lowsOf_len]; exact Nat.le_refl _)]
          rw [hfe] at hro
          have hDg : D ≠ g := by have := HS.out.ne.2.2; have := HG0.out; omega
          refine .inl ⟨by rw [HT.out]; exact HFIT.out, D, rfl, HS.out.ne.2.2, ?_, by rw [HT.out]; exact hset.1, ?_⟩
          · rw [Below.heap_setCell wr.drew ⟨g, 0, none⟩ _ D hDg]
            exact hro
          · exact (HS.out.bl.drew.mono (Nat.le_of_lt (Nat.lt_of_le_of_lt HB0.out HG0.out))).setCell (p := ⟨g, 0, none⟩) HB0.out _)
        have hte : (k * W + 7) / 8 = (t + 7) / 8 := by rw [HT.out]
        rw [hte] at HLS
        obtain ⟨z, hz⟩ : ∃ z, (t + 7) / 8 = z := ⟨_, rfl⟩
        rw [hz] at HLS hts
        simp only [hz] at hsl
        clear hbw hss hfr hset hu HS hte hz
        go_wp2_with fail
        refine wp_region_any (by kernel_rfl) ?_
        change wpAny _ _ _ _ _ _ _ (World.drew _)
        refine wpAny_take (i := 0) (oi := ?oi1) (v := ?v1) ?hi1 (by kernel_rfl) (by kernel_rfl) (by kernel_rfl) ?hq1 ?hy1 ?hr1
        case hi1 => (simp only [List.getElem?_toArray, List.getElem?_cons_zero]; rfl)
        case hq1 => exact fun _ _ _ h => h
        case hy1 => exact Or.inl ⟨by rfl, by intro w; (first | (go_simp; done) | (go_simp; with_reducible rfl))⟩
        try simp only [Act.put, List.setIfInBounds_toArray, List.set_cons_zero, List.set_cons_succ]
        refine wpAny_take (i := 1) (oi := ?oi2) (v := ?v2) ?hi2 (by kernel_rfl) (by kernel_rfl) (by kernel_rfl) ?hq2 ?hy2 ?hr2
        case hi2 => (simp only [List.getElem?_toArray, List.getElem?_cons_succ, List.getElem?_cons_zero]; rfl)
        case hq2 => exact fun _ _ _ h => h
        case hy2 => exact Or.inl ⟨by rfl, by intro w; (first | (go_simp; done) | (go_simp; with_reducible rfl))⟩
        try simp only [Act.put, List.setIfInBounds_toArray, List.set_cons_zero, List.set_cons_succ]
        refine wpAny_take (i := 2) (oi := ?oi3) (v := ?v3) ?hi3 (by kernel_rfl) (by kernel_rfl) (by kernel_rfl) ?hq3 ?hy3 ?hr3
        case hi3 => (simp only [List.getElem?_toArray, List.getElem?_cons_succ, List.getElem?_cons_zero]; rfl)
        case hq3 => exact fun _ _ _ h => h
        case hy3 => exact Or.inl ⟨by rfl, by intro w; (first | (go_simp; done) | (go_simp; with_reducible rfl))⟩
        try simp only [Act.put, List.setIfInBounds_toArray, List.set_cons_zero, List.set_cons_succ]
        refine wpAny_take (i := 3) (oi := ?oi4) (v := ?v4) ?hi4 (by kernel_rfl) (by kernel_rfl) (by kernel_rfl) ?hq4 ?hy4 ?hr4
        case hi4 => (simp only [List.getElem?_toArray, List.getElem?_cons_succ, List.getElem?_cons_zero]; rfl)
        case hq4 => exact fun _ _ _ h => h
        case hy4 => exact Or.inl ⟨by rfl, by intro w; (first | (go_simp; done) | (go_simp; with_reducible rfl))⟩
        try simp only [Act.put, List.setIfInBounds_toArray, List.set_cons_zero, List.set_cons_succ]
        refine wpAny_take (i := 5) (oi := ?oi5) (v := ?v5) ?hi5 (by kernel_rfl) (by kernel_rfl) (by kernel_rfl) ?hq5 ?hy5 ?hr5
        case hi5 => (simp only [List.getElem?_toArray, List.getElem?_cons_succ, List.getElem?_cons_zero]; rfl)
        case hq5 => exact fun _ _ _ h => h
        case hy5 => exact Or.inl ⟨by rfl, by intro w; (first | (go_simp; done) | (go_simp; with_reducible rfl))⟩
        try simp only [Act.put, List.setIfInBounds_toArray, List.set_cons_zero, List.set_cons_succ]
        refine wpAny_take (i := 6) (oi := ?oi6) (v := ?v6) ?hi6 (by kernel_rfl) (by kernel_rfl) (by kernel_rfl) ?hq6 ?hy6 ?hr6
        case hi6 => (simp only [List.getElem?_toArray, List.getElem?_cons_succ, List.getElem?_cons_zero]; rfl)
        case hq6 => exact fun _ _ _ h => h
        case hy6 => exact Or.inl ⟨by rfl, by intro w; (first | (go_simp; done) | (go_simp; with_reducible rfl))⟩
        try simp only [Act.put, List.setIfInBounds_toArray, List.set_cons_zero, List.set_cons_succ]
        refine wpAny_ready (rs := [4, 7]) (by kernel_rfl) (by simp) ?_
        refine AllReady.cons (o := ?oo7) ?hi7 (fun K hK => ?hs7) ?hm7
        case hi7 => (simp only [List.getElem?_toArray, List.getElem?_cons_succ, List.getElem?_cons_zero]; rfl)
        · go_simp
          refine hK _ _ ?_; clear hK K
          try simp only [Act.put, List.setIfInBounds_toArray, List.set_cons_zero, List.set_cons_succ]
          refine wpAny_ready (rs := [7]) (by kernel_rfl) (by simp) ?_
          refine AllReady.cons (o := ?oo8) ?hi8 (fun K hK => ?hs8) ?hm8
          case hi8 => (simp only [List.getElem?_toArray, List.getElem?_cons_succ, List.getElem?_cons_zero]; rfl)
          · go_simp
            refine (HLS.out _).mono ?_
            rintro e w5 ⟨rfl, rfl⟩
            go_wp2_with fail
            try simp only [Act.put, List.setIfInBounds_toArray, List.set_cons_zero, List.set_cons_succ]
            refine wpAny_take (i := 8) (oi := ?oi9) (v := ?v9) ?hi9 (by kernel_rfl) (by kernel_rfl) (by kernel_rfl) ?hq9 ?hy9 ?hr9
            case hi9 => (simp only [List.getElem?_toArray, List.getElem?_cons_succ, List.getElem?_cons_zero]; rfl)
            case hq9 => exact fun _ _ _ h => h
            case hy9 => exact Or.inl ⟨by rfl, by intro w; (first | (go_simp; done) | (go_simp; with_reducible rfl))⟩
            try simp only [Act.put, List.setIfInBounds_toArray, List.set_cons_zero, List.set_cons_succ]
            refine wpAny_take (i := 9) (oi := ?oi10) (v := ?v10) ?hi10 (by kernel_rfl) (by kernel_rfl) (by kernel_rfl) ?hq10 ?hy10 ?hr10
            case hi10 => (simp only [List.getElem?_toArray, List.getElem?_cons_succ, List.getElem?_cons_zero]; rfl)
            case hq10 => exact fun _ _ _ h => h
            case hy10 => exact Or.inl ⟨by rfl, by intro w; (first | (go_simp; done) | (go_simp; with_reducible rfl))⟩
            try simp only [Act.put, List.setIfInBounds_toArray, List.set_cons_zero, List.set_cons_succ]
            refine wpAny_take (i := 10) (oi := ?oi11) (v := ?v11) ?hi11 (by kernel_rfl) (by kernel_rfl) (by kernel_rfl) ?hq11 ?hy11 ?hr11
            case hi11 => (simp only [List.getElem?_toArray, List.getElem?_cons_succ, List.getElem?_cons_zero]; rfl)
            case hq11 => exact fun _ _ _ h => h
            case hy11 => exact Or.inl ⟨by rfl, by intro w; (first | (go_simp; done) | (go_simp; with_reducible rfl))⟩
            try simp only [Act.put, List.setIfInBounds_toArray, List.set_cons_zero, List.set_cons_succ]
            refine wpAny_ready (rs := [11]) (by kernel_rfl) (by simp) ?_
            refine AllReady.cons (o := ?oo12) ?hi12 (fun K hK => ?hs12) ?hm12
            case hi12 => (simp only [List.getElem?_toArray, List.getElem?_cons_succ, List.getElem?_cons_zero]; rfl)
            · go_simp
              refine hK _ _ ?_; clear hK K
              try simp only [Act.put, List.setIfInBounds_toArray, List.set_cons_zero, List.set_cons_succ]
              refine wpAny_done (by kernel_rfl) ?_ _
              go_wp2_with fail
              go_ret2
              exact HF.out
            exact AllReady.nil
          exact AllReady.nil
        refine AllReady.cons (o := ?oo13) ?hi13 (fun K hK => ?hs13) ?hm13
        case hi13 => (simp only [List.getElem?_toArray, List.getElem?_cons_succ, List.getElem?_cons_zero]; rfl)
        · go_simp
          refine (HLS.out _).mono ?_
          rintro e w5 ⟨rfl, rfl⟩
          go_wp2_with fail
          try simp only [Act.put, List.setIfInBounds_toArray, List.set_cons_zero, List.set_cons_succ]
          refine wpAny_ready (rs := [4]) (by kernel_rfl) (by simp) ?_
          refine AllReady.cons (o := ?oo14) ?hi14 (fun K hK => ?hs14) ?hm14
          case hi14 => (simp only [List.getElem?_toArray, List.getElem?_cons_succ, List.getElem?_cons_zero]; rfl)
          · go_simp
            refine hK _ _ ?_; clear hK K
            try simp only [Act.put, List.setIfInBounds_toArray, List.set_cons_zero, List.set_cons_succ]
            refine wpAny_take (i := 8) (oi := ?oi15) (v := ?v15) ?hi15 (by kernel_rfl) (by kernel_rfl) (by kernel_rfl) ?hq15 ?hy15 ?hr15
            case hi15 => (simp only [List.getElem?_toArray, List.getElem?_cons_succ, List.getElem?_cons_zero]; rfl)
            case hq15 => exact fun _ _ _ h => h
            case hy15 => exact Or.inl ⟨by rfl, by intro w; (first | (go_simp; done) | (go_simp; with_reducible rfl))⟩
            try simp only [Act.put, List.setIfInBounds_toArray, List.set_cons_zero, List.set_cons_succ]
            refine wpAny_take (i := 9) (oi := ?oi16) (v := ?v16) ?hi16 (by kernel_rfl) (by kernel_rfl) (by kernel_rfl) ?hq16 ?hy16 ?hr16
            case hi16 => (simp only [List.getElem?_toArray, List.getElem?_cons_succ, List.getElem?_cons_zero]; rfl)
            case hq16 => exact fun _ _ _ h => h
            case hy16 => exact Or.inl ⟨by rfl, by intro w; (first | (go_simp; done) | (go_simp; with_reducible rfl))⟩
            try simp only [Act.put, List.setIfInBounds_toArray, List.set_cons_zero, List.set_cons_succ]
            refine wpAny_take (i := 10) (oi := ?oi17) (v := ?v17) ?hi17 (by kernel_rfl) (by kernel_rfl) (by kernel_rfl) ?hq17 ?hy17 ?hr17
            case hi17 => (simp only [List.getElem?_toArray, List.getElem?_cons_succ, List.getElem?_cons_zero]; rfl)
            case hq17 => exact fun _ _ _ h => h
            case hy17 => exact Or.inl ⟨by rfl, by intro w; (first | (go_simp; done) | (go_simp; with_reducible rfl))⟩
            try simp only [Act.put, List.setIfInBounds_toArray, List.set_cons_zero, List.set_cons_succ]
            refine wpAny_ready (rs := [11]) (by kernel_rfl) (by simp) ?_
            refine AllReady.cons (o := ?oo18) ?hi18 (fun K hK => ?hs18) ?hm18
            case hi18 => (simp only [List.getElem?_toArray, List.getElem?_cons_succ, List.getElem?_cons_zero]; rfl)
            · go_simp
              refine hK _ _ ?_; clear hK K
              try simp only [Act.put, List.setIfInBounds_toArray, List.set_cons_zero, List.set_cons_succ]
              refine wpAny_done (by kernel_rfl) ?_ _
              go_wp2_with fail
              go_ret2
              exact HF.out
            exact AllReady.nil
          exact AllReady.nil
        exact AllReady.nil
  · have HNR := Lib.hid (newReader_out hsw (by omega) (t : Int) (.inr (by omega)))
    have HF : Hid (LowV w g B L c W (.returned (.tuple #[.slice none 0 0, .bool false])) w) := Lib.hid (.inr ⟨by rw [ht]; exact hfit, rfl, rfl⟩)
    clear hb hs hsw ht hfit
    go_enter Try.func45, Try.ntmps45
    go_wp2_with fail
    refine HNR.out.mono ?_
    rintro e w' ⟨rfl, rfl⟩
    go_wp2_with fail
    go_ret2
    exact HF.out
end Go.Proofs.Ytbfnkmibbieijaa
