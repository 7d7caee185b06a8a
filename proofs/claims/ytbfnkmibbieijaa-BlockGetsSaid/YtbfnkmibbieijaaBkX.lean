/-
  WALKS over the reference of package block: Unpack.
-/
import Derived.Test.YtbfnkmibbieijaaBkW
import Derived.Test.YtbfnkmibbieijaaBkR
import Derived.Test.YtbfnkmibbieijaaBiG
import Derived.Test.YtbfnkmibbieijaaBjD
namespace Go.Proofs.Ytbfnkmibbieijaa
open Go.RowKit Go.Shelf Go.Lib
set_option linter.unusedVariables false
set_option linter.unusedSimpArgs false

theorem slice_lhB (A : Option Addr) (n cap lo hi : Nat) (h1 : lo ≤ hi) (h2 : hi ≤ n) (hn : n ≤ cap) (w : World) : (Instr.slice 71 (.slice A n cap) (some (.int .i64 (lo : Int))) (some (.int .i64 (hi : Int))) none).run Try.prog w = .ok (sliced A lo hi cap 1) w := by
  rw [run_slice_lh w 71 _ _ _ (by kernel_rfl) .i64 .i64 lo hi (by omega) (by omega) (by omega)]
  have hz1 : (sizeOf (Try.prog.elem 71)).run Try.prog w = .ok 1 w := by kernel_rfl
  rw [hz1]
  simp [Result.andThen]
theorem seesC_part {w : World} {B n cap lo hi : Nat} {A : Option Addr} {xs : List Value} (h : SeesC w B (.slice A n cap) xs) (hn : xs.length = n) (h1 : lo ≤ hi) (h2 : hi ≤ n) : SeesC w B (sliced A lo hi cap 1) ((xs.take hi).drop lo) := by
  have hl : ((xs.take hi).drop lo).length = hi - lo := by rw [List.length_drop, List.length_take, hn, Nat.min_eq_left h2]
  by_cases h0 : lo = hi
  · subst h0
    have hd : (xs.take lo).drop lo = [] := List.drop_eq_nil_of_le (by rw [List.length_take]; omega)
    rw [hd]
    rcases h with ⟨rfl, h3⟩ | ⟨ad, cap', h3, hc, hb, hj⟩
    · cases h3
      have : lo = 0 := by simp at hn; omega
      subst this
      exact .inl ⟨rfl, by simp [sliced]⟩
    · cases h3
      refine .inr ⟨if cap = lo then ad else ad.add (lo * 1), cap - lo, ?_, Nat.zero_le _, fun h => absurd h (by simp), fun j u hu => by simp at hu⟩
      unfold sliced
      rw [Nat.sub_self]
      split <;> rfl
  · rcases h with ⟨rfl, h3⟩ | ⟨ad, cap', h3, hc, hb, hj⟩
    · simp at hn; omega
    · cases h3
      have h0j := hj 0 _ (List.getElem?_eq_getElem (by omega))
      have e := plain_cell (by simpa [Addr.add] using h0j)
      obtain ⟨bk, of, sp⟩ := ad
      have hsp : sp = none := congrArg Addr.spot e
      subst hsp
      have ha : ∀ o m : Nat, (⟨bk, o, none⟩ : Addr).add m = ⟨bk, o + m, none⟩ := fun o m => by unfold Addr.add; split <;> simp_all
      unfold sliced
      rw [if_neg (by omega)]
      refine .inr ⟨⟨bk, of + lo, none⟩, cap - lo, ?_, by rw [hl]; omega, fun _ => hb (by omega), fun j u hu => ?_⟩
      · rw [hl, Option.map_some, ha, Nat.mul_one]
      · rw [List.getElem?_drop] at hu
        have hjl : lo + j < hi := by
          have := (List.getElem?_eq_some_iff.1 hu).1
          rw [List.length_take] at this
          omega
        rw [List.getElem?_take, if_pos hjl] at hu
        rw [ha, Nat.add_assoc]
        have := hj (lo + j) u hu
        rw [ha] at this
        exact this
theorem part_bits (l : List Bool) (i W : Nat) : ((boolCells l).take ((i + 1) * W)).drop (i * W) = boolCells ((l.drop (i * W)).take W) := by
  have e1 : (i + 1) * W - i * W = W := by rw [Nat.add_mul, Nat.one_mul]; omega
  unfold boolCells
  rw [List.drop_take, e1, List.map_take, List.map_drop]
theorem numL_takeS {bs : List Bool} {j : Nat} {b : Bool} (h : bs[j]? = some b) : numL (bs.take (j + 1)) = 2 * numL (bs.take j) + b.toNat := by
  rw [List.take_add_one, h]
  exact numL_snoc b _
theorem fillB_at {l : List Nat} {c i : Nat} (hl : l.length = c) (hi : i < c) : (fillB l c i)[i]? = some 0 := by
  unfold fillB
  have hlt : (l.take i).length = i := by rw [List.length_take]; omega
  rw [List.getElem?_append_right (by omega), hlt, Nat.sub_self, List.getElem?_replicate, if_pos (by omega)]
theorem fillB_zero {l : List Nat} {c i : Nat} (hl : l.length = c) (hi : i < c) : (fillB l c i).set i 0 = fillB l c i := by
  refine List.ext_getElem? fun j => ?_
  rw [List.getElem?_set]
  by_cases h : i = j
  · subst h
    rw [if_pos rfl, fillB_at hl hi, if_pos (by rw [fillB_len hl (Nat.le_of_lt hi)]; exact hi)]
  · rw [if_neg h]
/-- Between two exceptions. -/
structure RxAt (w w4 : World) (R : Option (List Nat)) (c W E k a : Nat) (vals : List Nat) (Lr : List UInt8) (vr : Value) (wr : World) : Prop where
  bl : Below w4.heap.size w4 wr
  ro : wr.heap[w4.heap.size]? = some (.cells (intRow (castB vals)) 3 (0, 0))
  vl : vals.length = c
  vb : ∀ v ∈ vals, v < 9223372036854775808
  se : Sees wr w.heap.size vr Lr
  ln : Lr.length ≤ 12500
  al : a ≤ c
  e : exG (og2 c) (oh2 W) W (E - k) a vals Lr = R
/-- Between two numbers whose lowest bits are read. -/
def NsAt (w4 : World) (l : List Nat) (c i : Nat) (wr : World) : Prop := Below w4.heap.size w4 wr ∧ wr.heap[w4.heap.size]? = some (.cells (intRow (castB (fillB l c i))) 3 (0, 0))
def NjAt (w4 : World) (l : List Nat) (c i x : Nat) (wr : World) : Prop := Below w4.heap.size w4 wr ∧ wr.heap[w4.heap.size]? = some (.cells (intRow (castB ((fillB l c i).set i x))) 3 (0, 0))
theorem NjAt.put {w4 : World} {l : List Nat} {c i x : Nat} {wr : World} (h : NjAt w4 l c i x wr) (y : Nat) : NjAt w4 l c i y (wr.setCell ⟨w4.heap.size, i, none⟩ (.int .i64 (y : Int))) := by
  have h1 := set_of h.2 (i := i) (.int .i64 (y : Int))
  rw [intRow_set, castB_set, List.set_set] at h1
  exact ⟨h.1.setCell (p := ⟨w4.heap.size, i, none⟩) (Nat.le_refl _) _, h1⟩
theorem NjAt.cell {w4 : World} {l : List Nat} {c i x : Nat} {wr : World} (h : NjAt w4 l c i x wr) (hl : l.length = c) (hi : i < c) : wr.cell? ⟨w4.heap.size, i, none⟩ = some (.int .i64 (x : Int)) ∧ wr.frozen? ⟨w4.heap.size, i, none⟩ = false :=
  ⟨cell_of h.2 (intRow_at (castB_at (by rw [List.getElem?_set, if_pos rfl, if_pos (by rw [fillB_len hl (Nat.le_of_lt hi)]; exact hi)]))), frozen_of h.2⟩
theorem lt_of_cellX {w : World} {a : Addr} {v : Value} (h : w.cell? a = some v) : a.block < w.heap.size := by
  rcases Nat.lt_or_ge a.block w.heap.size with hlt | hge
  · exact hlt
  · unfold World.cell? at h
    rw [Array.getElem?_eq_none hge] at h
    cases h
def RunV (w : World) (o : Option (List Nat)) (e : Ending) (w' : World) : Prop :=
  Below w.heap.size w w' ∧ ((∃ vs, o = some vs ∧ ok31 vs ∧ ∃ v, e = .returned (.tuple #[v, .bool true]) ∧ Rows 1 EInt w' v (castB vs)) ∨ (o = none ∧ e = .returned (.tuple #[.slice none 0 0, .bool false])))
/-- What is left behind the first k numbers. -/
def rsK (L : List UInt8) : Nat → List UInt8
  | 0 => L
  | k + 1 => (rsK L k).drop (tk (rsK L k) 0 0).2.1
def arK (L : List UInt8) (k : Nat) : List Value := (List.range 3).map fun i => Value.int .u64 (((if i < k then (tk (rsK L i) 0 0).1 else 0) : Nat) : Int)
theorem arK_cell (L : List UInt8) (k i : Nat) (hi : i < 3) : (arK L k).toArray[i]? = some (.int .u64 (((if i < k then (tk (rsK L i) 0 0).1 else 0) : Nat) : Int)) := by simp [arK, hi]
theorem arK_set (L : List UInt8) (k : Nat) : (arK L k).toArray.setIfInBounds k (.int .u64 (((tk (rsK L k) 0 0).1 : Nat) : Int)) = (arK L (k + 1)).toArray := by
  apply Array.ext
  · simp [arK]
  · intro i h1 h2
    have hi : i < 3 := by simpa [arK] using h2
    rw [Array.getElem_setIfInBounds (by simpa [arK] using h2)]
    by_cases h : k = i
    · subst h
      simp [arK]
    · rw [if_neg h]
      simp only [arK, List.getElem_toArray, List.getElem_map, List.getElem_range]
      by_cases h3 : i < k
      · rw [if_pos h3, if_pos (by omega)]
      · rw [if_neg h3, if_neg (by omega)]
theorem rsK_len {L : List UInt8} : ∀ k, (rsK L k).length ≤ L.length
  | 0 => Nat.le_refl _
  | k + 1 => by
    have := rsK_len (L := L) k
    unfold rsK
    rw [List.length_drop]
    omega
theorem prs2_eq (L : List UInt8) :
    prs2 L = if (tk (rsK L 0) 0 0).2.2 = 0 ∧ (tk (rsK L 0) 0 0).1 ≤ 128 then if (tk (rsK L 1) 0 0).2.2 = 0 ∧ (tk (rsK L 1) 0 0).1 ≤ 31 then if (tk (rsK L 2) 0 0).2.2 = 0 ∧ (tk (rsK L 2) 0 0).1 ≤ 128 then
      if (tk (rsK L 0) 0 0).1 * (tk (rsK L 1) 0 0).1 ≤ 8 * (rsK L 3).length then
        exG (og2 (tk (rsK L 0) 0 0).1) (oh2 (tk (rsK L 1) 0 0).1) (tk (rsK L 1) 0 0).1 (tk (rsK L 2) 0 0).1 0 (lowsOf (rsK L 3) (tk (rsK L 0) 0 0).1 (tk (rsK L 1) 0 0).1) ((rsK L 3).drop (((tk (rsK L 0) 0 0).1 * (tk (rsK L 1) 0 0).1 + 7) / 8))
      else none else none else none else none := rfl
theorem prs2_bad {L : List UInt8} {k : Nat} (hk : k < 3) (h : ¬ ((tk (rsK L k) 0 0).2.2 = 0 ∧ (tk (rsK L k) 0 0).1 ≤ 128)) : prs2 L = none := by
  rw [prs2_eq]
  match k, hk with
  | 0, _ => rw [if_neg h]
  | 1, _ =>
    by_cases h0 : (tk (rsK L 0) 0 0).2.2 = 0 ∧ (tk (rsK L 0) 0 0).1 ≤ 128
    · rw [if_pos h0, if_neg (fun h1 => h ⟨h1.1, by omega⟩)]
    · rw [if_neg h0]
  | 2, _ =>
    by_cases h0 : (tk (rsK L 0) 0 0).2.2 = 0 ∧ (tk (rsK L 0) 0 0).1 ≤ 128
    · rw [if_pos h0]
      by_cases h1 : (tk (rsK L 1) 0 0).2.2 = 0 ∧ (tk (rsK L 1) 0 0).1 ≤ 31
      · rw [if_pos h1, if_neg h]
      · rw [if_neg h1]
    · rw [if_neg h0]
/-- Between two of the three numbers. -/
structure ThAt (w : World) (L : List UInt8) (k : Nat) (vr : Value) (wr : World) : Prop where
  bl : Below w.heap.size w wr
  ar : wr.heap[w.heap.size]? = some (.cells (arK L k).toArray 82 (0, 0))
  se : Sees wr w.heap.size vr (rsK L k)
  ok : ∀ i, i < k → (tk (rsK L i) 0 0).2.2 = 0 ∧ (tk (rsK L i) 0 0).1 ≤ 128
set_option maxRecDepth 100000 in
set_option maxHeartbeats 8000000 in
theorem refUnpackB_any {w : World} {v : Value} {L : List UInt8} (hs : Sees w w.heap.size v L) (hL : L.length ≤ 12500) :
    Calls Try.prog 22 #[v] w (RunV w (unpB (prs2 L) L)) := by
  obtain ⟨R, hR⟩ : ∃ R, prs2 L = R := ⟨_, rfl⟩
  rw [hR]
  have HR := Lib.hid hR
  have HBAD : Hid (∀ wr, Below w.heap.size w wr → R = none → RunV w (unpB R L) (.returned (.tuple #[.slice none 0 0, .bool false])) wr) := Lib.hid (fun wr hb h => ⟨hb, .inr ⟨by rw [h]; rfl, rfl⟩⟩)
  have HS := Lib.hid hs
  have HL := Lib.hid hL
  have HST0 : Hid (ThAt w L 0 v (w.alloc (.cells (arK L 0).toArray 82))) := Lib.hid ⟨below_box _ _, block_new _ _, hs.below (below_box _ _), fun i h => absurd h (Nat.not_lt_zero i)⟩
  obtain ⟨A, cap, rfl, -⟩ := hs.form2
  clear hR hs hL
  go_enter Try.func22, Try.ntmps22
  go_wp2_with fail
  go_loopw [5, 26] (fun vr0 iv wr => ∃ (vr : Value) (k : Nat), vr = vr0 ∧ k ≤ 3 ∧ iv = .int .i64 k ∧ Hid (ThAt w L k vr wr)) (fun _ iv _ => 3 - (Go.RowKit.intOf iv).toNat)
  case atStart => exact ⟨_, 0, rfl, by omega, rfl, HST0⟩
  case round =>
    clear HST0
    obtain ⟨vr, k, rfl, hk, rfl, HT⟩ := hrel
    by_cases hlt : k < 3
    · have hlti : (k : Int) < 3 := by omega
      have hrl : (rsK L k).length ≤ 12500 := Nat.le_trans (rsK_len k) HL.out
      have HTK := Lib.hid (take_any HT.out.se (by omega))
      obtain ⟨htk1, htk2⟩ := tk_fits (rsK L k) 0 0 (by omega) (by omega)
      obtain ⟨Ar, cr, rfl, hcr, -⟩ := HT.out.se.form2
      obtain ⟨n, hn⟩ : ∃ n, (rsK L k).length = n := ⟨_, rfl⟩
      obtain ⟨x, hx⟩ : ∃ x, (tk (rsK L k) 0 0).1 = x := ⟨_, rfl⟩
      obtain ⟨m, hm⟩ : ∃ x, (tk (rsK L k) 0 0).2.1 = x := ⟨_, rfl⟩
      obtain ⟨er, he⟩ : ∃ x, (tk (rsK L k) 0 0).2.2 = x := ⟨_, rfl⟩
      have hkV : tkV (tk (rsK L k) 0 0) = .tuple #[.int .u64 x, .int .i64 m, .int .i64 er] := by unfold tkV; rw [hx, hm, he]
      rw [hkV] at HTK
      rw [hn] at HTK hcr htk2 ⊢
      rw [hx] at htk1
      rw [hm] at htk2
      have HFAIL : Hid (¬ (er = 0 ∧ x ≤ 128) → R = none) := Lib.hid (fun h => by
        rw [← HR.out]
        exact prs2_bad hlt (by rw [he, hx]; exact h))
      by_cases h1 : er = 0
      · subst h1
        by_cases h2 : x ≤ 128
        · have b2 : decide ((x : Int) > 128) = false := decide_eq_false (by omega)
          have hsl := fun W' => slice_fromB Ar n cr m (by omega) hcr W'
          have hse := HT.out.se
          rw [hn] at hse
          have hfr := seesB_from hse (k := m) (by omega)
          obtain ⟨A', n', c', hu⟩ : ∃ A' n' c', sliced Ar m n cr 1 = .slice A' n' c' := ⟨_, _, _, rfl⟩
          rw [hu] at hfr
          simp only [hu] at hsl
          have hcl := arK_cell L k k hlt
          rw [if_neg (Nat.lt_irrefl k)] at hcl
          have hcell : wr.drew.cell? ⟨w.heap.size, k, none⟩ = some (.int .u64 ((0 : Nat) : Int)) := cell_of (show wr.drew.heap[w.heap.size]? = _ from HT.out.ar) hcl
          have hfz : wr.drew.frozen? ⟨w.heap.size, k, none⟩ = false := frozen_of (show wr.drew.heap[w.heap.size]? = _ from HT.out.ar)
          have HNX : Hid (ThAt w L (k + 1) (.slice A' n' c') (wr.drew.setCell ⟨w.heap.size, k, none⟩ (.int .u64 (x : Int)))) := Lib.hid (by
            have h1 := set_of (show wr.drew.heap[w.heap.size]? = _ from HT.out.ar) (i := k) (.int .u64 (x : Int))
            rw [← hx, arK_set] at h1
            refine ⟨HT.out.bl.drew.setCell (p := ⟨w.heap.size, k, none⟩) (Nat.le_refl _) _, by rw [← hx]; exact h1, ?_, fun i hi => ?_⟩
            · show Sees _ _ _ ((rsK L k).drop (tk (rsK L k) 0 0).2.1)
              rw [hm]
              exact (hfr.keep fun _ _ => rfl : Sees wr.drew _ _ _).below ((Below.refl _ _).setCell (p := ⟨w.heap.size, k, none⟩) (Nat.le_refl _) _)
            · rcases Nat.lt_or_ge i k with h | h
              · exact HT.out.ok i h
              · obtain rfl : i = k := by omega
                exact ⟨he, by rw [hx]; exact h2⟩)
          clear hkV hx hm he hn hfr hse hcl hu HFAIL HT hrl
          go_wp2_with fail
          refine HTK.out.mono ?_
          rintro e w' ⟨rfl, rfl⟩
          go_wp2_with fail
          refine wp_region_any (by kernel_rfl) ?_
          change wpAny _ _ _ _ _ _ _ (World.drew _)
          refine wpAny_take (i := 0) (oi := ?oi1) (v := ?v1) ?hi1 (by kernel_rfl) (by kernel_rfl) (by kernel_rfl) ?hq1 ?hy1 ?hr1
          case hi1 => (simp only [List.getElem?_toArray, List.getElem?_cons_zero]; rfl)
          case hq1 => exact fun _ _ _ h => h
          case hy1 => exact Or.inl ⟨by rfl, by intro w; (first | (go_simp; done) | (go_simp; with_reducible rfl))⟩
          try simp only [Act.put, List.setIfInBounds_toArray, List.set_cons_zero, List.set_cons_succ]
          refine wpAny_take (i := 1) (oi := ?oi2) (v := ?v2) ?hi2 (by kernel_rfl) (by kernel_rfl) (by kernel_rfl) ?hq2 ?hy2 ?hr2
          case hi2 => (simp only [List.getElem?_toArray, List.getElem?_cons_succ, List.getElem?_cons_zero]; rfl)
          case hq2 => exact fun _ _ _ h => h
          case hy2 => exact Or.inl ⟨by rfl, by intro w; (first | (go_simp; done) | (go_simp; with_reducible rfl))⟩
          try simp only [Act.put, List.setIfInBounds_toArray, List.set_cons_zero, List.set_cons_succ]
          refine wpAny_take (i := 2) (oi := ?oi3) (v := ?v3) ?hi3 (by kernel_rfl) (by kernel_rfl) (by kernel_rfl) ?hq3 ?hy3 ?hr3
          case hi3 => (simp only [List.getElem?_toArray, List.getElem?_cons_succ, List.getElem?_cons_zero]; rfl)
          case hq3 => exact fun _ _ _ h => h
          case hy3 => exact Or.inl ⟨by rfl, by intro w; (first | (go_simp; done) | (go_simp; with_reducible rfl))⟩
          try simp only [Act.put, List.setIfInBounds_toArray, List.set_cons_zero, List.set_cons_succ]
          refine wpAny_take (i := 3) (oi := ?oi4) (v := ?v4) ?hi4 (by kernel_rfl) (by kernel_rfl) (by kernel_rfl) ?hq4 ?hy4 ?hr4
          case hi4 => (simp only [List.getElem?_toArray, List.getElem?_cons_succ, List.getElem?_cons_zero]; rfl)
          case hq4 => exact fun _ _ _ h => h
          case hy4 => exact Or.inl ⟨by rfl, by intro w; (first | (go_simp; done) | (go_simp; with_reducible rfl))⟩
          try simp only [Act.put, List.setIfInBounds_toArray, List.set_cons_zero, List.set_cons_succ]
          refine wpAny_take (i := 4) (oi := ?oi5) (v := ?v5) ?hi5 (by kernel_rfl) (by kernel_rfl) (by kernel_rfl) ?hq5 ?hy5 ?hr5
          case hi5 => (simp only [List.getElem?_toArray, List.getElem?_cons_succ, List.getElem?_cons_zero]; rfl)
          case hq5 => exact fun _ _ _ h => h
          case hy5 => exact Or.inl ⟨by rfl, by intro w; (first | (go_simp; done) | (go_simp; with_reducible rfl))⟩
          try simp only [Act.put, List.setIfInBounds_toArray, List.set_cons_zero, List.set_cons_succ]
          refine wpAny_take (i := 5) (oi := ?oi6) (v := ?v6) ?hi6 (by kernel_rfl) (by kernel_rfl) (by kernel_rfl) ?hq6 ?hy6 ?hr6
          case hi6 => (simp only [List.getElem?_toArray, List.getElem?_cons_succ, List.getElem?_cons_zero]; rfl)
          case hq6 => exact fun _ _ _ h => h
          case hy6 => exact Or.inl ⟨by rfl, by intro w; (first | (go_simp; done) | (go_simp; with_reducible rfl))⟩
          try simp only [Act.put, List.setIfInBounds_toArray, List.set_cons_zero, List.set_cons_succ]
          refine wpAny_ready (rs := [6]) (by kernel_rfl) (by simp) ?_
          refine AllReady.cons (o := ?oo7) ?hi7 (fun K hK => ?hs7) ?hm7
          case hi7 => (simp only [List.getElem?_toArray, List.getElem?_cons_succ, List.getElem?_cons_zero]; rfl)
          · go_simp
            refine hK _ _ ?_; clear hK K
            try simp only [Act.put, List.setIfInBounds_toArray, List.set_cons_zero, List.set_cons_succ]
            refine wpAny_take (i := 7) (oi := ?oi8) (v := ?v8) ?hi8 (by kernel_rfl) (by kernel_rfl) (by kernel_rfl) ?hq8 ?hy8 ?hr8
            case hi8 => (simp only [List.getElem?_toArray, List.getElem?_cons_succ, List.getElem?_cons_zero]; rfl)
            case hq8 => exact fun _ _ _ h => h
            case hy8 => exact Or.inl ⟨by rfl, by intro w; (first | (go_simp; done) | (go_simp; with_reducible rfl))⟩
            try simp only [Act.put, List.setIfInBounds_toArray, List.set_cons_zero, List.set_cons_succ]
            refine wpAny_done (by kernel_rfl) ?_ _
            go_wp2_with fail
            exact ⟨⟨_, k + 1, rfl, by omega, by go_num, HNX⟩, by simp only [Go.RowKit.intOf]; omega⟩
          exact AllReady.nil
        · have b2 : decide ((x : Int) > 128) = true := decide_eq_true (by omega)
          have HE := Lib.hid (HBAD.out wr HT.out.bl (HFAIL.out (fun h => h2 h.2)))
          clear hkV hx hm he hn HFAIL HT HBAD hrl
          go_wp2_with fail
          refine HTK.out.mono ?_
          rintro e w' ⟨rfl, rfl⟩
          go_wp2_with fail
          go_ret2
          exact HE.out
      · have b1 : ((er : Int) != 0) = true := by simp; omega
        have b1' : ((er : Int) == 0) = false := by simp; omega
        have HE := Lib.hid (HBAD.out wr HT.out.bl (HFAIL.out (fun h => h1 h.1)))
        clear hkV hx hm he hn HFAIL HT HBAD hrl h1
        go_wp2_with fail
        refine HTK.out.mono ?_
        rintro e w' ⟨rfl, rfl⟩
        go_wp2_with fail
        go_ret2
        exact HE.out
    · obtain rfl : k = 3 := by omega
      have hlti : ¬ ((3 : Nat) : Int) < 3 := by omega
      obtain ⟨hk1, hk2⟩ := HT.out.ok 0 (by omega)
      obtain ⟨hk3, hk4⟩ := HT.out.ok 1 (by omega)
      obtain ⟨hk5, hk6⟩ := HT.out.ok 2 (by omega)
      have hprs := prs2_eq L
      rw [HR.out, if_pos ⟨hk1, hk2⟩] at hprs
      have hl3 : (rsK L 3).length ≤ 12500 := Nat.le_trans (rsK_len 3) HL.out
      have q0 : wr.cell? ⟨w.heap.size, 0, none⟩ = some (.int .u64 (((tk (rsK L 0) 0 0).1 : Nat) : Int)) := cell_of HT.out.ar (by have h := arK_cell L 3 0 (by omega); rw [if_pos (by omega)] at h; exact h)
      have q1 : wr.cell? ⟨w.heap.size, 1, none⟩ = some (.int .u64 (((tk (rsK L 1) 0 0).1 : Nat) : Int)) := cell_of HT.out.ar (by have h := arK_cell L 3 1 (by omega); rw [if_pos (by omega)] at h; exact h)
      have q2 : wr.cell? ⟨w.heap.size, 2, none⟩ = some (.int .u64 (((tk (rsK L 2) 0 0).1 : Nat) : Int)) := cell_of HT.out.ar (by have h := arK_cell L 3 2 (by omega); rw [if_pos (by omega)] at h; exact h)
      obtain ⟨c, hc⟩ : ∃ c, (tk (rsK L 0) 0 0).1 = c := ⟨_, rfl⟩
      obtain ⟨W, hW⟩ : ∃ c, (tk (rsK L 1) 0 0).1 = c := ⟨_, rfl⟩
      obtain ⟨E, hE⟩ : ∃ c, (tk (rsK L 2) 0 0).1 = c := ⟨_, rfl⟩
      obtain ⟨L3, hL3⟩ : ∃ M, rsK L 3 = M := ⟨_, rfl⟩
      rw [hc] at hk2 q0 hprs
      rw [hW] at hk4 q1 hprs
      rw [hE] at hk6 q2 hprs
      rw [hL3] at hl3 hprs
      have hse := HT.out.se
      rw [hL3] at hse
      have HSE := Lib.hid hse
      have HBL := Lib.hid HT.out.bl
      have HQ2 := Lib.hid q2
      have HP := Lib.hid hprs
      have HK3 := Lib.hid hk3
      have HK5 := Lib.hid (And.intro hk5 hk6)
      have hmul := Nat.mul_le_mul hk2 hk4
      have e1 : (c : Int) * (W : Int) = ((c * W : Nat) : Int) := (Int.natCast_mul c W).symm
      obtain ⟨t, ht⟩ : ∃ t, c * W = t := ⟨_, rfl⟩
      rw [ht] at hmul e1
      obtain ⟨z, hz⟩ : ∃ z, (t + 7) / 8 = z := ⟨_, rfl⟩
      have hzi : ((t : Int) + 7) / 8 = (z : Int) := by omega
      obtain ⟨A3, cap3, rfl, hcap3, -⟩ := hse.form2
      obtain ⟨n3, hn3⟩ : ∃ n, L3.length = n := ⟨_, rfl⟩
      rw [hn3] at hcap3 hl3 HSE ⊢
      have HN3 := Lib.hid hn3
      have HTT := Lib.hid ht
      have HZ := Lib.hid hz
      clear hc hW hE hL3 hse HT hprs hk1 hk3 hk5 ht hz hn3
      go_wp2_with fail
      go_quiet (fail)
      obtain ⟨w3, hw3⟩ : ∃ X, wr.drewN nq = X := ⟨_, rfl⟩
      rw [hw3]
      have HB3 := Lib.hid (show Below w.heap.size w w3 by rw [← hw3]; exact below_drewN HBL.out nq)
      have HSE3 := Lib.hid (show Sees w3 w.heap.size (.slice A3 n3 cap3) L3 by rw [← hw3]; exact HSE.out.keep fun _ _ => rfl)
      have HQ3 := Lib.hid (show w3.cell? ⟨w.heap.size, 2, none⟩ = some (.int .u64 (E : Int)) by rw [← hw3]; exact HQ2.out)
      have HSZ3 := Lib.hid (show w.heap.size < w3.heap.size from lt_of_cellX HQ3.out)
      clear hw3 q0 q1 q2 HSE HBL HQ2
      by_cases hW31 : W ≤ 31
      · have b1 : decide ((W : Int) > 31) = false := decide_eq_false (by omega)
        by_cases hzn : z ≤ n3
        · have b2 : decide ((z : Int) > (n3 : Int)) = false := decide_eq_false (by omega)
          have hfit : t ≤ 8 * n3 := by have := HZ.out; omega
          have hRR := HP.out
          rw [if_pos ⟨HK3.out, hW31⟩, if_pos HK5.out, if_pos (by rw [HTT.out, HN3.out]; exact hfit)] at hRR
          have HUN := Lib.hid (unpack_any (HSE3.out.mono (Nat.le_of_lt HSZ3.out)) (by rw [HN3.out]; exact hl3) t (by rw [HN3.out]; exact hfit))
          have HRR := Lib.hid hRR
          clear hRR HP
          go_wp2_with fail
          refine HUN.out.mono ?_
          rintro e w4 ⟨v4, rfl, ho4, hb4⟩
          have HSB := Lib.hid (seesC_own ho4).1
          obtain ⟨A4, cap4, hv4, hcap4, -⟩ := (seesC_own ho4).1.form
          rw [boolCells_length, unpack_len] at hv4 hcap4
          subst hv4
          have HB4 := Lib.hid (HB3.out.trans (hb4.mono HB3.out.size))
          have hsl := fun W' => slice_fromB A3 n3 cap3 z hzn hcap3 W'
          have hse4 := HSE3.out.below (hb4.mono HB3.out.size)
          have hfr := seesB_from hse4 hzn
          obtain ⟨A5, n5, c5, hu5⟩ : ∃ A' n' c', sliced A3 z n3 cap3 1 = .slice A' n' c' := ⟨_, _, _, rfl⟩
          rw [hu5] at hfr
          simp only [hu5] at hsl
          have HSE5 := Lib.hid hfr
          have HQ4 := Lib.hid ((hb4.cell (p := ⟨w.heap.size, 2, none⟩) HSZ3.out).trans HQ3.out)
          have HSZ4 := Lib.hid (Nat.lt_of_lt_of_le HSZ3.out hb4.size)
          have hmk := make_int c (by omega) w4
          have hll : (lowsOf L3 c W).length = c := lowsOf_len _ _ _
          have HST0 : Hid (NsAt w4 (lowsOf L3 c W) c 0 (w4.alloc (.cells (intRow (castB (List.replicate c 0))) 3))) := Lib.hid ⟨below_box _ _, by
            have h3 : fillB (lowsOf L3 c W) c 0 = List.replicate c 0 := by simp [fillB]
            rw [h3]
            exact block_new w4 _⟩
          clear ho4 hb4 hse4 hfr hu5 HUN
          go_wp2_with fail
          clear hmk hsl
          go_loopw [79] (fun iv wr => ∃ i : Nat, i ≤ c ∧ iv = .int .i64 i ∧ Hid (NsAt w4 (lowsOf L3 c W) c i wr)) (fun iv _ => c - (Go.RowKit.intOf iv).toNat)
          case atStart => exact ⟨0, Nat.zero_le _, rfl, HST0⟩
          case round =>
            clear HST0
            obtain ⟨i, hi, rfl, HNS⟩ := hrel
            by_cases hlt2 : i < c
            · have hlt2i : (i : Int) < (c : Int) := by omega
              have hile : (i + 1) * W ≤ t := by rw [← HTT.out]; exact Nat.mul_le_mul_right _ hlt2
              have e2 : (i : Int) * (W : Int) = ((i * W : Nat) : Int) := (Int.natCast_mul i W).symm
              have e3 : ((i : Int) + 1) * (W : Int) = (((i + 1) * W : Nat) : Int) := by rw [Int.natCast_mul]; rfl
              have hdf : (i + 1) * W - i * W = W := by rw [Nat.add_mul, Nat.one_mul]; omega
              have hlo : i * W ≤ (i + 1) * W := Nat.mul_le_mul_right _ (Nat.le_succ i)
              have hpart := seesC_part (HSB.out.below HNS.out.1) (by rw [boolCells_length, unpack_len]) hlo hile
              rw [part_bits] at hpart
              have hsl := fun W' => slice_lhB A4 t cap4 (i * W) ((i + 1) * W) hlo hile hcap4 W'
              obtain ⟨A6, c6, hu6⟩ : ∃ A' c', sliced A4 (i * W) ((i + 1) * W) cap4 1 = .slice A' W c' := ⟨_, _, by unfold sliced; rw [hdf]⟩
              rw [hu6] at hpart
              simp only [hu6] at hsl
              have hbl : (((unpack L3 t).drop (i * W)).take W).length = W := by
                rw [List.length_take, List.length_drop, unpack_len]
                omega
              have hat := lowsOf_at L3 (W := W) hlt2
              rw [HTT.out] at hat
              obtain ⟨bs, hbs⟩ : ∃ bs, ((unpack L3 t).drop (i * W)).take W = bs := ⟨_, rfl⟩
              rw [hbs] at hpart hbl hat
              obtain ⟨lo, hlo2⟩ : ∃ lo, i * W = lo := ⟨_, rfl⟩
              obtain ⟨hi2, hhi2⟩ : ∃ lo, (i + 1) * W = lo := ⟨_, rfl⟩
              rw [hlo2] at e2 hlo
              rw [hhi2] at e3 hile hlo
              simp only [hlo2, hhi2] at hsl
              have HPART := Lib.hid hpart
              have HBLN := Lib.hid hbl
              have HATL := Lib.hid hat
              have HDNS := Lib.hid HNS.out.1
              have HJ0 : Hid (NjAt w4 (lowsOf L3 c W) c i (numL (bs.take 0)) wr) := Lib.hid ⟨HNS.out.1, by
                rw [List.take_zero, show numL [] = 0 from rfl, fillB_zero hll hlt2]
                exact HNS.out.2⟩
              have HPW := Lib.hid (show ∀ W', Below w4.heap.size w4 W' → SeesC W' w4.heap.size (.slice A6 W c6) (boolCells bs) from fun W' hb => by
                have h := seesC_part (HSB.out.below hb) (by rw [boolCells_length, unpack_len]) (show i * W ≤ (i + 1) * W from Nat.mul_le_mul_right _ (Nat.le_succ i)) (show (i + 1) * W ≤ t by rw [← HTT.out]; exact Nat.mul_le_mul_right _ hlt2)
                rw [part_bits, hu6, hbs] at h
                exact h)
              have hW31n : W ≤ 31 := hW31
              clear hpart hbs hat hdf hhi2 hlo2 HNS hbl hu6
              go_wp2_with fail
              go_loopw [92] (fun jv wx => ∃ j : Nat, j ≤ W ∧ jv = .int .i64 j ∧ Hid (NjAt w4 (lowsOf L3 c W) c i (numL (bs.take j)) wx)) (fun jv _ => W - (Go.RowKit.intOf jv).toNat)
              case atStart => exact ⟨0, Nat.zero_le _, rfl, HJ0⟩
              case round =>
                clear HJ0
                obtain ⟨j, hj, rfl, HNJ⟩ := hrel
                by_cases hlt3 : j < W
                · have hlt3i : (j : Int) < (W : Int) := by omega
                  obtain ⟨b, hb⟩ : ∃ b, bs[j]? = some b := ⟨_, List.getElem?_eq_getElem (by rw [HBLN.out]; exact hlt3)⟩
                  obtain ⟨Ax, capx, hex, -, hpos⟩ := (HPW.out wr HNJ.out.1).form
                  rw [boolCells_length, HBLN.out] at hex hpos
                  cases hex
                  obtain ⟨b6, o6, rfl, -, hjj⟩ := hpos (by omega)
                  have u0 := hjj j (.bool b) (by unfold boolCells; rw [List.getElem?_map, hb]; rfl)
                  obtain ⟨hc1, hf1⟩ := HNJ.out.cell hll hlt2
                  have hnx := numL_takeS hb
                  have hxb := numL_le (bs.take j) 31 (by rw [List.length_take]; omega)
                  have h32 : (2 : Nat) ^ 31 = 2147483648 := by decide
                  rw [h32] at hxb
                  obtain ⟨x, hx⟩ : ∃ x, numL (bs.take j) = x := ⟨_, rfl⟩
                  rw [hx] at hc1 hnx hxb
                  obtain ⟨y, hy⟩ : ∃ y, 2 * x = y := ⟨_, rfl⟩
                  rw [hy] at hnx
                  have m1 : (x : Int) * 2 = (y : Int) := by omega
                  have hput := HNJ.out.put y
                  obtain ⟨hc2, hf2⟩ := hput.cell hll hlt2
                  have hput2 := hput.put (y + 1)
                  have m2 : (y : Int) + 1 = ((y + 1 : Nat) : Int) := by omega
                  have HPU := Lib.hid hput
                  have HPU2 := Lib.hid hput2
                  cases b
                  · have HNX : Hid (NjAt w4 (lowsOf L3 c W) c i (numL (bs.take (j + 1))) (wr.setCell ⟨w4.heap.size, i, none⟩ (.int .i64 (y : Int)))) := Lib.hid (by rw [hnx]; exact HPU.out)
                    clear hjj hb hpos hx hy hnx hput hput2 HPU HPU2 HNJ h32 m2
                    go_wp2_with fail
                    exact ⟨⟨j + 1, by omega, by go_num, HNX⟩, by simp only [Go.RowKit.intOf]; omega⟩
                  · have HNX : Hid (NjAt w4 (lowsOf L3 c W) c i (numL (bs.take (j + 1))) ((wr.setCell ⟨w4.heap.size, i, none⟩ (.int .i64 (y : Int))).setCell ⟨w4.heap.size, i, none⟩ (.int .i64 ((y + 1 : Nat) : Int)))) := Lib.hid (by rw [hnx]; exact HPU2.out)
                    obtain ⟨y1, hy1⟩ : ∃ y1, y + 1 = y1 := ⟨_, rfl⟩
                    rw [hy1] at m2 HNX
                    clear hjj hb hpos hx hy hnx hput hput2 HPU HPU2 HNJ h32 hy1
                    go_wp2_with fail
                    exact ⟨⟨j + 1, by omega, by go_num, HNX⟩, by simp only [Go.RowKit.intOf]; omega⟩
                · obtain rfl : j = W := by omega
                  have hlt3i : ¬ (j : Int) < (j : Int) := by omega
                  have HNX : Hid (NsAt w4 (lowsOf L3 c j) c (i + 1) wr) := Lib.hid (by
                    have h := HNJ.out
                    rw [List.take_of_length_le (by rw [HBLN.out]; exact Nat.le_refl _)] at h
                    obtain ⟨g1, g2⟩ := h
                    rw [fillB_set hll HATL.out] at g2
                    exact ⟨g1, g2⟩)
                  clear HNJ HPW
                  go_wp2_with fail
                  exact ⟨⟨i + 1, by omega, by go_num, HNX⟩, by simp only [Go.RowKit.intOf]; omega⟩
            · obtain rfl : c = i := by omega
              have hlt2i : ¬ (c : Int) < (c : Int) := by omega
              have HST1 : Hid (RxAt w w4 R c W E 0 0 (lowsOf L3 c W) (L3.drop z) (.slice A5 n5 c5) wr) := Lib.hid (by
                obtain ⟨g1, g2⟩ := HNS.out
                have hfe : fillB (lowsOf L3 c W) c c = lowsOf L3 c W := by
                  unfold fillB
                  rw [Nat.sub_self, List.replicate_zero, List.append_nil, List.take_of_length_le (by rw [lowsOf_len]; exact Nat.le_refl _)]
                rw [hfe] at g2
                refine ⟨g1, g2, hll, fun v hv => ?_, HSE5.out.below (g1.mono (Nat.le_of_lt HSZ4.out)), ?_, Nat.zero_le _, ?_⟩
                · have := lowsOf_lt L3 hW31 v hv
                  omega
                · rw [List.length_drop, HN3.out]; omega
                · rw [HRR.out, HTT.out, HZ.out, Nat.sub_zero])
              clear HNS HRR HSB HSE5 HSE3 HQ3
              go_wp2_with fail
              go_loopw [5, 18, 19] (fun vr0 av kv wr => ∃ (vr : Value) (k a : Nat) (vals : List Nat) (Lr : List UInt8), vr = vr0 ∧ k ≤ E ∧ av = .int .i64 ((a : Int) - 1) ∧ kv = .int .u64 k ∧ Hid (RxAt w w4 R c W E k a vals Lr vr wr)) (fun _ _ kv _ => E - (Go.RowKit.intOf kv).toNat)
              case atStart => exact ⟨_, 0, 0, _, _, rfl, Nat.zero_le _, rfl, rfl, HST1⟩
              case round =>
                clear HST1
                obtain ⟨vr, k, a, vals, Lr, rfl, hk, rfl, rfl, HX⟩ := hrel
                have hac := HX.out.al
                have q2 : wr.cell? ⟨w.heap.size, 2, none⟩ = some (.int .u64 (E : Int)) := (HX.out.bl.cell (p := ⟨w.heap.size, 2, none⟩) HSZ4.out).trans HQ4.out
                have HBX := Lib.hid (show Below w.heap.size w wr from HB4.out.trans (HX.out.bl.mono HB4.out.size))
                by_cases hlt : k < E
                · have hlti : (k : Int) < (E : Int) := by omega
                  obtain ⟨x, n, e, ht1⟩ : ∃ c n e, tk Lr 0 0 = (c, n, e) := ⟨_, _, _, rfl⟩
                  obtain ⟨Lr1, hLr1⟩ : ∃ M, Lr.drop n = M := ⟨_, rfl⟩
                  obtain ⟨y, m, f, ht2⟩ : ∃ c n e, tk Lr1 0 0 = (c, n, e) := ⟨_, _, _, rfl⟩
                  obtain ⟨Lr2, hLr2⟩ : ∃ M, Lr1.drop m = M := ⟨_, rfl⟩
                  have hst := exG_step (og := og2 c) (oh := oh2 W) (W := W) (k := E - (k + 1)) (a := a) (vals := vals) ht1 hLr1 ht2 hLr2
                  rw [show E - (k + 1) + 1 = E - k by omega, HX.out.e] at hst
                  have HSTP := Lib.hid hst
                  have hln := HX.out.ln
                  have hll1 : Lr1.length = Lr.length - n := by rw [← hLr1, List.length_drop]
                  have hln1 : Lr1.length ≤ 12500 := by omega
                  obtain ⟨htx, htn⟩ := tk_fits Lr 0 0 (by omega) (by omega)
                  obtain ⟨hty, htm⟩ := tk_fits Lr1 0 0 (by omega) (by omega)
                  rw [ht1] at htx htn
                  rw [ht2] at hty htm
                  simp only at htx htn hty htm
                  have HTA := Lib.hid (take_any HX.out.se (by omega))
                  rw [ht1] at HTA
                  have hse := HX.out.se
                  obtain ⟨Ar, cr, rfl, hcr, -⟩ := HX.out.se.form2
                  obtain ⟨nr, hnr⟩ : ∃ n, Lr.length = n := ⟨_, rfl⟩
                  rw [hnr] at HTA hcr htn hll1 hse hln ⊢
                  have hsl1 := fun W' => slice_fromB Ar nr cr n (by omega) hcr W'
                  have hfr1 := seesB_from hse (k := n) (by omega)
                  rw [hLr1] at hfr1
                  obtain ⟨A6, n6, c6, hu6⟩ : ∃ A' n' c', sliced Ar n nr cr 1 = .slice A' n' c' := ⟨_, _, _, rfl⟩
                  rw [hu6] at hfr1
                  simp only [hu6] at hsl1
                  have HTB := Lib.hid (take_any hfr1 (by omega))
                  rw [ht2] at HTB
                  have HNR := Lib.hid hnr
                  have HL1 := Lib.hid hLr1
                  have HL2 := Lib.hid hLr2
                  have HSE := Lib.hid hse
                  clear hst ht1 ht2 hLr1 hLr2 hfr1 hu6 hse hnr
                  unfold tkV at HTA HTB
                  simp only at HTA HTB
                  by_cases he : e = 0
                  · subst he
                    by_cases hf : f = 0
                    · subst hf
                      by_cases hx : x ≤ 128
                      · have b2 : decide ((x : Int) > 128) = false := decide_eq_false (by omega)
                        by_cases hq1 : c < a + x
                        · have b3 : decide ((a : Int) - 1 + (x : Int) ≥ (c : Int)) = true := decide_eq_true (by omega)
                          have b3' : (c : Int) ≤ (a : Int) - 1 + (x : Int) := by omega
                          have hRn : R = none := by rw [HSTP.out, if_neg (fun h => by have := of_decide_eq_true h.2; omega)]
                          have HE := Lib.hid (HBAD.out wr HBX.out hRn)
                          clear HBAD hRn HSTP
                          go_wp2_with fail
                          refine HTA.out.mono ?_
                          rintro er w' ⟨rfl, rfl⟩
                          go_wp2_with fail
                          refine HTB.out.mono ?_
                          rintro er w' ⟨rfl, rfl⟩
                          go_wp2_with fail
                          go_ret2
                          exact HE.out
                        · by_cases hq2 : a + x = 0
                          · obtain rfl : a = 0 := by omega
                            obtain rfl : x = 0 := by omega
                            have hRn : R = none := by rw [HSTP.out, if_neg (fun h => by have := of_decide_eq_true h.2; omega)]
                            have HE := Lib.hid (HBAD.out wr HBX.out hRn)
                            have b3' : ¬ (c : Int) ≤ -1 := by omega
                            clear HBAD hRn HSTP
                            go_wp2_with fail
                            refine HTA.out.mono ?_
                            rintro er w' ⟨rfl, rfl⟩
                            go_wp2_with fail
                            refine HTB.out.mono ?_
                            rintro er w' ⟨rfl, rfl⟩
                            go_wp2_with fail
                            go_ret2
                            exact HE.out
                          · obtain ⟨p, hp⟩ : ∃ p, a + x - 1 = p := ⟨_, rfl⟩
                            have m2 : (a : Int) - 1 + (x : Int) = (p : Int) := by omega
                            have hpc : p < c := by omega
                            have b3 : decide ((p : Int) ≥ (c : Int)) = false := decide_eq_false (by omega)
                            have b4 : decide ((p : Int) < 0) = false := decide_eq_false (by omega)
                            have hog : og2 c a x = true := decide_eq_true (by omega)
                            by_cases hyb : y ≤ 2147483648
                            · have b5 : decide ((y : Int) > 2147483648) = false := decide_eq_false (by omega)
                              have hoh : oh2 W y = true := decide_eq_true hyb
                              have hst := HSTP.out
                              rw [if_pos ⟨by trivial, hog⟩, if_pos ⟨by trivial, hoh⟩, hp] at hst
                              obtain ⟨z2, hz2⟩ : ∃ z, y * 2 ^ W = z := ⟨_, rfl⟩
                              have hzb : z2 ≤ 4611686018427387904 := by
                                rw [← hz2]
                                have h1 : 2 ^ W ≤ 2 ^ 31 := Nat.pow_le_pow_right (by omega) hW31
                                have h2 : y * 2 ^ W ≤ 2147483648 * 2 ^ 31 := Nat.mul_le_mul hyb h1
                                have h3 : (2147483648 : Nat) * 2 ^ 31 = 4611686018427387904 := by decide
                                omega
                              have m3 : (y : Int) * 2 ^ W = (z2 : Int) := by rw [← hz2]; simp
                              obtain ⟨u, hu⟩ : ∃ u, vals[p]? = some u := ⟨_, List.getElem?_eq_getElem (by rw [HX.out.vl]; exact hpc)⟩
                              have hub := HX.out.vb u (List.mem_of_getElem? hu)
                              have hgd : vals.getD p 0 = u := by rw [List.getD_eq_getElem?_getD, hu]; rfl
                              rw [hgd, hz2] at hst
                              have hor := bits_or_i64_nat u z2 hub (by omega)
                              have hrb : u ||| z2 < 9223372036854775808 := Nat.or_lt_two_pow (n := 63) (by omega) (by omega)
                              obtain ⟨r, hr⟩ : ∃ r, u ||| z2 = r := ⟨_, rfl⟩
                              rw [hr] at hor hst hrb
                              have hcell : wr.cell? ⟨w4.heap.size, p, none⟩ = some (.int .i64 (u : Int)) := cell_of HX.out.ro (intRow_at (castB_at hu))
                              have hfz : wr.frozen? ⟨w4.heap.size, p, none⟩ = false := frozen_of HX.out.ro
                              obtain ⟨s2, hs2⟩ : ∃ s, n + m = s := ⟨_, rfl⟩
                              have m4 : (n : Int) + (m : Int) = (s2 : Int) := by omega
                              have hs2b : s2 ≤ 12500 := by omega
                              have hsl2 := fun W' => slice_fromB Ar nr cr s2 (by omega) hcr W'
                              have hfr2 := seesB_from HSE.out (k := s2) (by omega)
                              obtain ⟨A7, n7, c7, hu7⟩ : ∃ A' n' c', sliced Ar s2 nr cr 1 = .slice A' n' c' := ⟨_, _, _, rfl⟩
                              rw [hu7, ← hs2, ← List.drop_drop, HL1.out, HL2.out] at hfr2
                              simp only [hu7] at hsl2
                              have hl2 : Lr2.length ≤ 12500 := by rw [← HL2.out, List.length_drop]; omega
                              have HNX : Hid (RxAt w w4 R c W E (k + 1) (a + x) (vals.set p r) Lr2 (.slice A7 n7 c7) (wr.setCell ⟨w4.heap.size, p, none⟩ (.int .i64 (r : Int)))) := Lib.hid (by
                                have h1 := set_of HX.out.ro (i := p) (.int .i64 (r : Int))
                                rw [intRow_set, castB_set] at h1
                                refine ⟨HX.out.bl.setCell (p := ⟨w4.heap.size, p, none⟩) (Nat.le_refl _) _, h1, by rw [List.length_set]; exact HX.out.vl, fun v hv => ?_, hfr2.below ((Below.refl _ _).setCell (p := ⟨w4.heap.size, p, none⟩) (Nat.le_of_lt HSZ4.out) _), hl2, by omega, hst.symm⟩
                                rcases List.mem_or_eq_of_mem_set hv with h2 | h2
                                · exact HX.out.vb v h2
                                · rw [h2]; exact hrb)
                              have HNT := Lib.hid (show (Value.int .i64 (p : Int)) = .int .i64 (((a + x : Nat) : Int) - 1) from congrArg (Value.int .i64) (by omega))
                              clear hoh hog hst hp hz2 hu hgd hr hs2 hfr2 hu7 HX HSTP HBAD
                              go_wp2_with fail
                              refine HTA.out.mono ?_
                              rintro er w' ⟨rfl, rfl⟩
                              go_wp2_with fail
                              refine HTB.out.mono ?_
                              rintro er w' ⟨rfl, rfl⟩
                              go_wp2_with fail
                              exact ⟨⟨_, k + 1, a + x, vals.set p r, Lr2, rfl, by omega, HNT.out, by go_num, by first | exact HNX | (rw [hor]; exact HNX)⟩, by simp only [Go.RowKit.intOf]; omega⟩
                            · have b5 : decide ((y : Int) > 2147483648) = true := decide_eq_true (by omega)
                              have hRn : R = none := by rw [HSTP.out, if_pos ⟨by trivial, hog⟩, if_neg (fun h => hyb (of_decide_eq_true h.2))]
                              have HE := Lib.hid (HBAD.out wr HBX.out hRn)
                              clear HBAD hRn HSTP hog
                              go_wp2_with fail
                              refine HTA.out.mono ?_
                              rintro er w' ⟨rfl, rfl⟩
                              go_wp2_with fail
                              refine HTB.out.mono ?_
                              rintro er w' ⟨rfl, rfl⟩
                              go_wp2_with fail
                              go_ret2
                              exact HE.out
                      · have b2 : decide ((x : Int) > 128) = true := decide_eq_true (by omega)
                        have hRn : R = none := by rw [HSTP.out, if_neg (fun h => by have := of_decide_eq_true h.2; omega)]
                        have HE := Lib.hid (HBAD.out wr HBX.out hRn)
                        clear HBAD hRn HSTP
                        go_wp2_with fail
                        refine HTA.out.mono ?_
                        rintro er w' ⟨rfl, rfl⟩
                        go_wp2_with fail
                        refine HTB.out.mono ?_
                        rintro er w' ⟨rfl, rfl⟩
                        go_wp2_with fail
                        go_ret2
                        exact HE.out
                    · have b1 : ((f : Int) != 0) = true := by simp; omega
                      have b1' : ((f : Int) == 0) = false := by simp; omega
                      have hRn : R = none := by
                        rw [HSTP.out]
                        split
                        · rw [if_neg (fun h => hf h.1)]
                        · rfl
                      have HE := Lib.hid (HBAD.out wr HBX.out hRn)
                      clear HBAD hRn HSTP hf
                      go_wp2_with fail
                      refine HTA.out.mono ?_
                      rintro er w' ⟨rfl, rfl⟩
                      go_wp2_with fail
                      refine HTB.out.mono ?_
                      rintro er w' ⟨rfl, rfl⟩
                      go_wp2_with fail
                      go_ret2
                      exact HE.out
                  · have b1 : ((e : Int) != 0) = true := by simp; omega
                    have b1' : ((e : Int) == 0) = false := by simp; omega
                    have hRn : R = none := by rw [HSTP.out, if_neg (fun h => he h.1)]
                    have HE := Lib.hid (HBAD.out wr HBX.out hRn)
                    clear HBAD hRn HSTP he
                    go_wp2_with fail
                    refine HTA.out.mono ?_
                    rintro er w' ⟨rfl, rfl⟩
                    go_wp2_with fail
                    go_ret2
                    exact HE.out
                · obtain rfl : E = k := by omega
                  have hlti : ¬ (E : Int) < (E : Int) := by omega
                  have hR := HX.out.e
                  rw [Nat.sub_self] at hR
                  have hvl := HX.out.vl
                  have hrow : Rows 1 EInt wr.drew (.slice (some ⟨w4.heap.size, 0, none⟩) c c) (castB vals) := block_rowsB (castB vals) (show wr.drew.heap[w4.heap.size]? = _ from HX.out.ro) (by simp [intRow]) (by rw [castB_len]; exact hvl) (by unfold maxLen; omega)
                  have HCK := Lib.hid (refCheckB_any hrow (by rw [castB_len, hvl]; unfold maxLen; omega))
                  have HBD := Lib.hid (HBX.out.drew)
                  have hcl : ∀ (W : World) (B : Nat) (V : Value), Sees W B V L → (convert 23 9 V).run Try.prog W = .ok (.string ⟨L.toArray⟩) W := fun _ _ _ h => h.convert
                  obtain ⟨sy, hsy⟩ : ∃ y, (⟨L.toArray⟩ : ByteArray) = y := ⟨_, rfl⟩
                  rw [hsy] at hcl
                  have hsl0 : Sees wr.drew w.heap.size (.slice A L.length cap) L := (HS.out.below HBX.out).keep fun _ _ => rfl
                  have hk0 := hcl _ _ _ hsl0
                  have HCL := Lib.hid hcl
                  have HSL := Lib.hid (hsl0.mono HBD.out.size)
                  have HR : Hid (R = some vals) := Lib.hid hR.symm
                  have HRW := Lib.hid hrow
                  by_cases hz : chkB (castB vals) = 0
                  · have hok : ok31 vals := by
                      have h := (chk_ok hz).2
                      rw [natB_cast] at h
                      exact h
                    have HRP := Lib.hid (refPackB_any hrow hok)
                    obtain ⟨P, hP⟩ : ∃ P, blkB vals (wid vals) = P := ⟨_, rfl⟩
                    rw [hP] at HRP
                    rw [hz] at HCK
                    have hcp : ∀ (W : World) (B : Nat) (V : Value), Sees W B V P → (convert 23 9 V).run Try.prog W = .ok (.string ⟨P.toArray⟩) W := fun _ _ _ h => h.convert
                    obtain ⟨sx, hsx⟩ : ∃ y, (⟨P.toArray⟩ : ByteArray) = y := ⟨_, rfl⟩
                    rw [hsx] at hcp
                    have HCP := Lib.hid hcp
                    have hbq := bytesB_beq P L
                    rw [hsx, hsy] at hbq
                    have HOK := Lib.hid hok
                    have HPP := Lib.hid hP
                    by_cases hPL : P = L
                    · rw [decide_eq_true hPL] at hbq
                      have HE : Hid (∀ w7, Below wr.drew.heap.size wr.drew w7 → RunV w (unpB R L) (.returned (.tuple #[.slice (some ⟨w4.heap.size, 0, none⟩) c c, .bool true])) w7) := Lib.hid (fun w7 hb => ⟨HBD.out.trans (hb.mono HBD.out.size), .inl ⟨vals, by rw [HR.out]; unfold unpB; simp only; rw [if_pos ⟨HOK.out, HPP.out.trans hPL⟩], HOK.out, _, rfl, HRW.out.below stays_int hb⟩⟩)
                      clear hR hok hrow hz hP hcp hsx hPL hcl hsy hsl0 HBAD HX hvl hac hlt
                      go_wp2_with fail
                      refine wp_region_any (by kernel_rfl) ?_
                      change wpAny _ _ _ _ _ _ _ (World.drew _)
                      refine wpAny_take (i := 0) (oi := ?oi1001) (v := ?v1001) ?hi1001 (by kernel_rfl) (by kernel_rfl) (by kernel_rfl) ?hq1001 ?hy1001 ?hr1001
                      case hi1001 => (simp only [List.getElem?_toArray, List.getElem?_cons_zero]; rfl)
                      case hq1001 => exact fun _ _ _ h => h
                      case hy1001 => exact Or.inl ⟨by rfl, by intro w; (first | (go_simp; done) | (go_simp; with_reducible rfl))⟩
                      try simp only [Act.put, List.setIfInBounds_toArray, List.set_cons_zero, List.set_cons_succ]
                      refine wpAny_ready (rs := [1]) (by kernel_rfl) (by simp) ?_
                      refine AllReady.cons (o := ?oo1002) ?hi1002 (fun K hK => ?hs1002) ?hm1002
                      case hi1002 => (simp only [List.getElem?_toArray, List.getElem?_cons_succ, List.getElem?_cons_zero]; rfl)
                      · go_simp
                        refine HCK.out.mono ?_
                        rintro e w6 ⟨rfl, rfl⟩
                        go_wp2_with fail
                        try simp only [Act.put, List.setIfInBounds_toArray, List.set_cons_zero, List.set_cons_succ]
                        refine wpAny_take (i := 2) (oi := ?oi1003) (v := ?v1003) ?hi1003 (by kernel_rfl) (by kernel_rfl) (by kernel_rfl) ?hq1003 ?hy1003 ?hr1003
                        case hi1003 => (simp only [List.getElem?_toArray, List.getElem?_cons_succ, List.getElem?_cons_zero]; rfl)
                        case hq1003 => exact fun _ _ _ h => h
                        case hy1003 => exact Or.inl ⟨by rfl, by intro w; (first | (go_simp; done) | (go_simp; with_reducible rfl))⟩
                        try simp only [Act.put, List.setIfInBounds_toArray, List.set_cons_zero, List.set_cons_succ]
                        refine wpAny_take (i := 3) (oi := ?oi1004) (v := ?v1004) ?hi1004 (by kernel_rfl) (by kernel_rfl) (by kernel_rfl) ?hq1004 ?hy1004 ?hr1004
                        case hi1004 => (simp only [List.getElem?_toArray, List.getElem?_cons_succ, List.getElem?_cons_zero]; rfl)
                        case hq1004 => exact fun _ _ _ h => h
                        case hy1004 => exact Or.inl ⟨by rfl, by intro w; (first | (go_simp; done) | (go_simp; with_reducible rfl))⟩
                        try simp only [Act.put, List.setIfInBounds_toArray, List.set_cons_zero, List.set_cons_succ]
                        refine wpAny_take (i := 4) (oi := ?oi1005) (v := ?v1005) ?hi1005 (by kernel_rfl) (by kernel_rfl) (by kernel_rfl) ?hq1005 ?hy1005 ?hr1005
                        case hi1005 => (simp only [List.getElem?_toArray, List.getElem?_cons_succ, List.getElem?_cons_zero]; rfl)
                        case hq1005 => exact fun _ _ _ h => h
                        case hy1005 => first | exact Or.inl ⟨by rfl, by intro w; (first | (go_simp; done) | (go_simp; with_reducible rfl))⟩ | exact Or.inr ⟨by rfl, by with_reducible rfl⟩ | fail
                        try simp only [Act.put, List.setIfInBounds_toArray, List.set_cons_zero, List.set_cons_succ]
                        refine wpAny_take (i := 7) (oi := ?oi1006) (v := ?v1006) ?hi1006 (by kernel_rfl) (by kernel_rfl) (by kernel_rfl) ?hq1006 ?hy1006 ?hr1006
                        case hi1006 => (simp only [List.getElem?_toArray, List.getElem?_cons_succ, List.getElem?_cons_zero]; rfl)
                        case hq1006 => exact fun _ _ _ h => h
                        case hy1006 => first | exact Or.inl ⟨by rfl, by intro w; (first | (go_simp; done) | (go_simp; with_reducible rfl))⟩ | exact Or.inr ⟨by rfl, by with_reducible rfl⟩ | fail
                        try simp only [Act.put, List.setIfInBounds_toArray, List.set_cons_zero, List.set_cons_succ]
                        refine wpAny_ready (rs := [5, 8]) (by kernel_rfl) (by simp) ?_
                        refine AllReady.cons (o := ?oo1007) ?hi1007 (fun K hK => ?hs1007) ?hm1007
                        case hi1007 => (simp only [List.getElem?_toArray, List.getElem?_cons_succ, List.getElem?_cons_zero]; rfl)
                        · go_simp
                          refine HRP.out.mono ?_
                          rintro e w7 ⟨v7, rfl, ho7, hb7⟩
                          have hk1 := HCP.out w7 _ _ (sees_own ho7)
                          have hk2 := HCL.out w7 _ _ (HSL.out.below hb7)
                          have HE7 := Lib.hid (HE.out w7 hb7)
                          clear ho7 hb7
                          go_wp2_with fail
                          try simp only [Act.put, List.setIfInBounds_toArray, List.set_cons_zero, List.set_cons_succ]
                          refine wpAny_ready (rs := [6, 8]) (by kernel_rfl) (by simp) ?_
                          refine AllReady.cons (o := ?oo1008) ?hi1008 (fun K hK => ?hs1008) ?hm1008
                          case hi1008 => (simp only [List.getElem?_toArray, List.getElem?_cons_succ, List.getElem?_cons_zero]; rfl)
                          · go_simp
                            refine hK _ _ ?_; clear hK K
                            try simp only [Act.put, List.setIfInBounds_toArray, List.set_cons_zero, List.set_cons_succ]
                            refine wpAny_ready (rs := [8]) (by kernel_rfl) (by simp) ?_
                            refine AllReady.cons (o := ?oo1009) ?hi1009 (fun K hK => ?hs1009) ?hm1009
                            case hi1009 => (simp only [List.getElem?_toArray, List.getElem?_cons_succ, List.getElem?_cons_zero]; rfl)
                            · go_simp
                              refine hK _ _ ?_; clear hK K
                              try simp only [Act.put, List.setIfInBounds_toArray, List.set_cons_zero, List.set_cons_succ]
                              refine wpAny_take (i := 9) (oi := ?oi1010) (v := ?v1010) ?hi1010 (by kernel_rfl) (by kernel_rfl) (by kernel_rfl) ?hq1010 ?hy1010 ?hr1010
                              case hi1010 => (simp only [List.getElem?_toArray, List.getElem?_cons_succ, List.getElem?_cons_zero]; rfl)
                              case hq1010 => exact fun _ _ _ h => h
                              case hy1010 => first | exact Or.inl ⟨by rfl, by intro w; (first | (go_simp; done) | (go_simp; with_reducible rfl))⟩ | exact Or.inr ⟨by rfl, by with_reducible rfl⟩ | fail
                              try simp only [Act.put, List.setIfInBounds_toArray, List.set_cons_zero, List.set_cons_succ]
                              refine wpAny_take (i := 10) (oi := ?oi1011) (v := ?v1011) ?hi1011 (by kernel_rfl) (by kernel_rfl) (by kernel_rfl) ?hq1011 ?hy1011 ?hr1011
                              case hi1011 => (simp only [List.getElem?_toArray, List.getElem?_cons_succ, List.getElem?_cons_zero]; rfl)
                              case hq1011 => exact fun _ _ _ h => h
                              case hy1011 => exact Or.inl ⟨by rfl, by intro w; (first | (go_simp; done) | (go_simp; with_reducible rfl))⟩
                              try simp only [Act.put, List.setIfInBounds_toArray, List.set_cons_zero, List.set_cons_succ]
                              refine wpAny_done (by kernel_rfl) ?_ _
                              go_wp2_with fail
                              go_ret2
                              exact HE7.out
                            exact AllReady.nil
                          refine AllReady.cons (o := ?oo1012) ?hi1012 (fun K hK => ?hs1012) ?hm1012
                          case hi1012 => (simp only [List.getElem?_toArray, List.getElem?_cons_succ, List.getElem?_cons_zero]; rfl)
                          · go_simp
                            refine hK _ _ ?_; clear hK K
                            try simp only [Act.put, List.setIfInBounds_toArray, List.set_cons_zero, List.set_cons_succ]
                            refine wpAny_ready (rs := [6]) (by kernel_rfl) (by simp) ?_
                            refine AllReady.cons (o := ?oo1013) ?hi1013 (fun K hK => ?hs1013) ?hm1013
                            case hi1013 => (simp only [List.getElem?_toArray, List.getElem?_cons_succ, List.getElem?_cons_zero]; rfl)
                            · go_simp
                              refine hK _ _ ?_; clear hK K
                              try simp only [Act.put, List.setIfInBounds_toArray, List.set_cons_zero, List.set_cons_succ]
                              refine wpAny_take (i := 9) (oi := ?oi1014) (v := ?v1014) ?hi1014 (by kernel_rfl) (by kernel_rfl) (by kernel_rfl) ?hq1014 ?hy1014 ?hr1014
                              case hi1014 => (simp only [List.getElem?_toArray, List.getElem?_cons_succ, List.getElem?_cons_zero]; rfl)
                              case hq1014 => exact fun _ _ _ h => h
                              case hy1014 => first | exact Or.inl ⟨by rfl, by intro w; (first | (go_simp; done) | (go_simp; with_reducible rfl))⟩ | exact Or.inr ⟨by rfl, by with_reducible rfl⟩ | fail
                              try simp only [Act.put, List.setIfInBounds_toArray, List.set_cons_zero, List.set_cons_succ]
                              refine wpAny_take (i := 10) (oi := ?oi1015) (v := ?v1015) ?hi1015 (by kernel_rfl) (by kernel_rfl) (by kernel_rfl) ?hq1015 ?hy1015 ?hr1015
                              case hi1015 => (simp only [List.getElem?_toArray, List.getElem?_cons_succ, List.getElem?_cons_zero]; rfl)
                              case hq1015 => exact fun _ _ _ h => h
                              case hy1015 => exact Or.inl ⟨by rfl, by intro w; (first | (go_simp; done) | (go_simp; with_reducible rfl))⟩
                              try simp only [Act.put, List.setIfInBounds_toArray, List.set_cons_zero, List.set_cons_succ]
                              refine wpAny_done (by kernel_rfl) ?_ _
                              go_wp2_with fail
                              go_ret2
                              exact HE7.out
                            exact AllReady.nil
                          exact AllReady.nil
                        refine AllReady.cons (o := ?oo1016) ?hi1016 (fun K hK => ?hs1016) ?hm1016
                        case hi1016 => (simp only [List.getElem?_toArray, List.getElem?_cons_succ, List.getElem?_cons_zero]; rfl)
                        · go_simp
                          refine hK _ _ ?_; clear hK K
                          try simp only [Act.put, List.setIfInBounds_toArray, List.set_cons_zero, List.set_cons_succ]
                          refine wpAny_ready (rs := [5]) (by kernel_rfl) (by simp) ?_
                          refine AllReady.cons (o := ?oo1017) ?hi1017 (fun K hK => ?hs1017) ?hm1017
                          case hi1017 => (simp only [List.getElem?_toArray, List.getElem?_cons_succ, List.getElem?_cons_zero]; rfl)
                          · go_simp
                            refine HRP.out.mono ?_
                            rintro e w7 ⟨v7, rfl, ho7, hb7⟩
                            have hk1 := HCP.out w7 _ _ (sees_own ho7)
                            have hk2 := HCL.out w7 _ _ (HSL.out.below hb7)
                            have HE7 := Lib.hid (HE.out w7 hb7)
                            clear ho7 hb7
                            go_wp2_with fail
                            try simp only [Act.put, List.setIfInBounds_toArray, List.set_cons_zero, List.set_cons_succ]
                            refine wpAny_ready (rs := [6]) (by kernel_rfl) (by simp) ?_
                            refine AllReady.cons (o := ?oo1018) ?hi1018 (fun K hK => ?hs1018) ?hm1018
                            case hi1018 => (simp only [List.getElem?_toArray, List.getElem?_cons_succ, List.getElem?_cons_zero]; rfl)
                            · go_simp
                              refine hK _ _ ?_; clear hK K
                              try simp only [Act.put, List.setIfInBounds_toArray, List.set_cons_zero, List.set_cons_succ]
                              refine wpAny_take (i := 9) (oi := ?oi1019) (v := ?v1019) ?hi1019 (by kernel_rfl) (by kernel_rfl) (by kernel_rfl) ?hq1019 ?hy1019 ?hr1019
                              case hi1019 => (simp only [List.getElem?_toArray, List.getElem?_cons_succ, List.getElem?_cons_zero]; rfl)
                              case hq1019 => exact fun _ _ _ h => h
                              case hy1019 => first | exact Or.inl ⟨by rfl, by intro w; (first | (go_simp; done) | (go_simp; with_reducible rfl))⟩ | exact Or.inr ⟨by rfl, by with_reducible rfl⟩ | fail
                              try simp only [Act.put, List.setIfInBounds_toArray, List.set_cons_zero, List.set_cons_succ]
                              refine wpAny_take (i := 10) (oi := ?oi1020) (v := ?v1020) ?hi1020 (by kernel_rfl) (by kernel_rfl) (by kernel_rfl) ?hq1020 ?hy1020 ?hr1020
                              case hi1020 => (simp only [List.getElem?_toArray, List.getElem?_cons_succ, List.getElem?_cons_zero]; rfl)
                              case hq1020 => exact fun _ _ _ h => h
                              case hy1020 => exact Or.inl ⟨by rfl, by intro w; (first | (go_simp; done) | (go_simp; with_reducible rfl))⟩
                              try simp only [Act.put, List.setIfInBounds_toArray, List.set_cons_zero, List.set_cons_succ]
                              refine wpAny_done (by kernel_rfl) ?_ _
                              go_wp2_with fail
                              go_ret2
                              exact HE7.out
                            exact AllReady.nil
                          exact AllReady.nil
                        exact AllReady.nil
                      exact AllReady.nil
                    · rw [decide_eq_false hPL] at hbq
                      have HE : Hid (∀ w7, Below wr.drew.heap.size wr.drew w7 → RunV w (unpB R L) (.returned (.tuple #[.slice none 0 0, .bool false])) w7) := Lib.hid (fun w7 hb => ⟨HBD.out.trans (hb.mono HBD.out.size), .inr ⟨by rw [HR.out]; unfold unpB; simp only; rw [if_neg (fun h => hPL (HPP.out.symm.trans h.2))], rfl⟩⟩)
                      clear hR hok hrow hz hP hcp hsx hPL hcl hsy hsl0 HBAD HX hvl hac hlt
                      go_wp2_with fail
                      refine wp_region_any (by kernel_rfl) ?_
                      change wpAny _ _ _ _ _ _ _ (World.drew _)
                      refine wpAny_take (i := 0) (oi := ?oi2001) (v := ?v2001) ?hi2001 (by kernel_rfl) (by kernel_rfl) (by kernel_rfl) ?hq2001 ?hy2001 ?hr2001
                      case hi2001 => (simp only [List.getElem?_toArray, List.getElem?_cons_zero]; rfl)
                      case hq2001 => exact fun _ _ _ h => h
                      case hy2001 => exact Or.inl ⟨by rfl, by intro w; (first | (go_simp; done) | (go_simp; with_reducible rfl))⟩
                      try simp only [Act.put, List.setIfInBounds_toArray, List.set_cons_zero, List.set_cons_succ]
                      refine wpAny_ready (rs := [1]) (by kernel_rfl) (by simp) ?_
                      refine AllReady.cons (o := ?oo2002) ?hi2002 (fun K hK => ?hs2002) ?hm2002
                      case hi2002 => (simp only [List.getElem?_toArray, List.getElem?_cons_succ, List.getElem?_cons_zero]; rfl)
                      · go_simp
                        refine HCK.out.mono ?_
                        rintro e w6 ⟨rfl, rfl⟩
                        go_wp2_with fail
                        try simp only [Act.put, List.setIfInBounds_toArray, List.set_cons_zero, List.set_cons_succ]
                        refine wpAny_take (i := 2) (oi := ?oi2003) (v := ?v2003) ?hi2003 (by kernel_rfl) (by kernel_rfl) (by kernel_rfl) ?hq2003 ?hy2003 ?hr2003
                        case hi2003 => (simp only [List.getElem?_toArray, List.getElem?_cons_succ, List.getElem?_cons_zero]; rfl)
                        case hq2003 => exact fun _ _ _ h => h
                        case hy2003 => exact Or.inl ⟨by rfl, by intro w; (first | (go_simp; done) | (go_simp; with_reducible rfl))⟩
                        try simp only [Act.put, List.setIfInBounds_toArray, List.set_cons_zero, List.set_cons_succ]
                        refine wpAny_take (i := 3) (oi := ?oi2004) (v := ?v2004) ?hi2004 (by kernel_rfl) (by kernel_rfl) (by kernel_rfl) ?hq2004 ?hy2004 ?hr2004
                        case hi2004 => (simp only [List.getElem?_toArray, List.getElem?_cons_succ, List.getElem?_cons_zero]; rfl)
                        case hq2004 => exact fun _ _ _ h => h
                        case hy2004 => exact Or.inl ⟨by rfl, by intro w; (first | (go_simp; done) | (go_simp; with_reducible rfl))⟩
                        try simp only [Act.put, List.setIfInBounds_toArray, List.set_cons_zero, List.set_cons_succ]
                        refine wpAny_take (i := 4) (oi := ?oi2005) (v := ?v2005) ?hi2005 (by kernel_rfl) (by kernel_rfl) (by kernel_rfl) ?hq2005 ?hy2005 ?hr2005
                        case hi2005 => (simp only [List.getElem?_toArray, List.getElem?_cons_succ, List.getElem?_cons_zero]; rfl)
                        case hq2005 => exact fun _ _ _ h => h
                        case hy2005 => first | exact Or.inl ⟨by rfl, by intro w; (first | (go_simp; done) | (go_simp; with_reducible rfl))⟩ | exact Or.inr ⟨by rfl, by with_reducible rfl⟩ | fail
                        try simp only [Act.put, List.setIfInBounds_toArray, List.set_cons_zero, List.set_cons_succ]
                        refine wpAny_take (i := 7) (oi := ?oi2006) (v := ?v2006) ?hi2006 (by kernel_rfl) (by kernel_rfl) (by kernel_rfl) ?hq2006 ?hy2006 ?hr2006
                        case hi2006 => (simp only [List.getElem?_toArray, List.getElem?_cons_succ, List.getElem?_cons_zero]; rfl)
                        case hq2006 => exact fun _ _ _ h => h
                        case hy2006 => first | exact Or.inl ⟨by rfl, by intro w; (first | (go_simp; done) | (go_simp; with_reducible rfl))⟩ | exact Or.inr ⟨by rfl, by with_reducible rfl⟩ | fail
                        try simp only [Act.put, List.setIfInBounds_toArray, List.set_cons_zero, List.set_cons_succ]
                        refine wpAny_ready (rs := [5, 8]) (by kernel_rfl) (by simp) ?_
                        refine AllReady.cons (o := ?oo2007) ?hi2007 (fun K hK => ?hs2007) ?hm2007
                        case hi2007 => (simp only [List.getElem?_toArray, List.getElem?_cons_succ, List.getElem?_cons_zero]; rfl)
                        · go_simp
                          refine HRP.out.mono ?_
                          rintro e w7 ⟨v7, rfl, ho7, hb7⟩
                          have hk1 := HCP.out w7 _ _ (sees_own ho7)
                          have hk2 := HCL.out w7 _ _ (HSL.out.below hb7)
                          have HE7 := Lib.hid (HE.out w7 hb7)
                          clear ho7 hb7
                          go_wp2_with fail
                          try simp only [Act.put, List.setIfInBounds_toArray, List.set_cons_zero, List.set_cons_succ]
                          refine wpAny_ready (rs := [6, 8]) (by kernel_rfl) (by simp) ?_
                          refine AllReady.cons (o := ?oo2008) ?hi2008 (fun K hK => ?hs2008) ?hm2008
                          case hi2008 => (simp only [List.getElem?_toArray, List.getElem?_cons_succ, List.getElem?_cons_zero]; rfl)
                          · go_simp
                            refine hK _ _ ?_; clear hK K
                            try simp only [Act.put, List.setIfInBounds_toArray, List.set_cons_zero, List.set_cons_succ]
                            refine wpAny_ready (rs := [8]) (by kernel_rfl) (by simp) ?_
                            refine AllReady.cons (o := ?oo2009) ?hi2009 (fun K hK => ?hs2009) ?hm2009
                            case hi2009 => (simp only [List.getElem?_toArray, List.getElem?_cons_succ, List.getElem?_cons_zero]; rfl)
                            · go_simp
                              refine hK _ _ ?_; clear hK K
                              try simp only [Act.put, List.setIfInBounds_toArray, List.set_cons_zero, List.set_cons_succ]
                              refine wpAny_take (i := 9) (oi := ?oi2010) (v := ?v2010) ?hi2010 (by kernel_rfl) (by kernel_rfl) (by kernel_rfl) ?hq2010 ?hy2010 ?hr2010
                              case hi2010 => (simp only [List.getElem?_toArray, List.getElem?_cons_succ, List.getElem?_cons_zero]; rfl)
                              case hq2010 => exact fun _ _ _ h => h
                              case hy2010 => first | exact Or.inl ⟨by rfl, by intro w; (first | (go_simp; done) | (go_simp; with_reducible rfl))⟩ | exact Or.inr ⟨by rfl, by with_reducible rfl⟩ | fail
                              try simp only [Act.put, List.setIfInBounds_toArray, List.set_cons_zero, List.set_cons_succ]
                              refine wpAny_take (i := 10) (oi := ?oi2011) (v := ?v2011) ?hi2011 (by kernel_rfl) (by kernel_rfl) (by kernel_rfl) ?hq2011 ?hy2011 ?hr2011
                              case hi2011 => (simp only [List.getElem?_toArray, List.getElem?_cons_succ, List.getElem?_cons_zero]; rfl)
                              case hq2011 => exact fun _ _ _ h => h
                              case hy2011 => exact Or.inl ⟨by rfl, by intro w; (first | (go_simp; done) | (go_simp; with_reducible rfl))⟩
                              try simp only [Act.put, List.setIfInBounds_toArray, List.set_cons_zero, List.set_cons_succ]
                              refine wpAny_done (by kernel_rfl) ?_ _
                              go_wp2_with fail
                              go_ret2
                              exact HE7.out
                            exact AllReady.nil
                          refine AllReady.cons (o := ?oo2012) ?hi2012 (fun K hK => ?hs2012) ?hm2012
                          case hi2012 => (simp only [List.getElem?_toArray, List.getElem?_cons_succ, List.getElem?_cons_zero]; rfl)
                          · go_simp
                            refine hK _ _ ?_; clear hK K
                            try simp only [Act.put, List.setIfInBounds_toArray, List.set_cons_zero, List.set_cons_succ]
                            refine wpAny_ready (rs := [6]) (by kernel_rfl) (by simp) ?_
                            refine AllReady.cons (o := ?oo2013) ?hi2013 (fun K hK => ?hs2013) ?hm2013
                            case hi2013 => (simp only [List.getElem?_toArray, List.getElem?_cons_succ, List.getElem?_cons_zero]; rfl)
                            · go_simp
                              refine hK _ _ ?_; clear hK K
                              try simp only [Act.put, List.setIfInBounds_toArray, List.set_cons_zero, List.set_cons_succ]
                              refine wpAny_take (i := 9) (oi := ?oi2014) (v := ?v2014) ?hi2014 (by kernel_rfl) (by kernel_rfl) (by kernel_rfl) ?hq2014 ?hy2014 ?hr2014
                              case hi2014 => (simp only [List.getElem?_toArray, List.getElem?_cons_succ, List.getElem?_cons_zero]; rfl)
                              case hq2014 => exact fun _ _ _ h => h
                              case hy2014 => first | exact Or.inl ⟨by rfl, by intro w; (first | (go_simp; done) | (go_simp; with_reducible rfl))⟩ | exact Or.inr ⟨by rfl, by with_reducible rfl⟩ | fail
                              try simp only [Act.put, List.setIfInBounds_toArray, List.set_cons_zero, List.set_cons_succ]
                              refine wpAny_take (i := 10) (oi := ?oi2015) (v := ?v2015) ?hi2015 (by kernel_rfl) (by kernel_rfl) (by kernel_rfl) ?hq2015 ?hy2015 ?hr2015
                              case hi2015 => (simp only [List.getElem?_toArray, List.getElem?_cons_succ, List.getElem?_cons_zero]; rfl)
                              case hq2015 => exact fun _ _ _ h => h
                              case hy2015 => exact Or.inl ⟨by rfl, by intro w; (first | (go_simp; done) | (go_simp; with_reducible rfl))⟩
                              try simp only [Act.put, List.setIfInBounds_toArray, List.set_cons_zero, List.set_cons_succ]
                              refine wpAny_done (by kernel_rfl) ?_ _
                              go_wp2_with fail
                              go_ret2
                              exact HE7.out
                            exact AllReady.nil
                          exact AllReady.nil
                        refine AllReady.cons (o := ?oo2016) ?hi2016 (fun K hK => ?hs2016) ?hm2016
                        case hi2016 => (simp only [List.getElem?_toArray, List.getElem?_cons_succ, List.getElem?_cons_zero]; rfl)
                        · go_simp
                          refine hK _ _ ?_; clear hK K
                          try simp only [Act.put, List.setIfInBounds_toArray, List.set_cons_zero, List.set_cons_succ]
                          refine wpAny_ready (rs := [5]) (by kernel_rfl) (by simp) ?_
                          refine AllReady.cons (o := ?oo2017) ?hi2017 (fun K hK => ?hs2017) ?hm2017
                          case hi2017 => (simp only [List.getElem?_toArray, List.getElem?_cons_succ, List.getElem?_cons_zero]; rfl)
                          · go_simp
                            refine HRP.out.mono ?_
                            rintro e w7 ⟨v7, rfl, ho7, hb7⟩
                            have hk1 := HCP.out w7 _ _ (sees_own ho7)
                            have hk2 := HCL.out w7 _ _ (HSL.out.below hb7)
                            have HE7 := Lib.hid (HE.out w7 hb7)
                            clear ho7 hb7
                            go_wp2_with fail
                            try simp only [Act.put, List.setIfInBounds_toArray, List.set_cons_zero, List.set_cons_succ]
                            refine wpAny_ready (rs := [6]) (by kernel_rfl) (by simp) ?_
                            refine AllReady.cons (o := ?oo2018) ?hi2018 (fun K hK => ?hs2018) ?hm2018
                            case hi2018 => (simp only [List.getElem?_toArray, List.getElem?_cons_succ, List.getElem?_cons_zero]; rfl)
                            · go_simp
                              refine hK _ _ ?_; clear hK K
                              try simp only [Act.put, List.setIfInBounds_toArray, List.set_cons_zero, List.set_cons_succ]
                              refine wpAny_take (i := 9) (oi := ?oi2019) (v := ?v2019) ?hi2019 (by kernel_rfl) (by kernel_rfl) (by kernel_rfl) ?hq2019 ?hy2019 ?hr2019
                              case hi2019 => (simp only [List.getElem?_toArray, List.getElem?_cons_succ, List.getElem?_cons_zero]; rfl)
                              case hq2019 => exact fun _ _ _ h => h
                              case hy2019 => first | exact Or.inl ⟨by rfl, by intro w; (first | (go_simp; done) | (go_simp; with_reducible rfl))⟩ | exact Or.inr ⟨by rfl, by with_reducible rfl⟩ | fail
                              try simp only [Act.put, List.setIfInBounds_toArray, List.set_cons_zero, List.set_cons_succ]
                              refine wpAny_take (i := 10) (oi := ?oi2020) (v := ?v2020) ?hi2020 (by kernel_rfl) (by kernel_rfl) (by kernel_rfl) ?hq2020 ?hy2020 ?hr2020
                              case hi2020 => (simp only [List.getElem?_toArray, List.getElem?_cons_succ, List.getElem?_cons_zero]; rfl)
                              case hq2020 => exact fun _ _ _ h => h
                              case hy2020 => exact Or.inl ⟨by rfl, by intro w; (first | (go_simp; done) | (go_simp; with_reducible rfl))⟩
                              try simp only [Act.put, List.setIfInBounds_toArray, List.set_cons_zero, List.set_cons_succ]
                              refine wpAny_done (by kernel_rfl) ?_ _
                              go_wp2_with fail
                              go_ret2
                              exact HE7.out
                            exact AllReady.nil
                          exact AllReady.nil
                        exact AllReady.nil
                      exact AllReady.nil
                  · have HE : Hid (RunV w (unpB R L) (.returned (.tuple #[.slice none 0 0, .bool false])) wr.drew) := Lib.hid ⟨HBD.out, .inr ⟨by rw [HR.out]; unfold unpB; simp only; rw [if_neg (fun h => hz (chk_nat h.1))], rfl⟩⟩
                    obtain ⟨r, hr⟩ : ∃ r, chkB (castB vals) = r := ⟨_, rfl⟩
                    rw [hr] at hz HCK
                    have hrb : (r != 0) = true := by simpa using hz
                    have hrb' : (r == 0) = false := by simpa using hz
                    clear hR hrow hcl hsy hsl0 HBAD HX hvl hac hlt hr
                    go_wp2_with fail
                    refine wp_region_any (by kernel_rfl) ?_
                    change wpAny _ _ _ _ _ _ _ (World.drew _)
                    refine wpAny_take (i := 0) (oi := ?oi3001) (v := ?v3001) ?hi3001 (by kernel_rfl) (by kernel_rfl) (by kernel_rfl) ?hq3001 ?hy3001 ?hr3001
                    case hi3001 => (simp only [List.getElem?_toArray, List.getElem?_cons_zero]; rfl)
                    case hq3001 => exact fun _ _ _ h => h
                    case hy3001 => exact Or.inl ⟨by rfl, by intro w; (first | (go_simp; done) | (go_simp; with_reducible rfl))⟩
                    try simp only [Act.put, List.setIfInBounds_toArray, List.set_cons_zero, List.set_cons_succ]
                    refine wpAny_ready (rs := [1]) (by kernel_rfl) (by simp) ?_
                    refine AllReady.cons (o := ?oo3002) ?hi3002 (fun K hK => ?hs3002) ?hm3002
                    case hi3002 => (simp only [List.getElem?_toArray, List.getElem?_cons_succ, List.getElem?_cons_zero]; rfl)
                    · go_simp
                      refine HCK.out.mono ?_
                      rintro e w6 ⟨rfl, rfl⟩
                      go_wp2_with fail
                      try simp only [Act.put, List.setIfInBounds_toArray, List.set_cons_zero, List.set_cons_succ]
                      refine wpAny_take (i := 2) (oi := ?oi3003) (v := ?v3003) ?hi3003 (by kernel_rfl) (by kernel_rfl) (by kernel_rfl) ?hq3003 ?hy3003 ?hr3003
                      case hi3003 => (simp only [List.getElem?_toArray, List.getElem?_cons_succ, List.getElem?_cons_zero]; rfl)
                      case hq3003 => exact fun _ _ _ h => h
                      case hy3003 => exact Or.inl ⟨by rfl, by intro w; (first | (go_simp; done) | (go_simp; with_reducible rfl))⟩
                      try simp only [Act.put, List.setIfInBounds_toArray, List.set_cons_zero, List.set_cons_succ]
                      refine wpAny_take (i := 3) (oi := ?oi3004) (v := ?v3004) ?hi3004 (by kernel_rfl) (by kernel_rfl) (by kernel_rfl) ?hq3004 ?hy3004 ?hr3004
                      case hi3004 => (simp only [List.getElem?_toArray, List.getElem?_cons_succ, List.getElem?_cons_zero]; rfl)
                      case hq3004 => exact fun _ _ _ h => h
                      case hy3004 => exact Or.inl ⟨by rfl, by intro w; (first | (go_simp; done) | (go_simp; with_reducible rfl))⟩
                      try simp only [Act.put, List.setIfInBounds_toArray, List.set_cons_zero, List.set_cons_succ]
                      refine wpAny_take (i := 4) (oi := ?oi3005) (v := ?v3005) ?hi3005 (by kernel_rfl) (by kernel_rfl) (by kernel_rfl) ?hq3005 ?hy3005 ?hr3005
                      case hi3005 => (simp only [List.getElem?_toArray, List.getElem?_cons_succ, List.getElem?_cons_zero]; rfl)
                      case hq3005 => exact fun _ _ _ h => h
                      case hy3005 => first | exact Or.inl ⟨by rfl, by intro w; (first | (go_simp; done) | (go_simp; with_reducible rfl))⟩ | exact Or.inr ⟨by rfl, by with_reducible rfl⟩ | fail
                      try simp only [Act.put, List.setIfInBounds_toArray, List.set_cons_zero, List.set_cons_succ]
                      refine wpAny_take (i := 7) (oi := ?oi3006) (v := ?v3006) ?hi3006 (by kernel_rfl) (by kernel_rfl) (by kernel_rfl) ?hq3006 ?hy3006 ?hr3006
                      case hi3006 => (simp only [List.getElem?_toArray, List.getElem?_cons_succ, List.getElem?_cons_zero]; rfl)
                      case hq3006 => exact fun _ _ _ h => h
                      case hy3006 => first | exact Or.inl ⟨by rfl, by intro w; (first | (go_simp; done) | (go_simp; with_reducible rfl))⟩ | exact Or.inr ⟨by rfl, by with_reducible rfl⟩ | fail
                      try simp only [Act.put, List.setIfInBounds_toArray, List.set_cons_zero, List.set_cons_succ]
                      refine wpAny_ready (rs := [5, 8]) (by kernel_rfl) (by simp) ?_
                      refine AllReady.cons (o := ?oo3007) ?hi3007 (fun K hK => ?hs3007) ?hm3007
                      case hi3007 => (simp only [List.getElem?_toArray, List.getElem?_cons_succ, List.getElem?_cons_zero]; rfl)
                      · go_simp
                        refine hK _ _ ?_; clear hK K
                        try simp only [Act.put, List.setIfInBounds_toArray, List.set_cons_zero, List.set_cons_succ]
                        refine wpAny_ready (rs := [6, 8]) (by kernel_rfl) (by simp) ?_
                        refine AllReady.cons (o := ?oo3008) ?hi3008 (fun K hK => ?hs3008) ?hm3008
                        case hi3008 => (simp only [List.getElem?_toArray, List.getElem?_cons_succ, List.getElem?_cons_zero]; rfl)
                        · go_simp
                          refine hK _ _ ?_; clear hK K
                          try simp only [Act.put, List.setIfInBounds_toArray, List.set_cons_zero, List.set_cons_succ]
                          refine wpAny_ready (rs := [8]) (by kernel_rfl) (by simp) ?_
                          refine AllReady.cons (o := ?oo3009) ?hi3009 (fun K hK => ?hs3009) ?hm3009
                          case hi3009 => (simp only [List.getElem?_toArray, List.getElem?_cons_succ, List.getElem?_cons_zero]; rfl)
                          · go_simp
                            refine hK _ _ ?_; clear hK K
                            try simp only [Act.put, List.setIfInBounds_toArray, List.set_cons_zero, List.set_cons_succ]
                            refine wpAny_take (i := 9) (oi := ?oi3010) (v := ?v3010) ?hi3010 (by kernel_rfl) (by kernel_rfl) (by kernel_rfl) ?hq3010 ?hy3010 ?hr3010
                            case hi3010 => (simp only [List.getElem?_toArray, List.getElem?_cons_succ, List.getElem?_cons_zero]; rfl)
                            case hq3010 => exact fun _ _ _ h => h
                            case hy3010 => first | exact Or.inl ⟨by rfl, by intro w; (first | (go_simp; done) | (go_simp; with_reducible rfl))⟩ | exact Or.inr ⟨by rfl, by with_reducible rfl⟩ | fail
                            try simp only [Act.put, List.setIfInBounds_toArray, List.set_cons_zero, List.set_cons_succ]
                            refine wpAny_take (i := 10) (oi := ?oi3011) (v := ?v3011) ?hi3011 (by kernel_rfl) (by kernel_rfl) (by kernel_rfl) ?hq3011 ?hy3011 ?hr3011
                            case hi3011 => (simp only [List.getElem?_toArray, List.getElem?_cons_succ, List.getElem?_cons_zero]; rfl)
                            case hq3011 => exact fun _ _ _ h => h
                            case hy3011 => exact Or.inl ⟨by rfl, by intro w; (first | (go_simp; done) | (go_simp; with_reducible rfl))⟩
                            try simp only [Act.put, List.setIfInBounds_toArray, List.set_cons_zero, List.set_cons_succ]
                            refine wpAny_done (by kernel_rfl) ?_ _
                            go_wp2_with fail
                            go_ret2
                            exact HE.out
                          exact AllReady.nil
                        refine AllReady.cons (o := ?oo3012) ?hi3012 (fun K hK => ?hs3012) ?hm3012
                        case hi3012 => (simp only [List.getElem?_toArray, List.getElem?_cons_succ, List.getElem?_cons_zero]; rfl)
                        · go_simp
                          refine hK _ _ ?_; clear hK K
                          try simp only [Act.put, List.setIfInBounds_toArray, List.set_cons_zero, List.set_cons_succ]
                          refine wpAny_ready (rs := [6]) (by kernel_rfl) (by simp) ?_
                          refine AllReady.cons (o := ?oo3013) ?hi3013 (fun K hK => ?hs3013) ?hm3013
                          case hi3013 => (simp only [List.getElem?_toArray, List.getElem?_cons_succ, List.getElem?_cons_zero]; rfl)
                          · go_simp
                            refine hK _ _ ?_; clear hK K
                            try simp only [Act.put, List.setIfInBounds_toArray, List.set_cons_zero, List.set_cons_succ]
                            refine wpAny_take (i := 9) (oi := ?oi3014) (v := ?v3014) ?hi3014 (by kernel_rfl) (by kernel_rfl) (by kernel_rfl) ?hq3014 ?hy3014 ?hr3014
                            case hi3014 => (simp only [List.getElem?_toArray, List.getElem?_cons_succ, List.getElem?_cons_zero]; rfl)
                            case hq3014 => exact fun _ _ _ h => h
                            case hy3014 => first | exact Or.inl ⟨by rfl, by intro w; (first | (go_simp; done) | (go_simp; with_reducible rfl))⟩ | exact Or.inr ⟨by rfl, by with_reducible rfl⟩ | fail
                            try simp only [Act.put, List.setIfInBounds_toArray, List.set_cons_zero, List.set_cons_succ]
                            refine wpAny_take (i := 10) (oi := ?oi3015) (v := ?v3015) ?hi3015 (by kernel_rfl) (by kernel_rfl) (by kernel_rfl) ?hq3015 ?hy3015 ?hr3015
                            case hi3015 => (simp only [List.getElem?_toArray, List.getElem?_cons_succ, List.getElem?_cons_zero]; rfl)
                            case hq3015 => exact fun _ _ _ h => h
                            case hy3015 => exact Or.inl ⟨by rfl, by intro w; (first | (go_simp; done) | (go_simp; with_reducible rfl))⟩
                            try simp only [Act.put, List.setIfInBounds_toArray, List.set_cons_zero, List.set_cons_succ]
                            refine wpAny_done (by kernel_rfl) ?_ _
                            go_wp2_with fail
                            go_ret2
                            exact HE.out
                          exact AllReady.nil
                        exact AllReady.nil
                      refine AllReady.cons (o := ?oo3016) ?hi3016 (fun K hK => ?hs3016) ?hm3016
                      case hi3016 => (simp only [List.getElem?_toArray, List.getElem?_cons_succ, List.getElem?_cons_zero]; rfl)
                      · go_simp
                        refine hK _ _ ?_; clear hK K
                        try simp only [Act.put, List.setIfInBounds_toArray, List.set_cons_zero, List.set_cons_succ]
                        refine wpAny_ready (rs := [5]) (by kernel_rfl) (by simp) ?_
                        refine AllReady.cons (o := ?oo3017) ?hi3017 (fun K hK => ?hs3017) ?hm3017
                        case hi3017 => (simp only [List.getElem?_toArray, List.getElem?_cons_succ, List.getElem?_cons_zero]; rfl)
                        · go_simp
                          refine hK _ _ ?_; clear hK K
                          try simp only [Act.put, List.setIfInBounds_toArray, List.set_cons_zero, List.set_cons_succ]
                          refine wpAny_ready (rs := [6]) (by kernel_rfl) (by simp) ?_
                          refine AllReady.cons (o := ?oo3018) ?hi3018 (fun K hK => ?hs3018) ?hm3018
                          case hi3018 => (simp only [List.getElem?_toArray, List.getElem?_cons_succ, List.getElem?_cons_zero]; rfl)
                          · go_simp
                            refine hK _ _ ?_; clear hK K
                            try simp only [Act.put, List.setIfInBounds_toArray, List.set_cons_zero, List.set_cons_succ]
                            refine wpAny_take (i := 9) (oi := ?oi3019) (v := ?v3019) ?hi3019 (by kernel_rfl) (by kernel_rfl) (by kernel_rfl) ?hq3019 ?hy3019 ?hr3019
                            case hi3019 => (simp only [List.getElem?_toArray, List.getElem?_cons_succ, List.getElem?_cons_zero]; rfl)
                            case hq3019 => exact fun _ _ _ h => h
                            case hy3019 => first | exact Or.inl ⟨by rfl, by intro w; (first | (go_simp; done) | (go_simp; with_reducible rfl))⟩ | exact Or.inr ⟨by rfl, by with_reducible rfl⟩ | fail
                            try simp only [Act.put, List.setIfInBounds_toArray, List.set_cons_zero, List.set_cons_succ]
                            refine wpAny_take (i := 10) (oi := ?oi3020) (v := ?v3020) ?hi3020 (by kernel_rfl) (by kernel_rfl) (by kernel_rfl) ?hq3020 ?hy3020 ?hr3020
                            case hi3020 => (simp only [List.getElem?_toArray, List.getElem?_cons_succ, List.getElem?_cons_zero]; rfl)
                            case hq3020 => exact fun _ _ _ h => h
                            case hy3020 => exact Or.inl ⟨by rfl, by intro w; (first | (go_simp; done) | (go_simp; with_reducible rfl))⟩
                            try simp only [Act.put, List.setIfInBounds_toArray, List.set_cons_zero, List.set_cons_succ]
                            refine wpAny_done (by kernel_rfl) ?_ _
                            go_wp2_with fail
                            go_ret2
                            exact HE.out
                          exact AllReady.nil
                        exact AllReady.nil
                      exact AllReady.nil
                    exact AllReady.nil
        · have b2 : decide ((z : Int) > (n3 : Int)) = true := decide_eq_true (by omega)
          have hRn : R = none := by
            rw [HP.out, if_pos ⟨HK3.out, hW31⟩, if_pos HK5.out, if_neg (by rw [HTT.out, HN3.out]; have := HZ.out; omega)]
          have HE := Lib.hid (HBAD.out w3 HB3.out hRn)
          clear hRn HP HBAD
          go_wp2_with fail
          go_ret2
          exact HE.out
      · have b1 : decide ((W : Int) > 31) = true := decide_eq_true (by omega)
        have hRn : R = none := by
          rw [HP.out, if_neg (fun h => hW31 h.2)]
        have HE := Lib.hid (HBAD.out w3 HB3.out hRn)
        clear hRn HP HBAD
        go_wp2_with fail
        go_ret2
        exact HE.out
end Go.Proofs.Ytbfnkmibbieijaa
