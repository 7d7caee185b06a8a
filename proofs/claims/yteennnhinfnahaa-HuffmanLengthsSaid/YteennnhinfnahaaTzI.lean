/-
  WALKS over package bitio, second part: push.
  WALKS over package bitio, third part: byte strings that are seen; Clone, Bytes, Gamma, Delta; the law's 'same' and 'awake' need them.
  WALKS over package bitio, fourth part: PutUvarint, and the reference's Uvarint.
  WALKS over package bitio, fifth part: the laws' 'awake': the document's examples.
  WALKS over package corporaref02: Top; two Writers beside each other.
  WALKS over package bitio, eighth part: a Writer's Bits and Unary; a call of a Writer, as the law makes it.
-/
import Derived.Test.YteennnhinfnahaaTzC
import Derived.Laws.BytesArg
import Derived.Laws.AppendOwnNone
import Derived.Lib.SliceRun
import Derived.Laws.CopyOwn
import Derived.Laws.MakeOwn
namespace Go.Proofs.Yteennnhinfnahaa
open Go.RowKit Go.Shelf Go.Lib




theorem push_byte (x j by_ sh : Nat) (hx : x < 18446744073709551616) (hs : sh ≤ 7) (hb : by_ < 256) :
    bits BinOp.or IntKind.u8 (by_ : Int) (bits BinOp.and IntKind.u64 ((x : Int) / 2 ^ j) 1 % 256 * 2 ^ min sh 8 % 256) = ((by_ ||| (x / 2 ^ j % 2) * 2 ^ sh : Nat) : Int) := by
  have e : (x : Int) / 2 ^ j = ((x / 2 ^ j : Nat) : Int) := by simp
  have hle : x / 2 ^ j ≤ x := Nat.div_le_self _ _
  have e1 := bits_and_u64_nat (x / 2 ^ j) 1 (by omega) (by omega)
  rw [Nat.and_one_is_mod] at e1
  have e2 : ((1 : Nat) : Int) = 1 := rfl
  rw [e2] at e1
  rw [e, e1, Nat.min_eq_left (show sh ≤ 8 by omega)]
  obtain ⟨b, hb2⟩ : ∃ b, x / 2 ^ j % 2 = b := ⟨_, rfl⟩
  rw [hb2]
  have hb3 : b ≤ 1 := by omega
  have hp : 2 ^ sh ≤ 2 ^ 7 := Nat.pow_le_pow_right (by decide) hs
  have hm : b * 2 ^ sh ≤ 1 * 2 ^ sh := Nat.mul_le_mul_right _ hb3
  have h128 : (2 : Nat) ^ 7 = 128 := by decide
  have e3 : ((b : Int) % 256 * 2 ^ sh % 256) = ((b * 2 ^ sh : Nat) : Int) := by
    have : (b : Int) % 256 = (b : Int) := by omega
    rw [this]
    have : (b : Int) * 2 ^ sh = ((b * 2 ^ sh : Nat) : Int) := by simp
    rw [this]
    omega
  rw [e3, u8_or_nat _ _ hb (by omega)]

/-- What a round of push leaves. -/
theorem push_end {W : World} {B g a q cap : Nat} {l : List Bool} (hBg : B ≤ g) (hb : W.heap[g]? = some (.cells #[.slice (some ⟨a, 0, none⟩) (q + 1) cap, .int .i64 l.length] 114 (0, 0)))
    (hown : W.ownsRow B 5 1 (.slice (some ⟨a, 0, none⟩) (q + 1) cap) (q + 1) (byteCells (pad l))) (hag : a ≠ g) (hq : l.length / 8 = q) (x j : Nat) (E M : Int)
    (hE : E = ((byteAt l q ||| (x / 2 ^ j % 2) * 2 ^ (7 - l.length % 8) : Nat) : Int)) (hM : M = (l.length : Int) + 1) :
    WAt ((W.setCell ⟨a, q, none⟩ (.int .u8 E)).setCell ⟨g, 1, none⟩ (.int .i64 M)) B g (.slice (some ⟨a, 0, none⟩) (q + 1) cap) (l ++ [decide (x / 2 ^ j % 2 = 1)]) := by
  have h1 := (hown.stored q (.int .u8 E)).1
  have e : (byteCells (pad l)).set q (.int .u8 E) = byteCells (pack (l ++ [decide (x / 2 ^ j % 2 = 1)])) := by
    have hbo := byteAt_or l (decide (x / 2 ^ j % 2 = 1))
    have hlt := byteAt_lt (l ++ [decide (x / 2 ^ j % 2 = 1)]) (l.length / 8)
    rw [(byteAt_new l _).1] at hlt
    rw [bit_toNat] at hbo hlt
    rw [pack_snoc, bit_toNat, hE, ← hq, hbo]
    unfold byteCells
    rw [List.map_set, toNat_of _ hlt]
  have hpl : (pack (l ++ [decide (x / 2 ^ j % 2 = 1)])).length = q + 1 := by rw [pack_len]; simp; omega
  refine ⟨hBg, ?_, ?_⟩
  · have h2 := set_of (block_other (B' := a) (i := q) (.int .u8 E) hb (Ne.symm hag)) (i := 1) (.int .i64 M)
    rw [h2, hM]
    simp
  · rw [hpl, ← e]
    exact ownsRow_block h1 (Below.heap_setCell _ ⟨g, 1, none⟩ _ a hag)
theorem push_step {W : World} {g a q cap : Nat} {v : Value} {w : World} (h : Stepped g v w (.slice (some ⟨a, 0, none⟩) (q + 1) cap) W) (u u' : Value) (i j : Nat) :
    Stepped g v w (.slice (some ⟨a, 0, none⟩) (q + 1) cap) ((W.setCell ⟨a, i, none⟩ u).setCell ⟨g, j, none⟩ u') :=
  ⟨h.os, h.tape, h.output, by have := h.size; simp [World.setCell]; exact this, fun k hk hkg hkv => by
    have hka : k ≠ a := by
      intro e
      subst e
      rcases h.own k rfl with e | e
      · exact hkv e
      · omega
    exact (Below.heap_setCell _ ⟨g, j, none⟩ u' k hkg).trans ((Below.heap_setCell _ ⟨a, i, none⟩ u k hka).trans (h.block k hk hkg hkv)), h.own⟩
theorem own_ne {W : World} {B g a n cap : Nat} {xs : List Value} {cs : Array Value} (h : W.ownsRow B 5 1 (.slice (some ⟨a, 0, none⟩) n cap) n xs) (hb : W.heap[g]? = some (.cells cs 114 (0, 0))) : a ≠ g := by
  intro e
  subst e
  rcases h.2 with ⟨h, _⟩ | ⟨g', cap', cur, h, _, hh, _⟩
  · simp at h
  · simp only [Value.slice.injEq, Option.some.injEq, Addr.mk.injEq, and_true, true_and] at h
    obtain ⟨rfl, _⟩ := h
    rw [hb] at hh
    injection hh with hh
    injection hh with _ ht
    exact absurd ht (by decide)

/-- Between two rounds of push: k bits are left. -/
def PRel (B g : Nat) (l : List Bool) (x n : Nat) (v : Value) (w : World) (i : Value) (wr : World) : Prop :=
  ∃ (k : Nat) (done : List Bool) (v' : Value), k ≤ n ∧ i = .int .i64 ((k : Int) - 1) ∧ WAt wr B g v' (l ++ done) ∧ done ++ low x k = low x n ∧ Stepped g v w v' wr ∧ B ≤ wr.heap.size

set_option maxRecDepth 100000 in
set_option maxHeartbeats 1000000 in
theorem push_any {w : World} {B g : Nat} {v : Value} {l : List Bool} (hw : WAt w B g v l) (hB : B ≤ w.heap.size) (x n : Nat) (hx : x < 18446744073709551616) (hn : n ≤ 64) (hl : l.length ≤ 1000000) :
    Calls Try.prog 63 #[.pointer (some ⟨g, 0, none⟩), .int .u64 x, .int .i64 n] w fun e w' => ∃ v', e = .returned (.tuple #[]) ∧ WAt w' B g v' (l ++ low x n) ∧ Stepped g v w v' w' := by
  have HW := Lib.hid hw
  clear hw
  go_enter Try.func63, Try.ntmps63
  go_wp2
  go_loopw [6] (fun i wr => PRel B g l x n v w i wr) (fun i _ => ((intOf i) + 1).toNat)
  case atStart => exact ⟨n, [], v, Nat.le_refl _, rfl, by rw [List.append_nil]; exact HW.out, rfl, Stepped.refl _ _ _, hB⟩
  case round =>
    obtain ⟨k, done, v', hk, rfl, hat, hlow, hst, hBr⟩ := hrel
    match k, hk, hlow with
    | 0, hk, hlow =>
      have HA := Lib.hid hat
      have HL := Lib.hid hlow
      have HS := Lib.hid hst
      clear hat hlow hst
      go_wp2
      go_end0
      refine ⟨v', rfl, ?_, HS.out⟩
      have e : done = low x n := by have := HL.out; simpa [low] using this
      rw [← e]
      exact HA.out
    | j + 1, hk, hlow =>
      have HL := Lib.hid hlow
      have HS := Lib.hid hst
      have hdl : done.length ≤ 64 := by
        have := congrArg List.length hlow
        rw [List.length_append, low_len, low_len] at this
        omega
      obtain ⟨hBg, hcell, hown⟩ := hat
      obtain ⟨l1, hl1⟩ : ∃ l1, l ++ done = l1 := ⟨_, rfl⟩
      have hlen : l1.length ≤ 1000064 := by rw [← hl1, List.length_append]; omega
      rw [hl1] at hcell hown
      have H1 := Lib.hid hl1
      clear hl1 hlow hst
      have c0 := cell_of (i := 0) hcell rfl
      have c1 := cell_of (i := 1) hcell rfl
      have f0 := frozen_of (i := 0) hcell
      have f1 := frozen_of (i := 1) hcell
      have HC := Lib.hid hcell
      clear hcell
      obtain ⟨i0, hi, hz0, hz1, hz2⟩ := info_parts' Try.infoByte
      by_cases hr : l1.length % 8 = 0
      · have hpl : (pack l1).length = l1.length / 8 := by rw [pack_len]; omega
        rw [hpl] at hown
        have hpad := pad_new l1 hr
        obtain ⟨L, hL⟩ : ∃ L, l1.length = L := ⟨_, rfl⟩
        rw [hL] at c1 hown hlen hr
        have hr0 : ((L : Int) % 8 == 0) = true := by simp; omega
        have HP := Lib.hid hpad
        have HLL := Lib.hid hL
        clear hpl hpad hL hr
        obtain ⟨q, hq⟩ : ∃ q, L / 8 = q := ⟨_, rfl⟩
        rw [hq] at hown
        have HQ := Lib.hid hq
        clear hq
        have hql : q ≤ 1000064 := by have := HQ.out; omega
        go_wp2_with (first | (at_builtin; refine wpList_append_lies _ rfl (.tmp 23) (.tmp 24) 54 rfl B 5 i0 _ 1 1 Try.underlying54 hi hz0 hz1 hz2 rfl (by decide) _ q _ rfl (hown.alloc _) _ 1 1 [.int .u8 0] rfl rfl (news_at _ [.int .u8 0] 5) (by simp [Value.oneCell']) (by omega) (by unfold maxLen; omega) (by omega) (by simp; omega) _ rfl ?_))
        intro a cap w2 hown2 hgrow hfrom hglt
        have hne : v'.ownBlock ≠ some g := by
          intro e
          rcases hown.2 with ⟨rfl, _⟩ | ⟨g', cap', cur, rfl, _, hh, _⟩
          · simp [Value.ownBlock] at e
          · simp only [Value.ownBlock, Option.some.injEq] at e
            subst e
            rw [HC.out] at hh
            injection hh with hh
            injection hh with _ ht
            exact absurd ht (by decide)
        have hgl : g < wr.heap.size := (Array.getElem?_eq_some_iff.1 HC.out).1
        have hc2 := (hgrow.block g (by simp; omega) (fun e => hne e.symm)).trans (block_alloc _ HC.out)
        have d0 := cell_of (i := 0) hc2 rfl
        have d1 := frozen_of (i := 0) hc2
        have hs1 : Stepped g v' wr (.slice (some ⟨a, 0, none⟩) (q + 1) cap) w2 := by
          refine ⟨hgrow.os, hgrow.tape, hgrow.output, by have := hgrow.size; simp at this; omega, fun k hk hkg hkv => ?_, fun k e => ?_⟩
          · exact (hgrow.block k (by simp; omega) (fun e => hkv e.symm)).trans (Below.heap_alloc _ _ _ hk)
          · simp only [Value.ownBlock, Option.some.injEq] at e
            subst e
            rcases hfrom with e | e
            · exact .inl e
            · right; rw [e]; simp
        have HN := Lib.hid hne
        have HC2 := Lib.hid hc2
        have HO2 := Lib.hid hown2
        have HS1 := Lib.hid hs1
        clear hgrow hfrom hne hown hc2 hown2 hs1
        go_wp2
        have hb3 := set_of HC2.out (i := 0) (.slice (some ⟨a, 0, none⟩) (q + 1) cap)
        have hag : a ≠ g := own_ne HO2.out HC2.out
        have hown3 := ownsRow_block HO2.out ((Below.heap_setCell w2 ⟨g, 0, none⟩ (.slice (some ⟨a, 0, none⟩) (q + 1) cap) a hag))
        have hpc : byteCells (pack l1) ++ [Value.int .u8 0] = byteCells (pad l1) := by rw [HP.out]; simp [byteCells]
        rw [hpc] at hown3
        have hst3 : Stepped g v' wr (.slice (some ⟨a, 0, none⟩) (q + 1) cap) (w2.setCell ⟨g, 0, none⟩ (.slice (some ⟨a, 0, none⟩) (q + 1) cap)) :=
          ⟨HS1.out.os, HS1.out.tape, HS1.out.output, by have := HS1.out.size; simp [World.setCell]; exact this, fun k hk hkg hkv => (Below.heap_setCell _ _ _ _ hkg).trans (HS1.out.block k hk hkg hkv), HS1.out.own⟩
        clear d0 d1 c0 c1 f0 f1
        obtain ⟨W1, hW1⟩ : ∃ W1, w2.setCell ⟨g, 0, none⟩ (.slice (some ⟨a, 0, none⟩) (q + 1) cap) = W1 := ⟨_, rfl⟩
        rw [hW1] at hb3 hown3 hst3 ⊢
        clear hW1
        refine wp_region_still_tail 24 (by kernel_rfl) (by kernel_rfl) ?_
        simp only [List.take_succ_cons, List.take_zero, List.drop_succ_cons, List.drop_zero]
        change wpStill _ _ W1.drew (fun a' => wpList _ _ _ _ a' W1.drew) _ _
        have hb4 : W1.drew.heap[g]? = _ := hb3
        have hown4 := ownsRow_block (w' := W1.drew) hown3 rfl
        have hst4 : Stepped g v' wr (.slice (some ⟨a, 0, none⟩) (q + 1) cap) W1.drew := ⟨hst3.os, hst3.tape, hst3.output, hst3.size, hst3.block, hst3.own⟩
        generalize W1.drew = W2 at hb4 hown4 hst4 ⊢
        clear hb3 hown3 hst3
        have k0 : W2.cell? ⟨g, 0, none⟩ = some (.slice (some ⟨a, 0, none⟩) (q + 1) cap) := cell_of (i := 0) hb4 rfl
        have k1 : W2.cell? ⟨g, 1, none⟩ = some (.int .i64 (L : Int)) := by rw [cell_of (i := 1) (v := .int .i64 l1.length) hb4 rfl, HLL.out]
        have g1 : W2.frozen? ⟨g, 1, none⟩ = false := frozen_of hb4
        have g2 : W2.frozen? ⟨a, q, none⟩ = false := hown4.frozenAt _
        obtain ⟨by_, hby⟩ : ∃ b, byteAt l1 q = b := ⟨_, rfl⟩
        have hby256 : by_ < 256 := by rw [← hby]; exact byteAt_lt _ _
        have k2 : W2.cell? ⟨a, q, none⟩ = some (.int .u8 (by_ : Int)) := by
          rw [hown4.cellAt q (by omega)]
          have hp := pad_at l1
          rw [HLL.out, HQ.out] at hp
          rw [byteCells, List.getElem?_map, hp, ← hby]
          simp only [Option.map_some]
          rw [toNat_of _ (byteAt_lt _ _)]
        have hq1 : (L : Int).tdiv 8 = (q : Int) := by have h := HQ.out; rw [Int.tdiv_eq_ediv_of_nonneg (by omega)]; omega
        have hqn : (q : Int).toNat = q := by omega
        have HB4 := Lib.hid hb4
        have HO4 := Lib.hid hown4
        have HS4 := Lib.hid hst4
        have HBY := Lib.hid hby
        clear hb4 hown4 hst4 hby
        have hqw : IntKind.i64.wrap (q : Int) = (q : Int) := by rw [IntKind.wrap_i64]; omega
        have hq0 : (0 : Int) ≤ (q : Int) := by omega
        have hqq : (q : Int) < (q : Int) + 1 := by omega
        obtain ⟨sh, hsh⟩ : ∃ sh : Nat, 7 - L % 8 = sh := ⟨_, rfl⟩
        have hsc : Calls Try.prog 77 #[.int .i64 (L : Int)] W2 (fun e w'' => e = .returned (.int .i64 (sh : Int)) ∧ w'' = W2) := by
          refine (shift_any L (by omega) W2).mono ?_
          rintro e w'' ⟨rfl, rfl⟩
          refine ⟨?_, rfl⟩
          congr 2
          omega
        have HSC := Lib.hid hsc
        have HSH := Lib.hid hsh
        have hs0 : (0 : Int) ≤ (sh : Int) := by omega
        have hj0 : (0 : Int) ≤ (j : Int) := by omega
        clear hsc hsh
        repeat still_step
        still_call HSC.out
        repeat still_step
        refine wpStill_nil ?_
        go_wp2
        have hl2 : l ++ (done ++ [decide (x / 2 ^ j % 2 = 1)]) = l1 ++ [decide (x / 2 ^ j % 2 = 1)] := by rw [← List.append_assoc, H1.out]
        refine ⟨⟨j, done ++ [decide (x / 2 ^ j % 2 = 1)], _, by omega, rfl, ?_, ?_, HS.out.trans (push_step HS4.out _ _ _ _), ?_⟩, ?_⟩
        · rw [hl2]
          refine push_end hBg HB4.out HO4.out hag (HLL.out ▸ HQ.out) x j _ _ ?_ (by rw [HLL.out])
          rw [HLL.out, HBY.out, HSH.out]
          exact push_byte x j by_ sh hx (by have := HSH.out; omega) hby256
        · rw [← HL.out, low, List.append_assoc]
          rfl
        · have h1 := HS4.out.size
          simp only [World.setCell, Array.size_modify]
          omega
        · simp only [intOf]
          omega
      · have hpl : (pack l1).length = l1.length / 8 + 1 := by rw [pack_len]; omega
        rw [hpl] at hown
        have hpad := pad_old l1 hr
        rw [← hpad] at hown
        obtain ⟨L, hL⟩ : ∃ L, l1.length = L := ⟨_, rfl⟩
        rw [hL] at c1 hown hlen hr
        have hr0 : ((L : Int) % 8 == 0) = false := by simp; omega
        have HLL := Lib.hid hL
        clear hpl hpad hL hr
        obtain ⟨q, hq⟩ : ∃ q, L / 8 = q := ⟨_, rfl⟩
        rw [hq] at hown
        have HQ := Lib.hid hq
        clear hq
        have hql : q ≤ 1000064 := by have := HQ.out; omega
        obtain ⟨a, cap, rfl, _, _⟩ := hown.form (by omega)
        have HO := Lib.hid hown
        clear hown
        go_wp2
        clear c0 c1 f0 f1
        have hb3 := HC.out
        have hown3 := HO.out
        have hag : a ≠ g := own_ne hown3 hb3
        have hst3 := Stepped.refl g (.slice (some ⟨a, 0, none⟩) (q + 1) cap) wr
        refine wp_region_still_tail 24 (by kernel_rfl) (by kernel_rfl) ?_
        simp only [List.take_succ_cons, List.take_zero, List.drop_succ_cons, List.drop_zero]
        change wpStill _ _ wr.drew (fun a' => wpList _ _ _ _ a' wr.drew) _ _
        have hb4 : wr.drew.heap[g]? = _ := hb3
        have hown4 := ownsRow_block (w' := wr.drew) hown3 rfl
        have hst4 : Stepped g (.slice (some ⟨a, 0, none⟩) (q + 1) cap) wr (.slice (some ⟨a, 0, none⟩) (q + 1) cap) wr.drew := ⟨hst3.os, hst3.tape, hst3.output, hst3.size, hst3.block, hst3.own⟩
        generalize wr.drew = W2 at hb4 hown4 hst4 ⊢
        clear hb3 hown3 hst3
        have k0 : W2.cell? ⟨g, 0, none⟩ = some (.slice (some ⟨a, 0, none⟩) (q + 1) cap) := cell_of (i := 0) hb4 rfl
        have k1 : W2.cell? ⟨g, 1, none⟩ = some (.int .i64 (L : Int)) := by rw [cell_of (i := 1) (v := .int .i64 l1.length) hb4 rfl, HLL.out]
        have g1 : W2.frozen? ⟨g, 1, none⟩ = false := frozen_of hb4
        have g2 : W2.frozen? ⟨a, q, none⟩ = false := hown4.frozenAt _
        obtain ⟨by_, hby⟩ : ∃ b, byteAt l1 q = b := ⟨_, rfl⟩
        have hby256 : by_ < 256 := by rw [← hby]; exact byteAt_lt _ _
        have k2 : W2.cell? ⟨a, q, none⟩ = some (.int .u8 (by_ : Int)) := by
          rw [hown4.cellAt q (by omega)]
          have hp := pad_at l1
          rw [HLL.out, HQ.out] at hp
          rw [byteCells, List.getElem?_map, hp, ← hby]
          simp only [Option.map_some]
          rw [toNat_of _ (byteAt_lt _ _)]
        have hq1 : (L : Int).tdiv 8 = (q : Int) := by have h := HQ.out; rw [Int.tdiv_eq_ediv_of_nonneg (by omega)]; omega
        have hqn : (q : Int).toNat = q := by omega
        have HB4 := Lib.hid hb4
        have HO4 := Lib.hid hown4
        have HS4 := Lib.hid hst4
        have HBY := Lib.hid hby
        clear hb4 hown4 hst4 hby
        have hqw : IntKind.i64.wrap (q : Int) = (q : Int) := by rw [IntKind.wrap_i64]; omega
        have hq0 : (0 : Int) ≤ (q : Int) := by omega
        have hqq : (q : Int) < (q : Int) + 1 := by omega
        obtain ⟨sh, hsh⟩ : ∃ sh : Nat, 7 - L % 8 = sh := ⟨_, rfl⟩
        have hsc : Calls Try.prog 77 #[.int .i64 (L : Int)] W2 (fun e w'' => e = .returned (.int .i64 (sh : Int)) ∧ w'' = W2) := by
          refine (shift_any L (by omega) W2).mono ?_
          rintro e w'' ⟨rfl, rfl⟩
          refine ⟨?_, rfl⟩
          congr 2
          omega
        have HSC := Lib.hid hsc
        have HSH := Lib.hid hsh
        have hs0 : (0 : Int) ≤ (sh : Int) := by omega
        have hj0 : (0 : Int) ≤ (j : Int) := by omega
        clear hsc hsh
        repeat still_step
        still_call HSC.out
        repeat still_step
        refine wpStill_nil ?_
        go_wp2
        have hl2 : l ++ (done ++ [decide (x / 2 ^ j % 2 = 1)]) = l1 ++ [decide (x / 2 ^ j % 2 = 1)] := by rw [← List.append_assoc, H1.out]
        refine ⟨⟨j, done ++ [decide (x / 2 ^ j % 2 = 1)], _, by omega, rfl, ?_, ?_, HS.out.trans (push_step HS4.out _ _ _ _), ?_⟩, ?_⟩
        · rw [hl2]
          refine push_end hBg HB4.out HO4.out hag (HLL.out ▸ HQ.out) x j _ _ ?_ (by rw [HLL.out])
          rw [HLL.out, HBY.out, HSH.out]
          exact push_byte x j by_ sh hx (by have := HSH.out; omega) hby256
        · rw [← HL.out, low, List.append_assoc]
          rfl
        · have h1 := HS4.out.size
          simp only [World.setCell, Array.size_modify]
          omega
        · simp only [intOf]
          omega
end Go.Proofs.Yteennnhinfnahaa
namespace Go.Proofs.Yteennnhinfnahaa
open Go.RowKit Go.Shelf Go.Lib


set_option maxHeartbeats 1000000 in
theorem clone_any {w : World} {v : Value} {L : List UInt8} (h : Sees w w.heap.size v L) (hL : L.length ≤ 10000000) :
    Calls Try.prog 64 #[v] w fun e w' => ∃ v', e = .returned v' ∧ w'.ownsRow w.heap.size 5 1 v' L.length (byteCells L) ∧ Below w.heap.size w w' := by
  rcases h with ⟨rfl, rfl⟩ | ⟨ad, cap, rfl, hc, hb, hj⟩
  · have hn : (binOp .eql 54 (.slice none 0 0) (.slice none 0 0)).run Try.prog w = .ok (.bool true) w := run_eql_slice_nil w _ _ none 0 0 0 0 Try.underlying54
    go_enter Try.func64, Try.ntmps64
    go_wp2
    go_ret
    exact ⟨_, rfl, World.ownsRow_nil _ _ _ _, Below.refl _ _⟩
  · obtain ⟨i0, hi, hz0, hz1, hz2⟩ := info_parts' Try.infoByte
    have hnews : ∀ (j : Nat) (u : Value), (byteCells L)[j]? = some u → (w.alloc (.cells #[] 5)).cell? (ad.add j) = some u := by
      intro j u hu
      have hjl : j < L.length := by
        have := (List.getElem?_eq_some_iff.1 hu).1
        rw [byteCells_length] at this
        exact this
      have hu2 : u = .int .u8 (L[j].toNat : Int) := by
        simp only [byteCells, List.getElem?_map, List.getElem?_eq_getElem hjl, Option.map_some, Option.some.injEq] at hu
        exact hu.symm
      rw [hu2, World.cell?_alloc_lt w _ _ (by rw [block_add]; exact hb (by omega))]
      exact hj j hjl
    have HN := Lib.hid hnews
    clear hnews hj
    obtain ⟨n, hn⟩ : ∃ n, L.length = n := ⟨_, rfl⟩
    rw [hn] at hL
    have hlen : (byteCells L).length = n * 1 := by rw [byteCells_length, hn, Nat.mul_one]
    have HL := Lib.hid hlen
    have HB1 := Lib.hid (bytes_one L)
    rw [hn]
    clear hn hlen hb hc
    have hn : (binOp .eql 54 (.slice (some ad) n cap) (.slice none 0 0)).run Try.prog w = .ok (.bool false) w := run_eql_slice_nil w _ _ (some ad) n cap 0 0 Try.underlying54
    go_enter Try.func64, Try.ntmps64
    go_wp2_with (at_builtin; (refine wpList_append_own _ rfl (.tmp 5) (.tmp 6) 54 rfl w.heap.size 5 i0 _ 1 1 Try.underlying54 hi hz0 hz1 hz2 rfl (by decide) _ 0 _ rfl (own_empty w 5) ad n _ (byteCells L) rfl HL.out HN.out HB1.out (by unfold maxLen; omega) (by omega) (by simp) ?_))
    intro v' w' hown hgrow _
    have hbl : Below w.heap.size w w' := ((Below.refl w.heap.size w).alloc (Nat.le_refl _) _).grown hgrow (by simp) (fun k e => by simp only [Value.ownBlock, Option.some.injEq] at e; omega)
    have HO := Lib.hid hown
    have HBL := Lib.hid hbl
    clear hown hgrow hbl
    go_wp2
    go_ret
    refine ⟨_, rfl, ?_, HBL.out⟩
    exact HO.out

set_option maxHeartbeats 400000 in
theorem bytes_any {w : World} {B g : Nat} {v : Value} {l : List Bool} (hw : WAt w B g v l) (hl : l.length ≤ 10000000) :
    Calls Try.prog 44 #[.pointer (some ⟨g, 0, none⟩)] w fun e w' => ∃ v', e = .returned v' ∧ w'.ownsRow w.heap.size 5 1 v' (pack l).length (byteCells (pack l)) ∧ Below w.heap.size w w' := by
  have c0 : w.cell? ⟨g, 0, none⟩ = some v := cell_of (i := 0) hw.2.1 rfl
  have hs := sees_own hw.2.2
  have hc := clone_any hs (by rw [pack_len]; omega)
  have HC := Lib.hid hc
  clear hw hs hc
  go_enter Try.func44, Try.ntmps44
  go_wp2_with (go_at_call 64; refine HC.out.mono ?_)
  rintro e w' ⟨v', rfl, hown, hb⟩
  have HO := Lib.hid hown
  have HB := Lib.hid hb
  clear hown hb
  go_wp2
  go_ret
  exact ⟨_, rfl, HO.out, HB.out⟩

theorem push_of {w : World} {B g : Nat} {v : Value} {l : List Bool} (hw : WAt w B g v l) (hB : B ≤ w.heap.size) (x n : Nat) (X N : Int) (hX : X = x) (hN : N = n) (hx : x < 18446744073709551616) (hn : n ≤ 64) (hl : l.length ≤ 1000000) :
    Calls Try.prog 63 #[.pointer (some ⟨g, 0, none⟩), .int .u64 X, .int .i64 N] w fun e w' => ∃ v', e = .returned (.tuple #[]) ∧ WAt w' B g v' (l ++ low x n) ∧ Stepped g v w v' w' := by
  subst hX hN
  exact push_any hw hB x n hx hn hl

end Go.Proofs.Yteennnhinfnahaa
namespace Go.Proofs.Yteennnhinfnahaa
open Go.RowKit Go.Shelf Go.Lib

theorem put_byte (x : Nat) : bits .or .u8 ((x : Int) % 256) 128 = ((x % 128 + 128 : Nat) : Int) := by
  have e : (x : Int) % 256 = ((x % 256 : Nat) : Int) := by omega
  have h := u8_or_nat (x % 256) 128 (by omega) (by omega)
  have e2 : ((128 : Nat) : Int) = 128 := rfl
  rw [e2] at h
  rw [e, h]
  have h3 : x % 256 ||| 128 = x % 128 + 128 := by
    obtain ⟨y, hy⟩ : ∃ y, x % 256 = y := ⟨_, rfl⟩
    have hx : x % 128 = y % 128 := by omega
    have hy2 : y < 256 := by omega
    rw [hy, hx]
    clear hy hx h e
    have all : ∀ z : Fin 256, z.val ||| 128 = z.val % 128 + 128 := by decide +kernel
    exact all ⟨y, hy2⟩
  rw [h3]

/-- Between two rounds: x' is left of the number, the bytes 'done' have been appended to L. -/
def URel (B : Nat) (L : List UInt8) (x : Nat) (w : World) (v5 v1 : Value) (wr : World) : Prop :=
  ∃ (done : List UInt8) (x' : Nat), v1 = .int .u64 x' ∧ x' < 18446744073709551616 ∧ done ++ enc x' = enc x ∧ wr.ownsRow B 5 1 v5 (L.length + done.length) (byteCells (L ++ done)) ∧ Below B w wr

end Go.Proofs.Yteennnhinfnahaa
namespace Go.Proofs.Yteennnhinfnahaa
open Go.RowKit Go.Shelf Go.Lib

theorem WAt.kept {w w' : World} {B g : Nat} {v : Value} {l : List Bool} (h : WAt w B g v l) (hb : Below w.heap.size w w') : WAt w' B g v l :=
  ⟨h.1, (hb.block g h.lt).trans h.2.1, own_below h.2.2 fun k e => hb.block k (own_low h.2.2 k e).2⟩
theorem enc_300 : enc 300 = [172, 2] := by
  rw [enc_ge (by omega), enc_lt (by omega)]
  rfl
theorem awake_len : ([] ++ gam 5 ++ del 5).length = 10 := by decide +kernel
theorem awake_pack : pack ([] ++ gam 5 ++ del 5) = [43, 64] := by decide +kernel

end Go.Proofs.Yteennnhinfnahaa
namespace Go.Proofs.Yteennnhinfnahaa
open Go.RowKit Go.Shelf Go.Lib

/-- A Writer stands while another one writes. -/
theorem WAt.aside {w w' : World} {B g g' : Nat} {v v1 v1' : Value} {l : List Bool} (h : WAt w B g v l) (hs : Stepped g' v1 w v1' w') (hg : g ≠ g') (hb : v1.ownBlock ≠ some g) (hv : ∀ k, v.ownBlock = some k → k ≠ g' ∧ v1.ownBlock ≠ some k) : WAt w' B g v l :=
  ⟨h.1, (hs.block g h.lt hg hb).trans h.2.1, own_below h.2.2 fun k e => hs.block k (own_low h.2.2 k e).2 (hv k e).1 (hv k e).2⟩
end Go.Proofs.Yteennnhinfnahaa
namespace Go.Proofs.Yteennnhinfnahaa
open Go.RowKit Go.Shelf Go.Lib

/-- A call of a Writer or a Reader. -/
structure CallL where
  kind : Int
  v : Nat
  n : Int
def callV (c : CallL) : Value := .agg #[.int .i64 c.kind, .int .u64 c.v, .int .i64 c.n]
def okCall (c : CallL) : Prop := -9223372036854775808 ≤ c.kind ∧ c.kind ≤ 9223372036854775807 ∧ c.v < 18446744073709551616 ∧ -9223372036854775808 ≤ c.n ∧ c.n ≤ 9223372036854775807
/-- The bits that a call appends, if it is no error. -/
def wrL (c : CallL) : Option (List Bool) :=
  if c.kind = 0 then (if c.n < 0 ∨ 64 < c.n ∨ 2 ^ c.n.toNat ≤ c.v then none else some (low c.v c.n.toNat))
  else if c.kind = 1 then (if c.n < 0 ∨ 4096 < c.n then none else some (una c.n.toNat))
  else if c.v = 0 then none
  else if c.kind = 2 then some (gam c.v) else some (del c.v)
theorem wrL_len (c : CallL) (h : okCall c) (bs : List Bool) (hb : wrL c = some bs) : bs.length ≤ 4097 := by
  obtain ⟨_, _, h2, _, _⟩ := h
  have hl := log_lt c.v h2
  unfold wrL at hb
  split at hb
  · split at hb
    · cases hb
    · injection hb with hb; subst hb; rw [low_len]; omega
  · split at hb
    · split at hb
      · cases hb
      · injection hb with hb; subst hb; rw [una_len]; omega
    · split at hb
      · cases hb
      · split at hb
        · injection hb with hb; subst hb; rw [gam_len]; omega
        · injection hb with hb; subst hb; rw [del_len]
          have := log_lt (Nat.log2 c.v + 1) (by omega)
          omega
/-- The error that a call answers. -/
def errW (o : Option (List Bool)) : Int := match o with | some _ => 0 | none => 1
def bitsW (o : Option (List Bool)) : List Bool := match o with | some l => l | none => []

set_option maxHeartbeats 400000 in
theorem wbits_out (p : Value) (x n : Int) (h : n < 0 ∨ 64 < n) (w : World) :
    Calls Try.prog 43 #[p, .int .u64 x, .int .i64 n] w fun e w' => e = .returned (.int .i64 1) ∧ w = w' := by
  rcases h with h | h
  · go_enter Try.func43, Try.ntmps43
    go_wp2
    go_ret
    exact ⟨rfl, rfl⟩
  · have h0 : 0 ≤ n := by omega
    go_enter Try.func43, Try.ntmps43
    go_wp2
    go_ret
    exact ⟨rfl, rfl⟩
theorem shr_small (x n : Nat) : ((x : Int) / 2 ^ n != 0) = decide (2 ^ n ≤ x) := by
  have e : (x : Int) / 2 ^ n = ((x / 2 ^ n : Nat) : Int) := by simp
  rw [e, Bool.eq_iff_iff]
  simp only [bne_iff_ne, ne_eq, decide_eq_true_eq]
  have hp : 0 < 2 ^ n := Nat.pow_pos (by decide)
  constructor
  · intro h
    rcases Nat.lt_or_ge x (2 ^ n) with hlt | hge
    · rw [Nat.div_eq_of_lt hlt] at h
      simp at h
    · exact hge
  · intro h h0
    have := (Nat.div_pos_iff).2 ⟨hp, h⟩
    omega
set_option maxHeartbeats 400000 in
theorem wbits_big (p : Value) (x n : Nat) (hn : n ≤ 64) (h : 2 ^ n ≤ x) (w : World) :
    Calls Try.prog 43 #[p, .int .u64 x, .int .i64 n] w fun e w' => e = .returned (.int .i64 1) ∧ w = w' := by
  have hs := shr_small x n
  rw [decide_eq_true h] at hs
  have hn1 : (n : Int) ≤ 64 := by omega
  clear h
  go_enter Try.func43, Try.ntmps43
  go_wp2
  go_ret
  exact ⟨rfl, rfl⟩
set_option maxHeartbeats 400000 in
theorem wbits_any {w : World} {B g : Nat} {v : Value} {l : List Bool} (hw : WAt w B g v l) (hB : B ≤ w.heap.size) (x n : Nat) (hx : x < 18446744073709551616) (hn : n ≤ 64) (h : x < 2 ^ n) (hl : l.length ≤ 900000) :
    Calls Try.prog 43 #[.pointer (some ⟨g, 0, none⟩), .int .u64 x, .int .i64 n] w fun e w' => ∃ v', e = .returned (.int .i64 0) ∧ WAt w' B g v' (l ++ low x n) ∧ Stepped g v w v' w' := by
  have hs := shr_small x n
  rw [decide_eq_false (by omega)] at hs
  have hn1 : (n : Int) ≤ 64 := by omega
  have HW := Lib.hid hw
  clear h hw
  go_enter Try.func43, Try.ntmps43
  go_wp2_with fail
  refine (push_any HW.out hB x n hx hn (by omega)).mono ?_
  rintro e w2 ⟨v2, rfl, hw2, hs2⟩
  have HW2 := Lib.hid hw2
  have HS2 := Lib.hid hs2
  clear hw2 hs2
  go_wp2_with fail
  go_ret
  exact ⟨v2, rfl, HW2.out, HS2.out⟩

/-- Between two rounds of Unary. -/
def NRel (B g : Nat) (l : List Bool) (n : Nat) (v : Value) (w : World) (i : Value) (wr : World) : Prop :=
  ∃ (k : Nat) (v' : Value), k ≤ n ∧ i = .int .i64 (k : Int) ∧ WAt wr B g v' (l ++ List.replicate k false) ∧ Stepped g v w v' wr ∧ B ≤ wr.heap.size
end Go.Proofs.Yteennnhinfnahaa
