/-
  WALKS over package markup: FormatTag.
-/
import Derived.Test.YtjablaidbccnbaaGreatDoorMkY
import Derived.Deep.RegionHeld3
namespace Go.Proofs.YtjablaidbccnbaaGreatDoor
open Go.RowKit Go.Shelf Go.Lib

/-- The text of a key, of what is ahead of the keys, of a tag. -/
def keyT (k : Pr) : Bs := [32] ++ k.1 ++ [61, 34] ++ esc k.2 ++ [34]
def headT (t : TagL) : Bs := [60] ++ (if t.close then [47] else []) ++ t.name
def textT (t : TagL) : Bs := headT t ++ (sortP t.keys).flatMap keyT ++ [62]
def formatS (t : TagL) : Bs := if checkT t = 0 then textT t else []
theorem keyT_len (k : Pr) (h1 : k.1.length ≤ 1000000) (h2 : k.2.length ≤ 1000000) : (keyT k).length ≤ 7000004 := by
  have := esc_len k.2
  simp [keyT]
  omega
theorem keysT_len (l : List Pr) (h : ∀ p ∈ l, p.1.length ≤ 1000000 ∧ p.2.length ≤ 1000000) : (l.flatMap keyT).length ≤ l.length * 7000004 := by
  induction l with
  | nil => simp
  | cons p l ih =>
    have h1 := keyT_len p (h p (by simp)).1 (h p (by simp)).2
    have h2 := ih fun q hq => h q (by simp [hq])
    simp only [List.flatMap_cons, List.length_append, List.length_cons]
    omega
theorem keysE_apart : ∀ (ks before : List Pr), keysE before ks = 0 → Apart before → Apart (before ++ ks)
  | [], before, _, h => by simpa using h
  | k :: r, before, h, ha => by
    unfold keysE at h
    split at h
    · rename_i h1
      exact absurd h h1
    · rename_i h1
      have h2 : hasN before k.1 = false := by
        unfold keyE at h1
        split at h1
        · exact absurd (by decide) h1
        · split at h1
          · exact absurd (by decide) h1
          · rename_i h3
            simpa using h3
      have := keysE_apart r (before ++ [k]) h ((apart_iff _ _).2 ⟨ha, h2⟩)
      simpa using this
theorem checkT_zero {t : TagL} (h : checkT t = 0) : nameB t.name = true ∧ ¬ (t.close = true ∧ 0 < t.keys.length) ∧ t.keys.length ≤ 8 ∧ keysE [] t.keys = 0 ∧ Apart t.keys := by
  unfold checkT at h
  split at h
  · cases h
  · rename_i h1
    split at h
    · cases h
    · rename_i h2
      refine ⟨by simpa using h1, fun h3 => h2 (.inl h3), by omega, h, ?_⟩
      have := keysE_apart t.keys [] h .nil
      simpa using this

theorem bd_type {b : Nat} {L : Bs} {W : World} (h : Bd b L W) : ∃ cs f, W.heap[b]? = some (.cells cs 60 f) := by
  rcases h with ⟨_, v, hb, _⟩ | ⟨_, v, hb, _⟩ <;> exact ⟨_, _, hb⟩
theorem pair_kept {b q : Nat} {L : Bs} {W W' : World} {cs : Array Value} {f : Nat × Nat} (bd : Bd b L W) (h : W.heap[q]? = some (.cells cs 54 f)) (ho : Lib.OthersKept 5 (some b) W W') : W'.heap[q]? = some (.cells cs 54 f) := by
  refine ho q _ h ?_ ?_
  · intro e
    obtain ⟨cs', f', hh'⟩ := bd_type bd
    rw [← Option.some.inj e, h] at hh'
    cases hh'
  · intro c fz e
    cases e
theorem pair_cells {q : Nat} {W : World} {a b : ByteArray} (h : W.heap[q]? = some (.cells #[.string a, .string b] 54 (0, 0))) : W.cell? ⟨q, 0, none⟩ = some (.string a) ∧ W.cell? ⟨q, 1, none⟩ = some (.string b) := ⟨cell_of h rfl, cell_of h rfl⟩
/-- What holds while the text is written. -/
structure FS (V wr : World) (L : Bs) (v : Value) (sk : List Pr) : Prop where
  bd : Bd V.heap.size L wr
  below : Below V.heap.size V wr
  keys : Keys wr v sk
  pairs : PairsAt wr v
theorem FS.write {V wr W : World} {L T : Bs} {v : Value} {sk : List Pr} (h : FS V wr L v sk) (bd : Bd V.heap.size (L ++ T) W) (hb : Below V.heap.size wr W) (ho : Lib.OthersKept 5 (some V.heap.size) wr W) : FS V W (L ++ T) v sk := by
  obtain ⟨A, cap, rfl, hc, hj⟩ := id h.keys
  have hkb : ∀ b off, A = some ⟨b, off, none⟩ → W.heap[b]? = wr.heap[b]? := by
    intro b off e
    subst e
    obtain ⟨cs, f, hh⟩ := h.pairs b off _ _ rfl
    refine (ho b _ hh ?_ ?_).trans hh.symm
    · intro e
      obtain ⟨cs', f', hh'⟩ := bd_type h.bd
      rw [← Option.some.inj e, hh] at hh'
      cases hh'
    · intro c fz e
      cases e
  refine ⟨bd, h.below.trans hb, ⟨A, cap, rfl, hc, fun h0 => ?_⟩, ?_⟩
  · obtain ⟨b, off, hA, hbl, hj⟩ := hj h0
    have hk : ∀ i, W.cell? ⟨b, i, none⟩ = wr.cell? ⟨b, i, none⟩ := fun i => World.cell?_of_block (w := wr) (hkb b off hA)
    exact ⟨b, off, hA, Nat.lt_of_lt_of_le hbl hb.size, fun j p hp => ⟨(hk _).trans (hj j p hp).1, (hk _).trans (hj j p hp).2⟩⟩
  · intro b off l c e
    cases e
    obtain ⟨cs, f, hh⟩ := h.pairs b off _ _ rfl
    exact ⟨cs, f, (hkb b off rfl).trans hh⟩
theorem FS.to {V wr W : World} {L : Bs} {v : Value} {sk : List Pr} (h : FS V wr L v sk) (hb : Below wr.heap.size wr W) : FS V W L v sk :=
  ⟨bd_below h.bd hb, h.below.trans (hb.mono h.below.size), h.keys.below hb, fun b off l c e => by
    obtain ⟨cs, f, hh⟩ := h.pairs b off l c e
    exact ⟨cs, f, block_below hh hb (Array.getElem?_eq_some_iff.1 hh).1⟩⟩
theorem text_bytes (n x : Bs) : (⟨#[32]⟩ ++ (⟨n.toArray⟩ : ByteArray) ++ ⟨#[61, 34]⟩ ++ ⟨(esc x).toArray⟩ ++ ⟨#[34]⟩ : ByteArray) = ⟨(keyT (n, x)).toArray⟩ := by
  apply ByteArray.ext
  simp [keyT]

set_option maxRecDepth 100000 in
set_option maxHeartbeats 4000000 in
theorem formatTag_any {w : World} {v : Value} (t : TagL) (hN : Named w) (hk : Keys w v t.keys) (hl : t.keys.length ≤ 1000000) (hn : t.name.length ≤ 1000000) (hs : ∀ p ∈ t.keys, p.1.length ≤ 1000000 ∧ p.2.length ≤ 1000000) :
    Calls Tryz.prog 11 #[.agg #[.bool t.close, .string ⟨t.name.toArray⟩, v]] w fun e w' => e = .returned (.tuple #[.string ⟨(formatS t).toArray⟩, .int .i64 (checkT t : Nat)]) ∧ Below w.heap.size w w' := by
  have hb1 : Below w.heap.size w (w.alloc (.cells #[.bool t.close, .string ⟨t.name.toArray⟩, v] 24)) := (Below.refl _ w).alloc (Nat.le_refl _) _
  have hB := block_new w (.cells #[.bool t.close, .string ⟨t.name.toArray⟩, v] 24)
  have hcK := tagCheck_any t (hk.below hb1) hl (by unfold maxLen; omega) (fun p hp => by have := hs p hp; unfold maxLen; omega)
  obtain ⟨W, hW⟩ : ∃ W, (w.alloc (.cells #[.bool t.close, .string ⟨t.name.toArray⟩, v] 24)) = W := ⟨_, rfl⟩
  have hkW := hk.below hb1
  rw [hW] at hb1 hB hcK hkW
  have HW := Lib.hid hW
  have HK := Lib.hid hkW
  have HB := Lib.hid hB
  have HB1 := Lib.hid hb1
  have HS := Lib.hid hs
  have HCK := Lib.hid hcK
  have HN := Lib.hid hN
  have HNL := Lib.hid hn
  have c0 := cell_of (i := 0) hB rfl
  have c1 := cell_of (i := 1) hB rfl
  have c2 := cell_of (i := 2) hB rfl
  obtain ⟨sn, hsn⟩ : ∃ s : ByteArray, (⟨t.name.toArray⟩ : ByteArray) = s := ⟨_, rfl⟩
  have HSN := Lib.hid hsn
  obtain ⟨z, hz⟩ : ∃ z, checkT t = z := ⟨_, rfl⟩
  have HZ := Lib.hid hz
  rw [hz] at HCK
  rw [hsn] at HW HB HCK c1
  unfold formatS
  rw [hz, hsn]
  obtain ⟨A, p, hv, hc, _⟩ := hk
  obtain ⟨l, hll⟩ : ∃ l, t.keys.length = l := ⟨_, rfl⟩
  rw [hll] at hv
  have HLL := Lib.hid hll
  obtain ⟨c, hcl⟩ : ∃ c, t.close = c := ⟨_, rfl⟩
  rw [hcl] at HW HB HCK c0 ⊢
  have HCL := Lib.hid hcl
  subst hv
  clear hkW hW hB hb1 hs hcK hN hsn hz hc hl hn hll hcl
  by_cases hz0 : z = 0
  · subst hz0
    rw [if_pos rfl]
    obtain ⟨q1, q2, q3, q4, q5⟩ := checkT_zero HZ.out
    have HQ := Lib.hid (And.intro q3 q5)
    clear q1 q2 q3 q4 q5
    cases c with
    | true =>
      go_enter Tryz.func11, Tryz.ntmps11
      go_wp2_with fail
      rw [HW.out]
      go_wp2_with fail
      refine HCK.out.mono ?_
      rintro e w1 ⟨rfl, hb2⟩
      have hT := block_below HB.out hb2 (Array.getElem?_eq_some_iff.1 HB.out).1
      have HT := Lib.hid hT
      have HTL := Lib.hid (Array.getElem?_eq_some_iff.1 hT).1
      have HKV := Lib.hid (HK.out.below hb2)
      have HB2 := Lib.hid (HB1.out.trans (hb2.mono HB1.out.size))
      have hf1 : FS w1 (w1.alloc (.cells #[.pointer none, .slice none 0 0] 60)) [] (.slice none 0 0) [] := ⟨bd_new w1, (Below.refl _ w1).alloc (Nat.le_refl _) _, keys_nil _, fun b off l c e => by cases e⟩
      have HF1 := Lib.hid hf1
      have HWR1 := Lib.hid (write_bd hf1.bd [60] (by simp))
      clear hf1 hT hb2 c0 c1 c2
      go_wp2_with fail
      refine HWR1.out.mono ?_
      rintro e w2 ⟨rfl, bd2, hb2, ho2⟩
      have hf2 := HF1.out.write bd2 hb2 ho2
      have HF2 := Lib.hid hf2
      have d0 := cell_of (i := 0) (block_below HT.out hf2.below HTL.out) rfl
      have d1 := cell_of (i := 1) (block_below HT.out hf2.below HTL.out) rfl
      clear bd2 hb2 ho2
      have HWR2 := Lib.hid (write_bd hf2.bd [47] (by simp))
      clear hf2
      go_wp2_with fail
      refine HWR2.out.mono ?_
      rintro e w3 ⟨rfl, bd3, hb3, ho3⟩
      have hf3 := HF2.out.write bd3 hb3 ho3
      have HF3 := Lib.hid hf3
      clear d0 d1
      have d1 := cell_of (i := 1) (block_below HT.out hf3.below HTL.out) rfl
      have HWR3 := Lib.hid (write_bd hf3.bd t.name (by have := HNL.out; simp; omega))
      rw [HSN.out] at HWR3
      clear hf3 bd3 hb3 ho3
      go_wp2_with fail
      refine HWR3.out.mono ?_
      rintro e w4 ⟨rfl, bd4, hb4, ho4⟩
      have hf4 : FS w1 w4 (headT t) (.slice none 0 0) [] := by
        have := HF3.out.write bd4 hb4 ho4
        have e : headT t = [] ++ [60] ++ [47] ++ t.name := by unfold headT; rw [HCL.out]; rfl
        rw [e]
        exact this
      clear d1 bd4 hb4 ho4
      have HF4 := Lib.hid hf4
      have d2 := cell_of (i := 2) (block_below HT.out hf4.below HTL.out) rfl
      have HSO := Lib.hid (sorted_typed (HKV.out.below hf4.below) (by have := HQ.out.1; omega) HQ.out.2)
      clear hf4
      go_wp2_with fail
      refine HSO.out.mono ?_
      rintro e w5 ⟨⟨v', rfl, hK5, hT5⟩, hb5⟩
      have hf5 : FS w1 w5 (headT t) v' (sortP t.keys) := ⟨(HF4.out.to hb5).bd, (HF4.out.to hb5).below, hK5, hT5⟩
      have hsl := sortP_len t.keys
      have hss : ∀ p ∈ sortP t.keys, p.1.length ≤ 1000000 ∧ p.2.length ≤ 1000000 := fun p hp => HS.out p ((sortP_perm t.keys).mem_iff.1 hp)
      have hHl : (headT t).length ≤ 1000002 := by
        have := HNL.out
        unfold headT
        split <;> simp <;> omega
      obtain ⟨H, hH⟩ : ∃ H, headT t = H := ⟨_, rfl⟩
      obtain ⟨sk, hsk⟩ : ∃ sk, sortP t.keys = sk := ⟨_, rfl⟩
      have htx : textT t = H ++ sk.flatMap keyT ++ [62] := by rw [← hH, ← hsk]; rfl
      rw [hsk] at hf5 hsl hss
      rw [hH] at hf5 hHl
      obtain ⟨n8, hn8⟩ : ∃ n8, sk.length = n8 := ⟨_, rfl⟩
      have h8 : n8 ≤ 8 := by have := HQ.out.1; omega
      obtain ⟨A5, p5, hv5, _⟩ := id hf5.keys
      rw [hn8] at hv5
      subst hv5
      have HF5 := Lib.hid hf5
      have HSS := Lib.hid hss
      have HHL := Lib.hid hHl
      have HTX := Lib.hid htx
      have HN8 := Lib.hid hn8
      have HN5 := Lib.hid (fun W (h : Below w1.heap.size w1 W) => HN.out.below (HB2.out.trans (h.mono HB2.out.size)) HN.out.lt)
      clear hsl hss hHl hH hsk htx hn8 hf5 hK5 hT5 hb5 d2
      go_wp2_with fail
      go_loopw [24] (fun i wr => ∃ k : Nat, k ≤ n8 ∧ i = .int .i64 k ∧ FS w1 wr (H ++ (sk.take k).flatMap keyT) (.slice A5 n8 p5) sk) (fun i _ => n8 - (Go.RowKit.intOf i).toNat)
      case atStart => exact ⟨0, Nat.zero_le _, rfl, by simpa using HF5.out⟩
      case round =>
        obtain ⟨k, hkl, rfl, hf⟩ := hrel
        by_cases hlt : k < n8
        · obtain ⟨n0, x0, hp⟩ : ∃ n0 x0, sk[k]? = some (n0, x0) := ⟨_, _, List.getElem?_eq_getElem (by rw [HN8.out]; exact hlt)⟩
          obtain ⟨A', p', hv, hc, hj⟩ := id hf.keys
          obtain ⟨b, off, hA', hbl, hj2⟩ := hj (by rw [HN8.out]; omega)
          cases hv
          subst hA'
          obtain ⟨c0, c1⟩ := hj2 k _ hp
          have hsz := HSS.out _ (List.mem_of_getElem? hp)
          have hlen := keysT_len (sk.take k) (fun p hp => HSS.out p (List.mem_of_mem_take hp))
          rw [List.length_take] at hlen
          have hnx : H ++ (sk.take (k + 1)).flatMap keyT = (H ++ (sk.take k).flatMap keyT) ++ keyT (n0, x0) := by
            rw [List.take_add_one, hp]
            simp
          have hk1 := keyT_len (n0, x0) hsz.1 hsz.2
          obtain ⟨L, hL⟩ : ∃ L, H ++ (sk.take k).flatMap keyT = L := ⟨_, rfl⟩
          have hLl : L.length ≤ 1000002 + 8 * 7000004 := by
            rw [← hL]
            have := HHL.out
            simp only [List.length_append]
            have : min k sk.length * 7000004 ≤ 8 * 7000004 := Nat.mul_le_mul_right _ (by omega)
            omega
          rw [hL] at hnx hf
          obtain ⟨W2, hW2⟩ : ∃ W2, wr.alloc (.cells #[.string ⟨n0.toArray⟩, .string ⟨x0.toArray⟩] 54) = W2 := ⟨_, rfl⟩
          have hb2 : Below wr.heap.size wr W2 := by rw [← hW2]; exact (Below.refl _ wr).alloc (Nat.le_refl _) _
          have hn2 : W2.heap[wr.heap.size]? = some (.cells #[.string ⟨n0.toArray⟩, .string ⟨x0.toArray⟩] 54 (0, 0)) := by rw [← hW2]; exact block_new _ _
          have HW2 := Lib.hid hW2
          have HF2 := Lib.hid (hf.to hb2)
          have HH2 := Lib.hid hn2
          have hes := fun W (h : Below W2.heap.size W2 W) => escapeAll_any ⟨x0.toArray⟩ hsz.2 W (HN5.out W (HF2.out.to h).below)
          have hwr := fun W (h : Below W2.heap.size W2 W) => write_bd (HF2.out.to h).bd (keyT (n0, x0)) (by omega)
          have htb := text_bytes n0 x0
          obtain ⟨sn0, hsn0⟩ : ∃ s : ByteArray, (⟨n0.toArray⟩ : ByteArray) = s := ⟨_, rfl⟩
          obtain ⟨sx0, hsx0⟩ : ∃ s : ByteArray, (⟨x0.toArray⟩ : ByteArray) = s := ⟨_, rfl⟩
          obtain ⟨se, hse⟩ : ∃ s : ByteArray, (⟨(esc x0).toArray⟩ : ByteArray) = s := ⟨_, rfl⟩
          obtain ⟨K, hK⟩ : ∃ K, keyT (n0, x0) = K := ⟨_, rfl⟩
          rw [hK] at hwr htb hnx hk1
          rw [← htb] at hwr
          have hes' : ∀ W, Below W2.heap.size W2 W → Calls Tryz.prog 25 #[.string sx0] W fun e w' => e = .returned (.string se) ∧ Below W.heap.size W w' := by
            intro W h
            rw [← hsx0, ← hse]
            exact hes W h
          have hz0 : sn0.size ≤ 1000000 := by rw [← hsn0]; exact hsz.1
          have hz1 : se.size ≤ 6000000 := by
            rw [← hse]
            have h1 := esc_len x0
            have h2 : x0.length ≤ 1000000 := hsz.2
            show (esc x0).length ≤ _
            omega
          have z1 : ¬ (9223372036854775807 < 1 + sn0.size) := by omega
          have z2 : ¬ (9223372036854775807 < 1 + sn0.size + 2) := by omega
          have z3 : ¬ (9223372036854775807 < 1 + sn0.size + 2 + se.size) := by omega
          have z4 : ¬ (9223372036854775807 < 1 + sn0.size + 2 + se.size + 1) := by omega
          rw [hsn0, hse] at hwr
          rw [hsn0, hsx0] at HH2
          rw [hsn0] at c0
          rw [hsx0] at c1
          rw [hsn0, hsx0] at HW2
          have d0 := cell_of (i := 0) HH2.out rfl
          have d1 := cell_of (i := 1) HH2.out rfl
          have hesD : Calls Tryz.prog 25 #[.string sx0] W2.drew fun e w' => e = .returned (.string se) ∧ Below W2.heap.size W2 w' := (hes' _ (Below.refl _ W2).drew).mono fun _ _ h => ⟨h.1, (Below.refl _ W2).drew.trans h.2⟩
          have HES := Lib.hid hesD
          have HWR := Lib.hid hwr
          have HNX := Lib.hid hnx
          clear hes hes' hesD hwr htb hnx hk1 hK hse hsn0 hsx0 hn2 hb2 hW2 hL hLl hlen hsz hj hj2 hp hf hbl
          go_wp2_with fail
          rw [HW2.out]
          go_region_held3 (fun w' => w'.cell? ⟨wr.heap.size, 0, none⟩ = some (.string sn0) ∧ w'.cell? ⟨wr.heap.size, 1, none⟩ = some (.string sx0))
            (first
              | go_keep
              | (exact pair_cells (pair_kept (HF2.out.to hb3).bd (block_below HH2.out hb3 (Array.getElem?_eq_some_iff.1 HH2.out).1) ho4))
              | (exact pair_cells (block_below HH2.out hb3 (Array.getElem?_eq_some_iff.1 HH2.out).1))
              | fail)
            ((first
              | (go_at_call 25; (with_reducible refine HES.out.mono ?_); rintro e w3 ⟨rfl, hb3⟩)
              | (go_at_call 23; (with_reducible refine (HWR.out _ hb3).mono ?_); rintro e w4 ⟨rfl, bd4, hb4, ho4⟩)
              | fail))
          have HF4 := Lib.hid ((HF2.out.to hb3).write bd4 hb4 ho4)
          clear hb3 bd4 hb4 ho4 d0 d1
          go_wp2_with fail
          exact ⟨⟨k + 1, by omega, by go_num, by rw [HNX.out]; exact HF4.out⟩, by simp only [Go.RowKit.intOf]; omega⟩
        · have hkl' : k = n8 := by omega
          subst hkl'
          have hfin : sk.take k = sk := List.take_of_length_le (by rw [HN8.out]; exact Nat.le_refl _)
          rw [hfin] at hf
          have hlen := keysT_len sk HSS.out
          have HWR := Lib.hid (write_bd hf.bd [62] (by
            have := HHL.out
            have : sk.length * 7000004 ≤ 8 * 7000004 := Nat.mul_le_mul_right _ (by rw [HN8.out]; exact h8)
            simp only [List.length_append, List.length_cons, List.length_nil]
            omega))
          have HF := Lib.hid hf
          clear hf hlen hfin
          go_wp2_with fail
          refine HWR.out.mono ?_
          rintro e w6 ⟨rfl, bd6, hb6, ho6⟩
          have hf6 := HF.out.write bd6 hb6 ho6
          rw [← HTX.out] at hf6
          have HF6 := Lib.hid hf6
          have HST := Lib.hid (string_any w1.heap.size w1.heap.size (textT t) w6 hf6.bd hf6.below.size)
          clear hf6 bd6 hb6 ho6
          go_wp2_with fail
          refine HST.out.mono ?_
          rintro e w7 ⟨rfl, _, hb7, _⟩
          have HB7 := Lib.hid (HB2.out.trans ((HF6.out.below.trans hb7).mono HB2.out.size))
          clear hb7
          go_wp2_with fail
          (try simp only [Exit.inBlock, Exit.then]); refine bodyPost_ret (results_tmp2 rfl _ _ _) rfl ?_
          exact ⟨rfl, HB7.out⟩
    | false =>
      go_enter Tryz.func11, Tryz.ntmps11
      go_wp2_with fail
      rw [HW.out]
      go_wp2_with fail
      refine HCK.out.mono ?_
      rintro e w1 ⟨rfl, hb2⟩
      have hT := block_below HB.out hb2 (Array.getElem?_eq_some_iff.1 HB.out).1
      have HT := Lib.hid hT
      have HTL := Lib.hid (Array.getElem?_eq_some_iff.1 hT).1
      have HKV := Lib.hid (HK.out.below hb2)
      have HB2 := Lib.hid (HB1.out.trans (hb2.mono HB1.out.size))
      have hf1 : FS w1 (w1.alloc (.cells #[.pointer none, .slice none 0 0] 60)) [] (.slice none 0 0) [] := ⟨bd_new w1, (Below.refl _ w1).alloc (Nat.le_refl _) _, keys_nil _, fun b off l c e => by cases e⟩
      have HF1 := Lib.hid hf1
      have HWR1 := Lib.hid (write_bd hf1.bd [60] (by simp))
      clear hf1 hT hb2 c0 c1 c2
      go_wp2_with fail
      refine HWR1.out.mono ?_
      rintro e w2 ⟨rfl, bd2, hb2, ho2⟩
      have hf2 := HF1.out.write bd2 hb2 ho2
      have HF2 := Lib.hid hf2
      have d0 := cell_of (i := 0) (block_below HT.out hf2.below HTL.out) rfl
      have d1 := cell_of (i := 1) (block_below HT.out hf2.below HTL.out) rfl
      clear bd2 hb2 ho2
      have HWR3 := Lib.hid (write_bd hf2.bd t.name (by have := HNL.out; simp; omega))
      rw [HSN.out] at HWR3
      clear hf2
      go_wp2_with fail
      refine HWR3.out.mono ?_
      rintro e w4 ⟨rfl, bd4, hb4, ho4⟩
      have hf4 : FS w1 w4 (headT t) (.slice none 0 0) [] := by
        have := HF2.out.write bd4 hb4 ho4
        have e : headT t = [] ++ [60] ++ t.name := by unfold headT; rw [HCL.out]; rfl
        rw [e]
        exact this
      clear d0 d1 bd4 hb4 ho4
      have HF4 := Lib.hid hf4
      have d2 := cell_of (i := 2) (block_below HT.out hf4.below HTL.out) rfl
      have HSO := Lib.hid (sorted_typed (HKV.out.below hf4.below) (by have := HQ.out.1; omega) HQ.out.2)
      clear hf4
      go_wp2_with fail
      refine HSO.out.mono ?_
      rintro e w5 ⟨⟨v', rfl, hK5, hT5⟩, hb5⟩
      have hf5 : FS w1 w5 (headT t) v' (sortP t.keys) := ⟨(HF4.out.to hb5).bd, (HF4.out.to hb5).below, hK5, hT5⟩
      have hsl := sortP_len t.keys
      have hss : ∀ p ∈ sortP t.keys, p.1.length ≤ 1000000 ∧ p.2.length ≤ 1000000 := fun p hp => HS.out p ((sortP_perm t.keys).mem_iff.1 hp)
      have hHl : (headT t).length ≤ 1000002 := by
        have := HNL.out
        unfold headT
        split <;> simp <;> omega
      obtain ⟨H, hH⟩ : ∃ H, headT t = H := ⟨_, rfl⟩
      obtain ⟨sk, hsk⟩ : ∃ sk, sortP t.keys = sk := ⟨_, rfl⟩
      have htx : textT t = H ++ sk.flatMap keyT ++ [62] := by rw [← hH, ← hsk]; rfl
      rw [hsk] at hf5 hsl hss
      rw [hH] at hf5 hHl
      obtain ⟨n8, hn8⟩ : ∃ n8, sk.length = n8 := ⟨_, rfl⟩
      have h8 : n8 ≤ 8 := by have := HQ.out.1; omega
      obtain ⟨A5, p5, hv5, _⟩ := id hf5.keys
      rw [hn8] at hv5
      subst hv5
      have HF5 := Lib.hid hf5
      have HSS := Lib.hid hss
      have HHL := Lib.hid hHl
      have HTX := Lib.hid htx
      have HN8 := Lib.hid hn8
      have HN5 := Lib.hid (fun W (h : Below w1.heap.size w1 W) => HN.out.below (HB2.out.trans (h.mono HB2.out.size)) HN.out.lt)
      clear hsl hss hHl hH hsk htx hn8 hf5 hK5 hT5 hb5 d2
      go_wp2_with fail
      go_loopw [24] (fun i wr => ∃ k : Nat, k ≤ n8 ∧ i = .int .i64 k ∧ FS w1 wr (H ++ (sk.take k).flatMap keyT) (.slice A5 n8 p5) sk) (fun i _ => n8 - (Go.RowKit.intOf i).toNat)
      case atStart => exact ⟨0, Nat.zero_le _, rfl, by simpa using HF5.out⟩
      case round =>
        obtain ⟨k, hkl, rfl, hf⟩ := hrel
        by_cases hlt : k < n8
        · obtain ⟨n0, x0, hp⟩ : ∃ n0 x0, sk[k]? = some (n0, x0) := ⟨_, _, List.getElem?_eq_getElem (by rw [HN8.out]; exact hlt)⟩
          obtain ⟨A', p', hv, hc, hj⟩ := id hf.keys
          obtain ⟨b, off, hA', hbl, hj2⟩ := hj (by rw [HN8.out]; omega)
          cases hv
          subst hA'
          obtain ⟨c0, c1⟩ := hj2 k _ hp
          have hsz := HSS.out _ (List.mem_of_getElem? hp)
          have hlen := keysT_len (sk.take k) (fun p hp => HSS.out p (List.mem_of_mem_take hp))
          rw [List.length_take] at hlen
          have hnx : H ++ (sk.take (k + 1)).flatMap keyT = (H ++ (sk.take k).flatMap keyT) ++ keyT (n0, x0) := by
            rw [List.take_add_one, hp]
            simp
          have hk1 := keyT_len (n0, x0) hsz.1 hsz.2
          obtain ⟨L, hL⟩ : ∃ L, H ++ (sk.take k).flatMap keyT = L := ⟨_, rfl⟩
          have hLl : L.length ≤ 1000002 + 8 * 7000004 := by
            rw [← hL]
            have := HHL.out
            simp only [List.length_append]
            have : min k sk.length * 7000004 ≤ 8 * 7000004 := Nat.mul_le_mul_right _ (by omega)
            omega
          rw [hL] at hnx hf
          obtain ⟨W2, hW2⟩ : ∃ W2, wr.alloc (.cells #[.string ⟨n0.toArray⟩, .string ⟨x0.toArray⟩] 54) = W2 := ⟨_, rfl⟩
          have hb2 : Below wr.heap.size wr W2 := by rw [← hW2]; exact (Below.refl _ wr).alloc (Nat.le_refl _) _
          have hn2 : W2.heap[wr.heap.size]? = some (.cells #[.string ⟨n0.toArray⟩, .string ⟨x0.toArray⟩] 54 (0, 0)) := by rw [← hW2]; exact block_new _ _
          have HW2 := Lib.hid hW2
          have HF2 := Lib.hid (hf.to hb2)
          have HH2 := Lib.hid hn2
          have hes := fun W (h : Below W2.heap.size W2 W) => escapeAll_any ⟨x0.toArray⟩ hsz.2 W (HN5.out W (HF2.out.to h).below)
          have hwr := fun W (h : Below W2.heap.size W2 W) => write_bd (HF2.out.to h).bd (keyT (n0, x0)) (by omega)
          have htb := text_bytes n0 x0
          obtain ⟨sn0, hsn0⟩ : ∃ s : ByteArray, (⟨n0.toArray⟩ : ByteArray) = s := ⟨_, rfl⟩
          obtain ⟨sx0, hsx0⟩ : ∃ s : ByteArray, (⟨x0.toArray⟩ : ByteArray) = s := ⟨_, rfl⟩
          obtain ⟨se, hse⟩ : ∃ s : ByteArray, (⟨(esc x0).toArray⟩ : ByteArray) = s := ⟨_, rfl⟩
          obtain ⟨K, hK⟩ : ∃ K, keyT (n0, x0) = K := ⟨_, rfl⟩
          rw [hK] at hwr htb hnx hk1
          rw [← htb] at hwr
          have hes' : ∀ W, Below W2.heap.size W2 W → Calls Tryz.prog 25 #[.string sx0] W fun e w' => e = .returned (.string se) ∧ Below W.heap.size W w' := by
            intro W h
            rw [← hsx0, ← hse]
            exact hes W h
          have hz0 : sn0.size ≤ 1000000 := by rw [← hsn0]; exact hsz.1
          have hz1 : se.size ≤ 6000000 := by
            rw [← hse]
            have h1 := esc_len x0
            have h2 : x0.length ≤ 1000000 := hsz.2
            show (esc x0).length ≤ _
            omega
          have z1 : ¬ (9223372036854775807 < 1 + sn0.size) := by omega
          have z2 : ¬ (9223372036854775807 < 1 + sn0.size + 2) := by omega
          have z3 : ¬ (9223372036854775807 < 1 + sn0.size + 2 + se.size) := by omega
          have z4 : ¬ (9223372036854775807 < 1 + sn0.size + 2 + se.size + 1) := by omega
          rw [hsn0, hse] at hwr
          rw [hsn0, hsx0] at HH2
          rw [hsn0] at c0
          rw [hsx0] at c1
          rw [hsn0, hsx0] at HW2
          have d0 := cell_of (i := 0) HH2.out rfl
          have d1 := cell_of (i := 1) HH2.out rfl
          have hesD : Calls Tryz.prog 25 #[.string sx0] W2.drew fun e w' => e = .returned (.string se) ∧ Below W2.heap.size W2 w' := (hes' _ (Below.refl _ W2).drew).mono fun _ _ h => ⟨h.1, (Below.refl _ W2).drew.trans h.2⟩
          have HES := Lib.hid hesD
          have HWR := Lib.hid hwr
          have HNX := Lib.hid hnx
          clear hes hes' hesD hwr htb hnx hk1 hK hse hsn0 hsx0 hn2 hb2 hW2 hL hLl hlen hsz hj hj2 hp hf hbl
          go_wp2_with fail
          rw [HW2.out]
          go_region_held3 (fun w' => w'.cell? ⟨wr.heap.size, 0, none⟩ = some (.string sn0) ∧ w'.cell? ⟨wr.heap.size, 1, none⟩ = some (.string sx0))
            (first
              | go_keep
              | (exact pair_cells (pair_kept (HF2.out.to hb3).bd (block_below HH2.out hb3 (Array.getElem?_eq_some_iff.1 HH2.out).1) ho4))
              | (exact pair_cells (block_below HH2.out hb3 (Array.getElem?_eq_some_iff.1 HH2.out).1))
              | fail)
            ((first
              | (go_at_call 25; (with_reducible refine HES.out.mono ?_); rintro e w3 ⟨rfl, hb3⟩)
              | (go_at_call 23; (with_reducible refine (HWR.out _ hb3).mono ?_); rintro e w4 ⟨rfl, bd4, hb4, ho4⟩)
              | fail))
          have HF4 := Lib.hid ((HF2.out.to hb3).write bd4 hb4 ho4)
          clear hb3 bd4 hb4 ho4 d0 d1
          go_wp2_with fail
          exact ⟨⟨k + 1, by omega, by go_num, by rw [HNX.out]; exact HF4.out⟩, by simp only [Go.RowKit.intOf]; omega⟩
        · have hkl' : k = n8 := by omega
          subst hkl'
          have hfin : sk.take k = sk := List.take_of_length_le (by rw [HN8.out]; exact Nat.le_refl _)
          rw [hfin] at hf
          have hlen := keysT_len sk HSS.out
          have HWR := Lib.hid (write_bd hf.bd [62] (by
            have := HHL.out
            have : sk.length * 7000004 ≤ 8 * 7000004 := Nat.mul_le_mul_right _ (by rw [HN8.out]; exact h8)
            simp only [List.length_append, List.length_cons, List.length_nil]
            omega))
          have HF := Lib.hid hf
          clear hf hlen hfin
          go_wp2_with fail
          refine HWR.out.mono ?_
          rintro e w6 ⟨rfl, bd6, hb6, ho6⟩
          have hf6 := HF.out.write bd6 hb6 ho6
          rw [← HTX.out] at hf6
          have HF6 := Lib.hid hf6
          have HST := Lib.hid (string_any w1.heap.size w1.heap.size (textT t) w6 hf6.bd hf6.below.size)
          clear hf6 bd6 hb6 ho6
          go_wp2_with fail
          refine HST.out.mono ?_
          rintro e w7 ⟨rfl, _, hb7, _⟩
          have HB7 := Lib.hid (HB2.out.trans ((HF6.out.below.trans hb7).mono HB2.out.size))
          clear hb7
          go_wp2_with fail
          (try simp only [Exit.inBlock, Exit.then]); refine bodyPost_ret (results_tmp2 rfl _ _ _) rfl ?_
          exact ⟨rfl, HB7.out⟩
  · rw [if_neg hz0]
    have hzi : ¬ ((z : Int) = 0) := by omega
    go_enter Tryz.func11, Tryz.ntmps11
    go_wp2_with fail
    rw [HW.out]
    go_wp2_with fail
    refine HCK.out.mono ?_
    rintro e w1 ⟨rfl, hb2⟩
    have HB2 := Lib.hid (HB1.out.trans (hb2.mono HB1.out.size))
    clear hb2
    go_wp2_with fail
    (try simp only [Exit.inBlock, Exit.then]); refine bodyPost_ret (results_tmp2 rfl _ _ _) rfl ?_
    exact ⟨rfl, HB2.out⟩
end Go.Proofs.YtjablaidbccnbaaGreatDoor
