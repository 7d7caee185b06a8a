/-
  WALKS over package corporaref02: Write, where it appends.
-/
import Derived.Test.YtpkikfdbndaekaaBiL
import Derived.RegionTactic
import Derived.Deep.RegionLaw
import Derived.Deep.RegionHeld3
import Derived.Deep.DrawnRows
namespace Go.Proofs.Ytpkikfdbndaekaa
open Go.RowKit Go.Shelf Go.Lib

attribute [local go_sem ↓] Go.wp_at_zero Go.wp_at_succ

theorem ownsRow_mono {w : World} {base base' : Nat} {e : TypeId} {size : Nat} {v : Value} {n : Nat} {xs : List Value} (h : w.ownsRow base e size v n xs) (hb : base' ≤ base) : w.ownsRow base' e size v n xs := by
  refine ⟨h.1, ?_⟩
  rcases h.2 with h | ⟨g, cap, cur, hv, h0, h1⟩
  · exact .inl h
  · exact .inr ⟨g, cap, cur, hv, Nat.le_trans hb h0, h1⟩
theorem wpost_of {w w4 : World} {G A B : List Bool} {b n : Nat} {v4 : Value} (hG : G = A ++ B) (hown : w4.ownsRow b 4 1 v4 n (boolCells A ++ boolCells B)) (hb : w.heap.size ≤ b) (hn : n = G.length) (hbel : Below w.heap.size w w4) :
    WPost w (some G) (.returned (.tuple #[v4, .bool true])) w4 :=
  ⟨v4, rfl, ownsRow_mono (by
    show w4.ownsRow b _ 1 v4 G.length (boolCells G)
    rw [← hn, hG, boolCells_app]
    exact hown) hb, hbel⟩
theorem own_made (w : World) (n : Nat) (hn : n ≤ 1000000) : (w.alloc (.cells (boolCells (List.replicate n false)).toArray 4)).ownsRow w.heap.size 4 1 (.slice (some ⟨w.heap.size, 0, none⟩) n n) n (boolCells (List.replicate n false)) :=
  ⟨by rw [boolCells_length, List.length_replicate, Nat.mul_one], .inr ⟨w.heap.size, n, _, rfl, Nat.le_refl _, block_new w _, Nat.le_refl _, by unfold maxLen; omega, by rw [List.size_toArray, boolCells_length, List.length_replicate, Nat.mul_one], by
    show (boolCells (List.replicate n false)).take (n * 1) = _
    rw [List.take_of_length_le (by rw [boolCells_length, List.length_replicate]; omega)]⟩⟩

set_option maxRecDepth 100000 in
set_option maxHeartbeats 4000000 in
theorem refWrite_gam (x : Nat) (n : Int) (hx : x < 18446744073709551616) (hx0 : x ≠ 0) (w : World) : Calls Try.prog 20 #[.agg #[.int .i64 2, .int .u64 x, .int .i64 n]] w (WPost w (some (gam x))) := by
  have hlog := log_lt x hx
  have htop := fun w => top_any x hx w
  have hlow := fun w => low_of x (Nat.log2 x + 1) ((Nat.log2 x : Int) + 1) (by omega) hx (by omega) w
  obtain ⟨m, hm⟩ : ∃ m, Nat.log2 x = m := ⟨_, rfl⟩
  rw [hm] at hlog htop hlow
  have hgam : gam x = List.replicate m false ++ low x (m + 1) := by rw [gam, hm]
  have HT := Lib.hid htop
  have HL := Lib.hid hlow
  have HG := Lib.hid hgam
  have hxz : ((x : Int) == 0) = false := by simp; exact hx0
  clear htop hlow hgam hm
  go_enter Try.func20, Try.ntmps20
  go_wp2_with fail
  refine (HT.out _).mono ?_
  rintro e w1 ⟨rfl, rfl⟩
  go_wp2_with fail
  obtain ⟨i0, hi, hz0, hz1, hz2⟩ := info_parts' Try.infoBool
  have hmk : ∀ W : World, (Instr.makeSlice 38 (.int .i64 m) (.int .i64 m)).run Try.prog W = .ok (.slice (some ⟨W.heap.size, 0, none⟩) m m) (W.alloc (.cells (boolCells (List.replicate m false)).toArray 4)) := fun W => by
    have := run_make (P := Try.prog) W 38 4 i0 _ Try.underlying38 hi hz0 .i64 .i64 m m (by omega) (by omega) (by rw [hz2]; omega) (by omega)
    have hz3 : (Value.bool false).cells = #[Value.bool false] := rfl
    rw [hz1, hz3, Int.toNat_natCast, Nat.mul_one, madeCells_bools] at this
    exact this
  obtain ⟨Z, hZ⟩ : ∃ Z, (boolCells (List.replicate m false)).toArray = Z := ⟨_, rfl⟩
  rw [hZ] at hmk
  have hmade := fun W => own_made W m (by omega)
  rw [hZ] at hmade
  have hlr : (boolCells (low x (m + 1))).length = m + 1 := by rw [boolCells_length, low_len]
  have HMD := Lib.hid hmade
  have HLR := Lib.hid hlr
  have hc1 : (w.alloc (.cells #[.int .i64 2, .int .u64 x, .int .i64 n] 40)).cell? ⟨w.heap.size, 1, none⟩ = some (.int .u64 x) := cell_of (i := 1) (block_new w _) rfl
  have hsz1 : (w.alloc (.cells #[.int .i64 2, .int .u64 x, .int .i64 n] 40)).heap.size = w.heap.size + 1 := by simp
  have hbel1 : Below w.heap.size w (w.alloc (.cells #[.int .i64 2, .int .u64 x, .int .i64 n] 40)) := (Below.refl _ w).alloc (Nat.le_refl _) _
  obtain ⟨W1, hW1⟩ : ∃ W1, w.alloc (.cells #[.int .i64 2, .int .u64 x, .int .i64 n] 40) = W1 := ⟨_, rfl⟩
  rw [hW1] at hc1 hsz1 hbel1 ⊢
  have HS1 := Lib.hid hsz1
  have HB1 := Lib.hid hbel1
  clear hZ hmade hlr hsz1 hbel1 hW1
  have hwr : IntKind.i64.wrap ((m : Int) + 1) = (m : Int) + 1 := by rw [IntKind.wrap_i64]; omega
  go_region_held3 (fun w' => w'.cell? ⟨w.heap.size, 1, none⟩ = some (.int .u64 x))
    (first
      | go_keep
      | (exact (hb.cell (p := ⟨w.heap.size, 1, none⟩) (by have := HS1.out; simp; omega)).trans (by first | assumption | go_keep))
      | (rw [hgrow4.cell_far _ (by have := hb.size; have := HS1.out; simp at *; omega) (by have := hb.size; have := HS1.out; simp [Value.ownBlock] at *; omega)]; first | assumption | go_keep))
    ((first
      | (go_at_call 35; refine (HL.out _).mono ?_; rintro e w2 ⟨v2, rfl, hown, hb⟩)
      | (refine step_append_sees (by rfl) (.tmp 63) (.tmp 68) 38 (by rfl) _ 4 i0 _ 1 Try.underlying38 hi hz0 hz1 hz2 (by rfl) _ m _ (by rfl) (own_below (HMD.out _) (fun k e => hb.block k (own_low (HMD.out _) k e).2)) _ _ _ (by rfl) (seesC_own hown).1 (by rw [HLR.out]; omega) (bools_one _) (by rw [HLR.out]; unfold maxLen; omega) (by rw [HLR.out]; omega) (by have := hb.size; simp at this; omega) ?_; intro v4 w4 hown4 hgrow4)
      | (refine step_append_sees (by rfl) (.tmp 63) (.tmp 68) 38 (by rfl) _ 4 i0 _ 1 Try.underlying38 hi hz0 hz1 hz2 (by rfl) _ m _ (by rfl) (HMD.out _) _ _ _ (by rfl) ((seesC_own hown).1.below ((Below.refl _ _).alloc (Nat.le_refl _) _)) (by rw [HLR.out]; omega) (bools_one _) (by rw [HLR.out]; unfold maxLen; omega) (by rw [HLR.out]; omega) (by simp) ?_; intro v4 w4 hown4 hgrow4)))
  · have h1 : Below w.heap.size w (W1.alloc (.cells Z 4)).drew := (HB1.out.alloc (by have := HS1.out; omega) _).drew
    have h2 : Below w.heap.size w w2 := h1.trans (hb.mono (by have := HS1.out; simp; omega))
    have h3 := h2.grown hgrow4 h2.size (fun k e => by simp [Value.ownBlock] at e; have := HS1.out; omega)
    have HF := Lib.hid (wpost_of HG.out hown4 (by have := HS1.out; omega) (by rw [HLR.out, HG.out, List.length_append, List.length_replicate, low_len]) h3)
    clear hown hb hown4 hgrow4 h1 h2 h3
    go_wp2
    go_ret2
    exact HF.out
  · have h1 : Below w.heap.size w W1.drew := HB1.out.drew
    have h2 : Below w.heap.size w w2 := h1.trans (hb.mono (by have := HS1.out; simp; omega))
    have h3 := (h2.alloc h2.size (.cells Z 4)).grown hgrow4 (by have := h2.size; simp; omega) (fun k e => by simp [Value.ownBlock] at e; have := h2.size; omega)
    have HF := Lib.hid (wpost_of HG.out hown4 h2.size (by rw [HLR.out, HG.out, List.length_append, List.length_replicate, low_len]) h3)
    clear hown hb hown4 hgrow4 h1 h2 h3
    go_wp2
    go_ret2
    exact HF.out

set_option maxRecDepth 100000 in
set_option maxHeartbeats 1000000 in
theorem refWrite_bits (x n : Nat) (hx : x < 18446744073709551616) (hn : n ≤ 64) (h : x < 2 ^ n) (w : World) : Calls Try.prog 20 #[.agg #[.int .i64 0, .int .u64 x, .int .i64 n]] w (WPost w (some (low x n))) := by
  have hs := shr_small x n
  rw [decide_eq_false (by omega)] at hs
  have hlow := fun w => low_any x n hx hn w
  have hll := low_len x n
  have HL := Lib.hid hlow
  have HLL := Lib.hid hll
  have hn64 : (n : Int) ≤ 64 := by omega
  have hn0 : (0 : Int) ≤ (n : Int) := by omega
  have hbel1 : Below w.heap.size w (w.alloc (.cells #[.int .i64 0, .int .u64 x, .int .i64 n] 40)) := (Below.refl _ w).alloc (Nat.le_refl _) _
  have HB1 := Lib.hid hbel1
  clear h hlow hll hbel1
  by_cases h64 : (n : Int) < 64
  · go_enter Try.func20, Try.ntmps20
    go_wp2_with fail
    refine (HL.out _).mono ?_
    rintro e w2 ⟨v2, rfl, hown, hb⟩
    have HF : Hid (WPost w (some (low x n)) (.returned (.tuple #[v2, .bool true])) w2) := ⟨v2, rfl, ownsRow_mono (by show w2.ownsRow _ _ _ _ (low x n).length _; rw [HLL.out]; exact hown) (by simp), HB1.out.trans (hb.mono (by simp))⟩
    clear hown hb
    go_wp2
    go_ret2
    exact HF.out
  · go_enter Try.func20, Try.ntmps20
    go_wp2_with fail
    refine (HL.out _).mono ?_
    rintro e w2 ⟨v2, rfl, hown, hb⟩
    have HF : Hid (WPost w (some (low x n)) (.returned (.tuple #[v2, .bool true])) w2) := ⟨v2, rfl, ownsRow_mono (by show w2.ownsRow _ _ _ _ (low x n).length _; rw [HLL.out]; exact hown) (by simp), HB1.out.trans (hb.mono (by simp))⟩
    clear hown hb
    go_wp2
    go_ret2
    exact HF.out

set_option maxRecDepth 100000 in
set_option maxHeartbeats 1000000 in
theorem refWrite_una (x : Int) (m : Nat) (hm : m ≤ 4096) (w : World) : Calls Try.prog 20 #[.agg #[.int .i64 1, .int .u64 x, .int .i64 m]] w (WPost w (some (una m))) := by
  obtain ⟨i0, hi, hz0, hz1, hz2⟩ := info_parts' Try.infoBool
  have hmk : ∀ W : World, (Instr.makeSlice 38 (.int .i64 m) (.int .i64 m)).run Try.prog W = .ok (.slice (some ⟨W.heap.size, 0, none⟩) m m) (W.alloc (.cells (boolCells (List.replicate m false)).toArray 4)) := fun W => by
    have := run_make (P := Try.prog) W 38 4 i0 _ Try.underlying38 hi hz0 .i64 .i64 m m (by omega) (by omega) (by rw [hz2]; omega) (by omega)
    have hz3 : (Value.bool false).cells = #[Value.bool false] := rfl
    rw [hz1, hz3, Int.toNat_natCast, Nat.mul_one, madeCells_bools] at this
    exact this
  obtain ⟨Z, hZ⟩ : ∃ Z, (boolCells (List.replicate m false)).toArray = Z := ⟨_, rfl⟩
  rw [hZ] at hmk
  have hmade := fun W => own_made W m (by omega)
  rw [hZ] at hmade
  have HMD := Lib.hid hmade
  have hbel1 : Below w.heap.size w (w.alloc (.cells #[.int .i64 1, .int .u64 x, .int .i64 m] 40)) := (Below.refl _ w).alloc (Nat.le_refl _) _
  have HB1 := Lib.hid hbel1
  have hrow := HMD.out (w.alloc (.cells #[.int .i64 1, .int .u64 x, .int .i64 m] 40))
  have hnews := news_at ((w.alloc (.cells #[.int .i64 1, .int .u64 x, .int .i64 m] 40)).alloc (.cells Z 4)) [.bool true] 4
  rw [World.size_alloc] at hrow
  rw [World.size_alloc, World.size_alloc] at hnews
  have HROW := Lib.hid hrow
  have HNEWS := Lib.hid hnews
  clear hZ hmade hbel1 hrow hnews
  go_enter Try.func20, Try.ntmps20
  go_wp2_with (at_builtin; refine wpList_append_own _ rfl (.tmp 50) (.tmp 51) 38 rfl (w.heap.size + 1) 4 i0 _ 1 1 Try.underlying38 hi hz0 hz1 hz2 rfl (by decide) _ m _ rfl (HROW.out.alloc _) _ 1 1 [.bool true] rfl rfl HNEWS.out (by simp [Value.oneCell']) (by unfold maxLen; omega) (by omega) (by simp <;> omega) ?_)
  intro v4 w4 hown4 hgrow4 _
  have h2 : Below w.heap.size w w4 := ((HB1.out.alloc (by simp) (.cells Z 4)).alloc (by simp <;> omega) _).grown hgrow4 (by simp <;> omega) (fun k e => by simp [Value.ownBlock] at e; omega)
  have HF : Hid (WPost w (some (una m)) (.returned (.tuple #[v4, .bool true])) w4) := ⟨v4, rfl, ownsRow_mono (by
    show w4.ownsRow _ _ _ _ (una m).length (boolCells (una m))
    rw [una_len, una, boolCells_app]
    exact hown4) (by omega), h2⟩
  clear hown4 hgrow4 h2
  go_wp2
  go_ret2
  exact HF.out

set_option maxRecDepth 100000 in
set_option maxHeartbeats 1000000 in
theorem refWrite_del (k : Int) (x : Nat) (n : Int) (hx : x < 18446744073709551616) (hx0 : x ≠ 0) (h0 : k ≠ 0) (h1 : k ≠ 1) (h2 : k ≠ 2) (w : World) : Calls Try.prog 20 #[.agg #[.int .i64 k, .int .u64 x, .int .i64 n]] w (WPost w (some (del x))) := by
  have hlog := log_lt x hx
  have htop := fun w => top_any x hx w
  have hlow := fun w => low_any x (Nat.log2 x) hx (by omega) w
  have hgm := fun w => refWrite_gam (Nat.log2 x + 1) 0 (by omega) (by omega) w
  have hdel : del x = gam (Nat.log2 x + 1) ++ low x (Nat.log2 x) := rfl
  obtain ⟨m, hm⟩ : ∃ m, Nat.log2 x = m := ⟨_, rfl⟩
  rw [hm] at hlog htop hlow hgm hdel
  have hgl := gam_len (m + 1)
  have hl2 := log_lt (m + 1) (by omega)
  have hcast : ((m + 1 : Nat) : Int) = (m : Int) + 1 := by omega
  rw [hcast] at hgm
  obtain ⟨G, hG⟩ : ∃ G, gam (m + 1) = G := ⟨_, rfl⟩
  rw [hG] at hgm hdel hgl
  have hgl' : G.length ≤ 127 := by omega
  obtain ⟨q, hq⟩ : ∃ q, G.length = q := ⟨_, rfl⟩
  rw [hq] at hgl'
  have hlr : (boolCells (low x m)).length = m := by rw [boolCells_length, low_len]
  have HT := Lib.hid htop
  have HL := Lib.hid hlow
  have HGM := Lib.hid hgm
  have HD := Lib.hid hdel
  have HQ := Lib.hid hq
  have HLR := Lib.hid hlr
  have hxz : ((x : Int) == 0) = false := by simp; exact hx0
  have hk0 : (k == 0) = false := by simp; exact h0
  have hk1 : (k == 1) = false := by simp; exact h1
  have hk2 : (k == 2) = false := by simp; exact h2
  obtain ⟨i0, hi, hz0, hz1, hz2⟩ := info_parts' Try.infoBool
  have hc1 : (w.alloc (.cells #[.int .i64 k, .int .u64 x, .int .i64 n] 40)).cell? ⟨w.heap.size, 1, none⟩ = some (.int .u64 x) := cell_of (i := 1) (block_new w _) rfl
  have hbel1 : Below w.heap.size w (w.alloc (.cells #[.int .i64 k, .int .u64 x, .int .i64 n] 40)) := (Below.refl _ w).alloc (Nat.le_refl _) _
  have HC1 := Lib.hid hc1
  have HB1 := Lib.hid hbel1
  clear htop hlow hgm hdel hq hlr h0 h1 h2 hm hgl hl2 hG hc1 hbel1
  go_enter Try.func20, Try.ntmps20
  go_wp2_with fail
  refine (HT.out _).mono ?_
  rintro e w1 ⟨rfl, rfl⟩
  go_wp2_with fail
  refine (HGM.out _).mono ?_
  rintro e w2 ⟨v2, rfl, hown2, hb2⟩
  have c2 : w2.cell? ⟨w.heap.size, 1, none⟩ = some (.int .u64 x) := (hb2.cell (p := ⟨w.heap.size, 1, none⟩) (by simp)).trans HC1.out
  have HO2 := Lib.hid hown2
  have HB2 := Lib.hid hb2
  clear hown2 hb2
  go_wp2_with fail
  refine (HL.out _).mono ?_
  rintro e w3 ⟨v3, rfl, hown3, hb3⟩
  have hown2' := own_below HO2.out (fun k e => hb3.block k (own_low HO2.out k e).2)
  have hql : (bitsW (some G)).length = q := HQ.out
  rw [hql] at hown2'
  have HO2' := Lib.hid hown2'
  have hs3 := (seesC_own hown3).1
  have HS3 := Lib.hid hs3
  have hsz3 : w.heap.size + 1 ≤ w3.heap.size := by have h1 := HB2.out.size; have h2 := hb3.size; simp at h1; omega
  have HB3 := Lib.hid hb3
  clear hown3 hb3 hown2' hql hs3
  go_wp2_with (at_builtin; refine wpList_append_sees rfl (.tmp 78) (.tmp 82) 38 rfl _ 4 i0 _ 1 Try.underlying38 hi hz0 hz1 hz2 rfl _ q _ rfl HO2'.out _ _ _ rfl HS3.out (bools_one _) (by rw [HLR.out]; unfold maxLen; omega) (by rw [HLR.out]; omega) (by simp; omega) ?_)
  intro v4 w4 hown4 hgrow4 _
  have hb2' : Below w.heap.size w w2 := HB1.out.trans (HB2.out.mono (by simp))
  have hb3' : Below w.heap.size w w3 := hb2'.trans (HB3.out.mono hb2'.size)
  have h3 := hb3'.grown hgrow4 hb3'.size (fun k e => by have := (own_low HO2'.out k e).1; simp at this; omega)
  have HF := Lib.hid (wpost_of HD.out hown4 (by simp) (by rw [HLR.out, HD.out, List.length_append, HQ.out, low_len]) h3)
  clear hown4 hgrow4 hb2' hb3' h3
  go_wp2
  go_ret2
  exact HF.out
theorem refWrite_any (c : CallL) (hc : okCall c) (w : World) : Calls Try.prog 20 #[callV c] w (WPost w (wrL c)) := by
  cases h : wrL c with
  | none => exact refWrite_err c hc h w
  | some bs =>
    obtain ⟨k, x, n⟩ := c
    obtain ⟨hk1, hk2, hx, hn1, hn2⟩ := hc
    simp only at hk1 hk2 hx hn1 hn2
    unfold callV
    simp only
    unfold wrL at h
    simp only at h
    by_cases h0 : k = 0
    · subst h0
      rw [if_pos rfl] at h
      by_cases hout : n < 0 ∨ 64 < n ∨ 2 ^ n.toNat ≤ x
      · rw [if_pos hout] at h; cases h
      · rw [if_neg hout] at h
        injection h with h
        obtain ⟨m, rfl⟩ : ∃ m : Nat, n = m := ⟨n.toNat, by omega⟩
        rw [Int.toNat_natCast] at h hout
        subst h
        exact refWrite_bits x m hx (by omega) (by omega) w
    · rw [if_neg h0] at h
      by_cases h1 : k = 1
      · subst h1
        rw [if_pos rfl] at h
        by_cases hout : n < 0 ∨ 4096 < n
        · rw [if_pos hout] at h; cases h
        · rw [if_neg hout] at h
          injection h with h
          obtain ⟨m, rfl⟩ : ∃ m : Nat, n = m := ⟨n.toNat, by omega⟩
          rw [Int.toNat_natCast] at h
          subst h
          exact refWrite_una x m (by omega) w
      · rw [if_neg h1] at h
        by_cases hx0 : x = 0
        · rw [if_pos hx0] at h; cases h
        · rw [if_neg hx0] at h
          by_cases h2 : k = 2
          · subst h2
            rw [if_pos rfl] at h
            injection h with h
            subst h
            exact refWrite_gam x n hx hx0 w
          · rw [if_neg h2] at h
            injection h with h
            subst h
            exact refWrite_del k x n hx hx0 h0 h1 h2 w
end Go.Proofs.Ytpkikfdbndaekaa
