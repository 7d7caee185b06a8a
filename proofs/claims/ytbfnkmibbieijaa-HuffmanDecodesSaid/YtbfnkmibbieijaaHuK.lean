/-
  WALKS over package huffman: the book in memory; open.
-/
import Derived.Test.YtbfnkmibbieijaaHuB
import Derived.Test.YtbfnkmibbieijaaHuC
import Derived.Deep.AppendLies
import Derived.StillTailTactics
namespace Go.Proofs.Ytbfnkmibbieijaa
open Go.RowKit Go.Shelf Go.Lib Go.Deep
set_option linter.unusedVariables false
set_option linter.unusedSimpArgs false

/-- Indices, as a row. -/
def symV (ns : List Nat) : List Value := ns.map fun (j : Nat) => Value.int .i64 (j : Int)
def u64V (fs : List Nat) : List Value := fs.map fun (f : Nat) => Value.int .u64 (f : Int)
def bookC (fs : List Nat) (vs : List Value) (en : Nat) : Array Value := (u64V fs ++ vs ++ [Value.int .u64 (en : Int)]).toArray
theorem book_f {fs : List Nat} {vs : List Value} {en i f : Nat} (h : fs[i]? = some f) : (bookC fs vs en)[i]? = some (.int .u64 (f : Int)) := by
  have hi := (List.getElem?_eq_some_iff.1 h).1
  unfold bookC u64V
  rw [List.getElem?_toArray, List.append_assoc, List.getElem?_append_left (by simpa using hi), List.getElem?_map, h]
  rfl
theorem book_v {fs : List Nat} {vs : List Value} {en i : Nat} {v : Value} (hf : fs.length = 16) (h : vs[i]? = some v) : (bookC fs vs en)[16 + i]? = some v := by
  have hi := (List.getElem?_eq_some_iff.1 h).1
  have e : (u64V fs).length = 16 := by simp [u64V, hf]
  unfold bookC
  rw [List.getElem?_toArray, List.append_assoc, List.getElem?_append_right (by omega), e, Nat.add_sub_cancel_left, List.getElem?_append_left hi, h]
theorem book_e {fs : List Nat} {vs : List Value} {en : Nat} (hf : fs.length = 16) (hv : vs.length = 16) : (bookC fs vs en)[32]? = some (.int .u64 (en : Int)) := by
  have e : (u64V fs ++ vs).length = 32 := by simp [u64V, hf, hv]
  unfold bookC
  rw [List.getElem?_toArray, List.getElem?_append_right (by omega), e]
  rfl
theorem book_set_f {fs : List Nat} {vs : List Value} {en i f : Nat} (h : i < fs.length) : (bookC fs vs en).setIfInBounds i (.int .u64 (f : Int)) = bookC (fs.set i f) vs en := by
  unfold bookC u64V
  rw [List.setIfInBounds_toArray, List.append_assoc, List.set_append_left _ _ (by simpa using h), List.map_set, List.append_assoc]
theorem book_set_v {fs : List Nat} {vs : List Value} {en i : Nat} {v : Value} (hf : fs.length = 16) (h : i < vs.length) : (bookC fs vs en).setIfInBounds (16 + i) v = bookC fs (vs.set i v) en := by
  have e : (u64V fs).length = 16 := by simp [u64V, hf]
  unfold bookC
  rw [List.setIfInBounds_toArray, List.append_assoc, List.set_append_right _ _ (by omega), e, Nat.add_sub_cancel_left, List.set_append_left _ _ h, List.append_assoc]
theorem book_set_e {fs : List Nat} {vs : List Value} {en f : Nat} (hf : fs.length = 16) (hv : vs.length = 16) : (bookC fs vs en).setIfInBounds 32 (.int .u64 (f : Int)) = bookC fs vs f := by
  have e : (u64V fs ++ vs).length = 32 := by simp [u64V, hf, hv]
  unfold bookC
  rw [List.setIfInBounds_toArray, List.set_append_right _ _ (by omega), e]
  rfl
/-- A book in memory. -/
structure BkAt (w : World) (N : Nat) (fs : List Nat) (vs : List Value) (en : Nat) (L : List Nat) : Prop where
  box : w.heap[N]? = some (.cells (bookC fs vs en) 147 (0, 0))
  fl : fs.length = 16
  vl : vs.length = 16
  rows : ∀ (n : Nat) (v : Value), vs[n]? = some v → w.ownsRow N 3 1 v (symsOf L n).length (symV (symsOf L n))
  apart : ∀ (n m : Nat) (v u : Value), n ≠ m → vs[n]? = some v → vs[m]? = some u → ∀ b, v.ownBlock = some b → u.ownBlock ≠ some b
theorem BkAt.lt {w : World} {N en : Nat} {fs : List Nat} {vs : List Value} {L : List Nat} (h : BkAt w N fs vs en L) : N < w.heap.size := heap_lt h.box
theorem BkAt.below {w W : World} {N en : Nat} {fs : List Nat} {vs : List Value} {L : List Nat} (h : BkAt w N fs vs en L) (hb : Below w.heap.size w W) : BkAt W N fs vs en L :=
  ⟨by rw [hb.block N h.lt]; exact h.box, h.fl, h.vl, fun n v hn => own_below (h.rows n v hn) fun k hk => hb.block k (own_low (h.rows n v hn) k hk).2, h.apart⟩
theorem BkAt.drew {w : World} {N en : Nat} {fs : List Nat} {vs : List Value} {L : List Nat} (h : BkAt w N fs vs en L) : BkAt w.drew N fs vs en L := ⟨h.box, h.fl, h.vl, h.rows, h.apart⟩
theorem BkAt.drewN {w : World} {N en : Nat} {fs : List Nat} {vs : List Value} {L : List Nat} (h : BkAt w N fs vs en L) (q : Nat) : BkAt (w.drewN q) N fs vs en L := ⟨h.box, h.fl, h.vl, h.rows, h.apart⟩
/-- A store into the box. -/
theorem BkAt.set {w : World} {N en : Nat} {fs : List Nat} {vs : List Value} {L : List Nat} (h : BkAt w N fs vs en L) {i : Nat} {u : Value} {fs' : List Nat} {en' : Nat} (he : (bookC fs vs en).setIfInBounds i u = bookC fs' vs en') (hl : fs'.length = 16) : BkAt (w.setCell ⟨N, i, none⟩ u) N fs' vs en' L :=
  ⟨by rw [← he]; exact set_of h.box u, hl, h.vl, fun n v hn => own_below (h.rows n v hn) fun k hk => Below.heap_setCell _ _ _ _ (fun e => by
    have e' : k = N := e
    subst e'
    exact own_other (h.rows n v hn) h.box (by decide) hk), h.apart⟩
/-- Behind an append to one row. -/
theorem BkAt.push {w X wa : World} {N en k x g cap : Nat} {fs : List Nat} {vs : List Value} {L : List Nat} {v : Value} {o : Obj} (h : BkAt w N fs vs en L) (hX : w.alloc o = X) (hL : L.length = k) (hv : vs[x]? = some v)
    (ho : wa.ownsRow N 3 1 (.slice (some ⟨g, 0, none⟩) ((symsOf L x).length + 1) cap) ((symsOf L x).length + 1) (symV (symsOf L x) ++ [.int .i64 (k : Int)])) (hg : X.grownBy wa v.ownBlock) (hn : v.ownBlock = some g ∨ g = X.heap.size) :
    wa.heap[N]? = some (.cells (bookC fs vs en) 147 (0, 0)) ∧ BkAt (wa.setCell ⟨N, 16 + x, none⟩ (.slice (some ⟨g, 0, none⟩) ((symsOf L x).length + 1) cap)) N fs (vs.set x (.slice (some ⟨g, 0, none⟩) ((symsOf L x).length + 1) cap)) en (L ++ [x]) := by
  have hxl := (List.getElem?_eq_some_iff.1 hv).1
  have hXs : X.heap.size = w.heap.size + 1 := by rw [← hX]; simp
  have hboxX : X.heap[N]? = some (.cells (bookC fs vs en) 147 (0, 0)) := by rw [← hX, Below.heap_alloc _ _ _ h.lt]; exact h.box
  have hrX : ∀ (n : Nat) (u : Value), vs[n]? = some u → X.ownsRow N 3 1 u (symsOf L n).length (symV (symsOf L n)) := fun n u hu => by rw [← hX]; exact (h.rows n u hu).alloc _
  have hbox : wa.heap[N]? = some (.cells (bookC fs vs en) 147 (0, 0)) := by
    rw [hg.block N (by have := h.lt; omega) (fun e => own_other (hrX x v hv) hboxX (by decide) e.symm)]; exact hboxX
  have hgN : g ≠ N := fun e => by
    subst e
    exact own_other ho hbox (by decide) rfl
  have hset : ∀ j, j ≠ N → (wa.setCell ⟨N, 16 + x, none⟩ (.slice (some ⟨g, 0, none⟩) ((symsOf L x).length + 1) cap)).heap[j]? = wa.heap[j]? := fun j hj => Below.heap_setCell _ _ _ _ hj
  refine ⟨hbox, ⟨by rw [← book_set_v h.fl hxl]; exact set_of hbox _, h.fl, by rw [List.length_set]; exact h.vl, fun n u hu => ?_, fun n m u1 u2 hnm h1 h2 b hb1 hb2 => ?_⟩⟩
  · rw [symsOf_snoc]
    rw [List.getElem?_set] at hu
    by_cases e : x = n
    · subst e
      rw [if_pos rfl, if_pos hxl] at hu
      cases hu
      rw [if_pos rfl, List.length_append, List.length_singleton, hL]
      have e2 : symV (symsOf L x ++ [k]) = symV (symsOf L x) ++ [.int .i64 (k : Int)] := by simp [symV]
      rw [e2]
      exact own_below ho fun j hj => hset j (fun e => by subst e; exact own_other ho hbox (by decide) hj)
    · rw [if_neg e] at hu
      rw [if_neg e]
      have hr := hrX n u hu
      have hr2 : wa.ownsRow N 3 1 u (symsOf L n).length (symV (symsOf L n)) := own_below hr fun j hj => hg.block j (own_low hr j hj).2 (fun e2 => h.apart n x u v (fun q => e q.symm) hu hv j hj e2.symm)
      exact own_below hr2 fun j hj => hset j (fun e => by subst e; exact own_other hr2 hbox (by decide) hj)
  · rw [List.getElem?_set] at h1 h2
    have hnew : ∀ (m : Nat) (u : Value), m ≠ x → vs[m]? = some u → u.ownBlock ≠ some g := fun m u hm hu e => by
      rcases hn with hn | hn
      · exact h.apart m x u v hm hu hv g e hn
      · have := (own_low (hrX m u hu) g e).2
        omega
    by_cases e1 : x = n
    · subst e1
      rw [if_pos rfl, if_pos hxl] at h1
      cases h1
      rw [if_neg hnm] at h2
      simp only [Value.ownBlock, Option.some.injEq] at hb1
      subst hb1
      exact hnew m u2 (fun q => hnm q.symm) h2 hb2
    · rw [if_neg e1] at h1
      by_cases e2 : x = m
      · subst e2
        rw [if_pos rfl, if_pos hxl] at h2
        cases h2
        simp only [Value.ownBlock, Option.some.injEq] at hb2
        subst hb2
        exact hnew n u1 hnm h1 hb1
      · rw [if_neg e2] at h2
        exact h.apart n m u1 u2 hnm h1 h2 b hb1 hb2

/-- The first codes of lengths up to n. -/
def fsN (L : List Nat) (n : Nat) : List Nat := (List.range 16).map fun i => if 1 ≤ i ∧ i ≤ n then firstN L i else 0
theorem fsN_len (L : List Nat) (n : Nat) : (fsN L n).length = 16 := by simp [fsN]
theorem fsN_zero (L : List Nat) : fsN L 0 = List.replicate 16 0 := by
  unfold fsN
  apply List.ext_getElem?
  intro i
  rw [List.getElem?_map]
  by_cases h : i < 16
  · rw [List.getElem?_range h, List.getElem?_replicate, if_pos h, Option.map_some, if_neg (by omega)]
  · rw [List.getElem?_eq_none (by simpa using h), List.getElem?_eq_none (by simpa using h)]; rfl
theorem fsN_at (L : List Nat) {n i : Nat} (h1 : 1 ≤ i) (h2 : i ≤ n) (h3 : n ≤ 15) : (fsN L n)[i]? = some (firstN L i) := by
  unfold fsN
  rw [List.getElem?_map, List.getElem?_range (by omega), Option.map_some, if_pos ⟨h1, h2⟩]
theorem fsN_set (L : List Nat) {n : Nat} (h : n + 1 ≤ 15) : (fsN L n).set (n + 1) (firstN L (n + 1)) = fsN L (n + 1) := by
  apply List.ext_getElem?
  intro i
  rw [List.getElem?_set, fsN_len]
  by_cases e : n + 1 = i
  · subst e
    rw [if_pos rfl, if_pos (by omega), fsN_at L (by omega) (Nat.le_refl _) h]
  · rw [if_neg e]
    unfold fsN
    rw [List.getElem?_map, List.getElem?_map]
    by_cases hi : i < 16
    · rw [List.getElem?_range hi, Option.map_some, Option.map_some]
      by_cases c : 1 ≤ i ∧ i ≤ n
      · rw [if_pos c, if_pos (by omega)]
      · rw [if_neg c, if_neg (by omega)]
    · rw [List.getElem?_eq_none (by simpa using hi)]; rfl
def natLs (cs : List Int) : List Nat := cs.map Int.toNat
/-- Valid lengths. -/
def okLH (cs : List Int) : Prop := cs.length ≤ 1024 ∧ (∀ c ∈ cs, 0 ≤ c ∧ c ≤ 15) ∧ endN (natLs cs) 15 ≤ 32768
def OpenV (w : World) (cs : List Int) (e : Ending) (w' : World) : Prop :=
  Below w.heap.size w w' ∧ ((¬ okLH cs ∧ e = .returned (.tuple #[.pointer none, .int .i64 1])) ∨ (okLH cs ∧ ∃ vs, e = .returned (.tuple #[.pointer (some ⟨w.heap.size, 0, none⟩), .int .i64 0]) ∧ BkAt w' w.heap.size (fsN (natLs cs) 15) vs (endN (natLs cs) 15) (natLs cs)))
theorem natLs_step {cs : List Int} {k : Nat} {c : Int} (h : cs[k]? = some c) : natLs (cs.take (k + 1)) = natLs (cs.take k) ++ [c.toNat] := by
  unfold natLs
  rw [List.take_add_one, h]; simp
theorem cnt_le (L : List Nat) (n : Nat) : (symsOf L n).length ≤ L.length := by rw [symsOf_len]; exact List.count_le_length
/-- Between two rounds of the first loop. -/
def O1At (w : World) (N : Nat) (cs : List Int) (k : Nat) (wr : World) : Prop := (∀ x ∈ cs.take k, 0 ≤ x ∧ x ≤ 15) ∧ Below N w wr ∧ ∃ vs, BkAt wr N (List.replicate 16 0) vs 0 (natLs (cs.take k))
def O2At (w : World) (N : Nat) (L : List Nat) (n : Nat) (wr : World) : Prop := Below N w wr ∧ ∃ vs, BkAt wr N (fsN L n) vs (endN L n) L

set_option maxRecDepth 100000 in
set_option maxHeartbeats 8000000 in
theorem open_any {w : World} {v : Value} {cs : List Int} (hv : Rows 1 EInt w v cs) (hlen : cs.length ≤ maxLen) :
    Calls Try.prog 56 #[v] w (OpenV w cs) := by
  obtain ⟨N, hN⟩ : ∃ N, w.heap.size = N := ⟨_, rfl⟩
  have HV := Lib.hid (fun W (hb : Below N w W) => hv.below stays_int (hN ▸ hb))
  obtain ⟨A, cap, rfl, hc⟩ := hv.form
  obtain ⟨n, hn⟩ : ∃ n, cs.length = n := ⟨_, rfl⟩
  unfold maxLen at hlen
  rw [hn] at HV hc hlen ⊢
  have HCN := Lib.hid hn
  have HN := Lib.hid hN
  by_cases hbig : 1024 < n
  · have hI : (1024 : Int) < (n : Int) := by omega
    have HE : Hid (OpenV w cs (.returned (.tuple #[.pointer none, .int .i64 1])) w) := Lib.hid ⟨Below.refl _ _, .inl ⟨fun h => by have := h.1; omega, rfl⟩⟩
    clear hv hn hN hlen hc hbig
    go_enter Try.func56, Try.ntmps56
    go_wp2_with fail
    go_ret2
    exact HE.out
  · have hI : ¬ (1024 : Int) < (n : Int) := by omega
    obtain ⟨X, hX⟩ : ∃ X, w.alloc (.cells (bookC (List.replicate 16 0) (List.replicate 16 (.slice none 0 0)) 0) 147) = X := ⟨_, rfl⟩
    have hst0 : O1At w N cs 0 X := by
      refine ⟨fun x hx => by simp at hx, by rw [← hX, ← hN]; exact below_box _ _, List.replicate 16 (.slice none 0 0), ?_, by simp, by simp, fun n v hv => ?_, fun n m v u _ hv _ b hb => ?_⟩
      · rw [← hX, ← hN]; exact block_new _ _
      · have e : v = .slice none 0 0 := by
          rw [List.getElem?_replicate] at hv
          split at hv
          · exact (Option.some.inj hv).symm
          · cases hv
        subst e
        exact World.ownsRow_nil _ _ _ 1
      · have e : v = .slice none 0 0 := by
          rw [List.getElem?_replicate] at hv
          split at hv
          · exact (Option.some.inj hv).symm
          · cases hv
        subst e
        simp [Value.ownBlock] at hb
    have HST0 := Lib.hid hst0
    have HX := Lib.hid hX
    have hn1 : n ≤ 1024 := by omega
    obtain ⟨i0, hi, hz0, hz1, hz2⟩ := info_parts' Try.infoInt2
    clear hst0 hX hN hv hn hc hlen hbig
    go_enter Try.func56, Try.ntmps56
    go_wp2_with fail
    generalize hW0 : w.alloc (.cells _ 147) = W0
    obtain rfl : W0 = X := by rw [← hW0]; exact HX.out
    clear hW0
    rw [HN.out]
    go_loopw [15] (fun sv wr => ∃ k : Nat, k ≤ n ∧ sv = .int .i64 k ∧ Hid (O1At w N cs k wr)) (fun sv _ => n - (Go.RowKit.intOf sv).toNat)
    case atStart => exact ⟨0, Nat.zero_le _, rfl, HST0⟩
    case round =>
      clear HST0 HX
      obtain ⟨k, hk, rfl, HS⟩ := hrel
      by_cases hlt : k < n
      · have hlti : (k : Int) < (n : Int) := by omega
        obtain ⟨c, hcx⟩ : ∃ c, cs[k]? = some c := ⟨_, List.getElem?_eq_getElem (by rw [HCN.out]; exact hlt)⟩
        obtain ⟨b, o, rfl, -, hj⟩ := at_int (HV.out wr HS.out.2.1) (by rw [HCN.out]; omega)
        have u0 := hj k c hcx
        by_cases d1 : c < 0
        · have b1 : decide (c < 0) = true := decide_eq_true d1
          have HE : Hid (OpenV w cs (.returned (.tuple #[.pointer none, .int .i64 1])) wr) := Lib.hid ⟨by rw [HN.out]; exact HS.out.2.1, .inl ⟨fun h => by have := (h.2.1 c (List.mem_of_getElem? hcx)).1; omega, rfl⟩⟩
          clear hj hcx HS d1
          go_wp2_with fail
          go_ret2
          exact HE.out
        · have b1 : decide (c < 0) = false := decide_eq_false d1
          by_cases d2 : 15 < c
          · have b2 : decide (c > 15) = true := decide_eq_true d2
            have HE : Hid (OpenV w cs (.returned (.tuple #[.pointer none, .int .i64 1])) wr) := Lib.hid ⟨by rw [HN.out]; exact HS.out.2.1, .inl ⟨fun h => by have := (h.2.1 c (List.mem_of_getElem? hcx)).2; omega, rfl⟩⟩
            clear hj hcx HS d1 d2
            go_wp2_with fail
            go_ret2
            exact HE.out
          · have b2 : decide (c > 15) = false := decide_eq_false d2
            obtain ⟨x, rfl⟩ : ∃ x : Nat, c = x := ⟨c.toNat, by omega⟩
            have hx16 : x < 16 := by omega
            have hx16i : (x : Int) < 16 := by omega
            obtain ⟨hbd, hbl, vs, hbk⟩ := HS.out
            have hbd2 : ∀ y ∈ cs.take (k + 1), 0 ≤ y ∧ y ≤ 15 := fun y hy => by
              rw [List.take_add_one, hcx] at hy
              rcases List.mem_append.1 hy with hy | hy
              · exact hbd y hy
              · have : y = (x : Int) := by simpa using hy
                omega
            have hstep := natLs_step hcx
            rw [Int.toNat_natCast] at hstep
            obtain ⟨L, hL⟩ : ∃ L, natLs (cs.take k) = L := ⟨_, rfl⟩
            have hLk : L.length = k := by rw [← hL]; unfold natLs; rw [List.length_map, List.length_take, HCN.out]; omega
            rw [hL] at hbk hstep
            obtain ⟨vx, hvx⟩ : ∃ v, vs[x]? = some v := ⟨_, List.getElem?_eq_getElem (by rw [hbk.vl]; exact hx16)⟩
            have hcnt : (symsOf L x).length ≤ 1024 := by have := cnt_le L x; omega
            have hox := hbk.rows x vx hvx
            have HB0 := Lib.hid (show wr.drew.cell? ⟨N, 16 + x, none⟩ = some vx from cell_of hbk.drew.box (book_v hbk.fl hvx))
            obtain ⟨X3, hX3⟩ : ∃ X3, wr.drew.alloc (.cells #[.int .i64 (k : Int)] 3) = X3 := ⟨_, rfl⟩
            have hb3 : X3.heap[N]? = some (.cells (bookC (List.replicate 16 0) vs 0) 147 (0, 0)) := by rw [← hX3, Below.heap_alloc _ _ _ hbk.drew.lt]; exact hbk.box
            have HB3 := Lib.hid (show X3.cell? ⟨N, 16 + x, none⟩ = some vx from cell_of hb3 (book_v hbk.fl hvx))
            have HO3 : Hid (X3.ownsRow N 3 1 vx (symsOf L x).length (symV (symsOf L x))) := Lib.hid (by rw [← hX3]; exact hox.alloc _)
            have hNX : N ≤ X3.heap.size := Nat.le_of_lt (heap_lt hb3)
            have HNW : Hid (∀ (j : Nat) (u : Value), [Value.int .i64 (k : Int)][j]? = some u → X3.cell? ((⟨wr.heap.size, 0, none⟩ : Addr).add j) = some u) := Lib.hid (by rw [← hX3]; exact news_at wr.drew [.int .i64 (k : Int)] 3)
            have HBL3 : Hid (Below N w X3) := Lib.hid (by rw [← hX3]; exact hbl.drew.alloc (by have := hbk.lt; exact Nat.le_of_lt this) _)
            have HBK := Lib.hid hbk.drew
            have HX3 : Hid ((wr.alloc (.cells #[.int .i64 (k : Int)] 3)).drew = X3) := Lib.hid (by rw [← hX3]; rfl)
            have HX3a := Lib.hid hX3
            have HLK := Lib.hid hLk
            have HVX := Lib.hid hvx
            have HBD := Lib.hid hbd2
            have HSTEP := Lib.hid hstep
            obtain ⟨m, hm⟩ : ∃ m, (symsOf L x).length = m := ⟨_, rfl⟩
            have HM := Lib.hid hm
            rw [hm] at HO3 hcnt
            clear hj hcx HS d1 d2 hbd hbl hbk hbd2 hstep hL hLk hvx hox hX3 hb3 hm
            go_wp2_with fail
            refine wp_region_Z (z := 14) (S := (fun w' => w'.cell? ⟨N, 16 + x, none⟩ = some vx)) (by kernel_rfl) ?_ (fun hHeld => ?_)
            · (try dsimp only); exact HB0.out
            refine wpAnyZ_take (i := 0) (oi := ?oi1) (v := ?v1) ?hi1 (by kernel_rfl) (by kernel_rfl) (by kernel_rfl) (by kernel_rfl) ?hq1 ?hy1 (by assumption) ?hr1
            case hi1 => (simp only [List.getElem?_toArray, List.getElem?_cons_zero]; rfl)
            case hq1 => exact fun _ _ _ h => h
            case hy1 => exact Or.inl ⟨by rfl, by intro whSw hSw'; (try dsimp only at hSw'); (first | (go_simp; done) | (go_simp; with_reducible rfl))⟩
            try simp only [Act.put, List.setIfInBounds_toArray, List.set_cons_zero, List.set_cons_succ]
            refine wpAnyZ_take (i := 1) (oi := ?oi2) (v := ?v2) ?hi2 (by kernel_rfl) (by kernel_rfl) (by kernel_rfl) (by kernel_rfl) ?hq2 ?hy2 (by assumption) ?hr2
            case hi2 => (simp only [List.getElem?_toArray, List.getElem?_cons_succ, List.getElem?_cons_zero]; rfl)
            case hq2 => exact fun _ _ _ h => h
            case hy2 => exact Or.inl ⟨by rfl, by intro whSw hSw'; (try dsimp only at hSw'); (first | (go_simp; done) | (go_simp; with_reducible rfl))⟩
            try simp only [Act.put, List.setIfInBounds_toArray, List.set_cons_zero, List.set_cons_succ]
            refine wpAnyZ_take (i := 2) (oi := ?oi3) (v := ?v3) ?hi3 (by kernel_rfl) (by kernel_rfl) (by kernel_rfl) (by kernel_rfl) ?hq3 ?hy3 (by assumption) ?hr3
            case hi3 => (simp only [List.getElem?_toArray, List.getElem?_cons_succ, List.getElem?_cons_zero]; rfl)
            case hq3 => exact fun _ _ _ h => h
            case hy3 => exact Or.inl ⟨by rfl, by intro whSw hSw'; (try dsimp only at hSw'); (first | (go_simp; done) | (go_simp; with_reducible rfl))⟩
            try simp only [Act.put, List.setIfInBounds_toArray, List.set_cons_zero, List.set_cons_succ]
            refine wpAnyZ_take (i := 3) (oi := ?oi4) (v := ?v4) ?hi4 (by kernel_rfl) (by kernel_rfl) (by kernel_rfl) (by kernel_rfl) ?hq4 ?hy4 (by assumption) ?hr4
            case hi4 => (simp only [List.getElem?_toArray, List.getElem?_cons_succ, List.getElem?_cons_zero]; rfl)
            case hq4 => exact fun _ _ _ h => h
            case hy4 => exact Or.inl ⟨by rfl, by intro whSw hSw'; (try dsimp only at hSw'); (first | (go_simp; done) | (go_simp; with_reducible rfl))⟩
            try simp only [Act.put, List.setIfInBounds_toArray, List.set_cons_zero, List.set_cons_succ]
            refine wpAnyZ_take (i := 4) (oi := ?oi5) (v := ?v5) ?hi5 (by kernel_rfl) (by kernel_rfl) (by kernel_rfl) (by kernel_rfl) ?hq5 ?hy5 (by assumption) ?hr5
            case hi5 => (simp only [List.getElem?_toArray, List.getElem?_cons_succ, List.getElem?_cons_zero]; rfl)
            case hq5 => exact fun _ _ _ h => h
            case hy5 => exact Or.inl ⟨by rfl, by intro whSw hSw'; (try dsimp only at hSw'); (first | (go_simp; done) | (go_simp; with_reducible rfl))⟩
            try simp only [Act.put, List.setIfInBounds_toArray, List.set_cons_zero, List.set_cons_succ]
            refine wpAnyZ_take (i := 5) (oi := ?oi6) (v := ?v6) ?hi6 (by kernel_rfl) (by kernel_rfl) (by kernel_rfl) (by kernel_rfl) ?hq6 ?hy6 (by assumption) ?hr6
            case hi6 => (simp only [List.getElem?_toArray, List.getElem?_cons_succ, List.getElem?_cons_zero]; rfl)
            case hq6 => exact fun _ _ _ h => h
            case hy6 => exact Or.inl ⟨by rfl, by intro whSw hSw'; (try dsimp only at hSw'); (first | (go_simp; done) | (go_simp; with_reducible rfl))⟩
            try simp only [Act.put, List.setIfInBounds_toArray, List.set_cons_zero, List.set_cons_succ]
            refine wpAnyZ_take (i := 6) (oi := ?oi7) (v := ?v7) ?hi7 (by kernel_rfl) (by kernel_rfl) (by kernel_rfl) (by kernel_rfl) ?hq7 ?hy7 (by assumption) ?hr7
            case hi7 => (simp only [List.getElem?_toArray, List.getElem?_cons_succ, List.getElem?_cons_zero]; rfl)
            case hq7 => exact fun _ _ _ h => h
            case hy7 => exact Or.inl ⟨by rfl, by intro whSw hSw'; (try dsimp only at hSw'); (first | (go_simp; done) | (go_simp; with_reducible rfl))⟩
            try simp only [Act.put, List.setIfInBounds_toArray, List.set_cons_zero, List.set_cons_succ]
            refine wpAnyZ_take (i := 7) (oi := ?oi8) (v := ?v8) ?hi8 (by kernel_rfl) (by kernel_rfl) (by kernel_rfl) (by kernel_rfl) ?hq8 ?hy8 (by assumption) ?hr8
            case hi8 => (simp only [List.getElem?_toArray, List.getElem?_cons_succ, List.getElem?_cons_zero]; rfl)
            case hq8 => exact fun _ _ _ h => h
            case hy8 => exact Or.inl ⟨by rfl, by intro whSw hSw'; (try dsimp only at hSw'); (first | (go_simp; done) | (go_simp; with_reducible rfl))⟩
            try simp only [Act.put, List.setIfInBounds_toArray, List.set_cons_zero, List.set_cons_succ]
            refine wpAnyZ_take (i := 8) (oi := ?oi9) (v := ?v9) ?hi9 (by kernel_rfl) (by kernel_rfl) (by kernel_rfl) (by kernel_rfl) ?hq9 ?hy9 (by assumption) ?hr9
            case hi9 => (simp only [List.getElem?_toArray, List.getElem?_cons_succ, List.getElem?_cons_zero]; rfl)
            case hq9 => exact fun _ _ _ h => h
            case hy9 => exact Or.inl ⟨by rfl, by intro whSw hSw'; (try dsimp only at hSw'); (first | (go_simp; done) | (go_simp; with_reducible rfl))⟩
            try simp only [Act.put, List.setIfInBounds_toArray, List.set_cons_zero, List.set_cons_succ]
            refine wpAnyZ_ready (rs := [9, 11]) (by kernel_rfl) (by simp) ?_
            refine AllReadyZ.cons (o := ?oo10) ?hi10 (fun K hK => ?hs10) ?hm10
            case hi10 => (simp only [List.getElem?_toArray, List.getElem?_cons_succ, List.getElem?_cons_zero]; rfl)
            · go_simp
              refine hK.out _ _ ?_ (fun hHeld => ?_)
              · (try dsimp only); first | exact HB4.out | (rw [HX3.out]; exact HB3.out) | exact HB0.out
              clear hK K
              try simp only [Act.put, List.setIfInBounds_toArray, List.set_cons_zero, List.set_cons_succ]
              refine wpAnyZ_ready (rs := [10, 11]) (by kernel_rfl) (by simp) ?_
              refine AllReadyZ.cons (o := ?oo11) ?hi11 (fun K hK => ?hs11) ?hm11
              case hi11 => (simp only [List.getElem?_toArray, List.getElem?_cons_succ, List.getElem?_cons_zero]; rfl)
              · rw [HX3.out]
                refine step_append_lies X3 rfl (.tmp 33) (.tmp 35) 22 rfl N 3 i0 _ 1 8 Try.underlying22 hi hz0 hz1 hz2 rfl (by decide) vx m (symV (symsOf L x)) rfl HO3.out ⟨wr.heap.size, 0, none⟩ 1 1 [.int .i64 (k : Int)] rfl rfl HNW.out (by simp [Value.oneCell']) (by decide) (by unfold maxLen; omega) (by omega) hNX X3.heap.size rfl ?_
                intro g cg wa ho hg hgn hgl
                have hp := BkAt.push HBK.out HX3a.out HLK.out HVX.out (by rw [HM.out]; exact ho) hg hgn
                rw [HM.out] at hp
                have HB4 := Lib.hid (cell_of hp.1 (book_v HBK.out.fl HVX.out))
                have HP4 := Lib.hid hp.2
                have HBL4 := Lib.hid (HBL3.out.grown hg hNX (fun k e => (own_low HO3.out k e).1))
                have s3 := HB4.out
                have f3 : wa.frozen? ⟨N, 16 + x, none⟩ = false := frozen_of hp.1
                clear ho hg hp hgn hgl
                refine hK.out _ _ ?_ (fun hHeld => ?_)
                · (try dsimp only); first | exact HB4.out | (rw [HX3.out]; exact HB3.out) | exact HB0.out
                clear hK K
                try simp only [Act.put, List.setIfInBounds_toArray, List.set_cons_zero, List.set_cons_succ]
                refine wpAnyZ_ready (rs := [11]) (by kernel_rfl) (by simp) ?_
                refine AllReadyZ.cons (o := ?oo12) ?hi12 (fun K hK => ?hs12) ?hm12
                case hi12 => (simp only [List.getElem?_toArray, List.getElem?_cons_succ, List.getElem?_cons_zero]; rfl)
                · go_simp
                  refine hK.out _ _ ?_ (fun hHeld => ?_)
                  · (try dsimp only); first | exact HB4.out | (rw [HX3.out]; exact HB3.out) | exact HB0.out
                  clear hK K
                  try simp only [Act.put, List.setIfInBounds_toArray, List.set_cons_zero, List.set_cons_succ]
                  refine wpAnyZ_ready (rs := [12]) (by kernel_rfl) (by simp) ?_
                  refine AllReadyZ.cons (o := ?oo13) ?hi13 (fun K hK => ?hs13) ?hm13
                  case hi13 => (simp only [List.getElem?_toArray, List.getElem?_cons_succ, List.getElem?_cons_zero]; rfl)
                  · go_simp
                    refine hK.out _ _ ?_ (fun hHeld => ?_)
                    · (try dsimp only); first | exact HB4.out | (rw [HX3.out]; exact HB3.out) | exact HB0.out
                    clear hK K
                    try simp only [Act.put, List.setIfInBounds_toArray, List.set_cons_zero, List.set_cons_succ]
                    refine wpAnyZ_ready (rs := [13]) (by kernel_rfl) (by simp) ?_
                    refine AllReadyZ.cons (o := ?oo14) ?hi14 (fun K hK => ?hs14) ?hm14
                    case hi14 => (simp only [List.getElem?_toArray, List.getElem?_cons_succ, List.getElem?_cons_zero]; rfl)
                    · go_simp
                      refine hK.out _ _ ?_ (fun hHeld => ?_)
                      · (try dsimp only); first | exact HB4.out | (rw [HX3.out]; exact HB3.out) | exact HB0.out
                      clear hK K
                      try simp only [Act.put, List.setIfInBounds_toArray, List.set_cons_zero, List.set_cons_succ]
                      refine wpAnyZ_ready (rs := [14]) (by kernel_rfl) (by simp) ?_
                      refine AllReadyZ.last (o := ?oo15) ?hi15 (fun K hK => ?hs15)
                      case hi15 => (simp only [List.getElem?_toArray, List.getElem?_cons_succ, List.getElem?_cons_zero]; rfl)
                      · go_simp
                        refine hK.out _ _ ?_
                        clear hK K
                        try simp only [Act.put, List.setIfInBounds_toArray, List.set_cons_zero, List.set_cons_succ]
                        refine wpAnyZ_done (by kernel_rfl) ?_ _
                        obtain ⟨W5, hW5⟩ : ∃ W5, wa.setCell ⟨N, 16 + x, none⟩ (.slice (some ⟨g, 0, none⟩) (m + 1) cg) = W5 := ⟨_, rfl⟩
                        have HW5 : Hid (O1At w N cs (k + 1) W5) := Lib.hid ⟨HBD.out, by rw [← hW5]; exact HBL4.out.setCell (p := ⟨N, 16 + x, none⟩) (Nat.le_refl _) _, _, by rw [HSTEP.out, ← hW5]; exact HP4.out⟩
                        rw [hW5]
                        clear hW5 HP4 HB4 s3 f3 hHeld HB0 HB3 HO3 HNW HBL3 HBL4 HBK HX3 HX3a HLK HVX HBD HSTEP HM
                        go_wp2_with fail
                        exact ⟨⟨k + 1, by omega, by go_num, HW5⟩, by simp only [Go.RowKit.intOf]; omega⟩
                    exact AllReadyZ.nil
                  exact AllReadyZ.nil
                exact AllReadyZ.nil
              refine AllReadyZ.cons (o := ?oo16) ?hi16 (fun K hK => ?hs16) ?hm16
              case hi16 => (simp only [List.getElem?_toArray, List.getElem?_cons_succ, List.getElem?_cons_zero]; rfl)
              · go_simp
                refine hK.out _ _ ?_ (fun hHeld => ?_)
                · (try dsimp only); first | exact HB4.out | (rw [HX3.out]; exact HB3.out) | exact HB0.out
                clear hK K
                try simp only [Act.put, List.setIfInBounds_toArray, List.set_cons_zero, List.set_cons_succ]
                refine wpAnyZ_ready (rs := [10, 12]) (by kernel_rfl) (by simp) ?_
                refine AllReadyZ.cons (o := ?oo17) ?hi17 (fun K hK => ?hs17) ?hm17
                case hi17 => (simp only [List.getElem?_toArray, List.getElem?_cons_succ, List.getElem?_cons_zero]; rfl)
                · rw [HX3.out]
                  refine step_append_lies X3 rfl (.tmp 33) (.tmp 35) 22 rfl N 3 i0 _ 1 8 Try.underlying22 hi hz0 hz1 hz2 rfl (by decide) vx m (symV (symsOf L x)) rfl HO3.out ⟨wr.heap.size, 0, none⟩ 1 1 [.int .i64 (k : Int)] rfl rfl HNW.out (by simp [Value.oneCell']) (by decide) (by unfold maxLen; omega) (by omega) hNX X3.heap.size rfl ?_
                  intro g cg wa ho hg hgn hgl
                  have hp := BkAt.push HBK.out HX3a.out HLK.out HVX.out (by rw [HM.out]; exact ho) hg hgn
                  rw [HM.out] at hp
                  have HB4 := Lib.hid (cell_of hp.1 (book_v HBK.out.fl HVX.out))
                  have HP4 := Lib.hid hp.2
                  have HBL4 := Lib.hid (HBL3.out.grown hg hNX (fun k e => (own_low HO3.out k e).1))
                  have s3 := HB4.out
                  have f3 : wa.frozen? ⟨N, 16 + x, none⟩ = false := frozen_of hp.1
                  clear ho hg hp hgn hgl
                  refine hK.out _ _ ?_ (fun hHeld => ?_)
                  · (try dsimp only); first | exact HB4.out | (rw [HX3.out]; exact HB3.out) | exact HB0.out
                  clear hK K
                  try simp only [Act.put, List.setIfInBounds_toArray, List.set_cons_zero, List.set_cons_succ]
                  refine wpAnyZ_ready (rs := [12]) (by kernel_rfl) (by simp) ?_
                  refine AllReadyZ.cons (o := ?oo18) ?hi18 (fun K hK => ?hs18) ?hm18
                  case hi18 => (simp only [List.getElem?_toArray, List.getElem?_cons_succ, List.getElem?_cons_zero]; rfl)
                  · go_simp
                    refine hK.out _ _ ?_ (fun hHeld => ?_)
                    · (try dsimp only); first | exact HB4.out | (rw [HX3.out]; exact HB3.out) | exact HB0.out
                    clear hK K
                    try simp only [Act.put, List.setIfInBounds_toArray, List.set_cons_zero, List.set_cons_succ]
                    refine wpAnyZ_ready (rs := [13]) (by kernel_rfl) (by simp) ?_
                    refine AllReadyZ.cons (o := ?oo19) ?hi19 (fun K hK => ?hs19) ?hm19
                    case hi19 => (simp only [List.getElem?_toArray, List.getElem?_cons_succ, List.getElem?_cons_zero]; rfl)
                    · go_simp
                      refine hK.out _ _ ?_ (fun hHeld => ?_)
                      · (try dsimp only); first | exact HB4.out | (rw [HX3.out]; exact HB3.out) | exact HB0.out
                      clear hK K
                      try simp only [Act.put, List.setIfInBounds_toArray, List.set_cons_zero, List.set_cons_succ]
                      refine wpAnyZ_ready (rs := [14]) (by kernel_rfl) (by simp) ?_
                      refine AllReadyZ.last (o := ?oo20) ?hi20 (fun K hK => ?hs20)
                      case hi20 => (simp only [List.getElem?_toArray, List.getElem?_cons_succ, List.getElem?_cons_zero]; rfl)
                      · go_simp
                        refine hK.out _ _ ?_
                        clear hK K
                        try simp only [Act.put, List.setIfInBounds_toArray, List.set_cons_zero, List.set_cons_succ]
                        refine wpAnyZ_done (by kernel_rfl) ?_ _
                        obtain ⟨W5, hW5⟩ : ∃ W5, wa.setCell ⟨N, 16 + x, none⟩ (.slice (some ⟨g, 0, none⟩) (m + 1) cg) = W5 := ⟨_, rfl⟩
                        have HW5 : Hid (O1At w N cs (k + 1) W5) := Lib.hid ⟨HBD.out, by rw [← hW5]; exact HBL4.out.setCell (p := ⟨N, 16 + x, none⟩) (Nat.le_refl _) _, _, by rw [HSTEP.out, ← hW5]; exact HP4.out⟩
                        rw [hW5]
                        clear hW5 HP4 HB4 s3 f3 hHeld HB0 HB3 HO3 HNW HBL3 HBL4 HBK HX3 HX3a HLK HVX HBD HSTEP HM
                        go_wp2_with fail
                        exact ⟨⟨k + 1, by omega, by go_num, HW5⟩, by simp only [Go.RowKit.intOf]; omega⟩
                    exact AllReadyZ.nil
                  exact AllReadyZ.nil
                refine AllReadyZ.cons (o := ?oo21) ?hi21 (fun K hK => ?hs21) ?hm21
                case hi21 => (simp only [List.getElem?_toArray, List.getElem?_cons_succ, List.getElem?_cons_zero]; rfl)
                · go_simp
                  refine hK.out _ _ ?_ (fun hHeld => ?_)
                  · (try dsimp only); first | exact HB4.out | (rw [HX3.out]; exact HB3.out) | exact HB0.out
                  clear hK K
                  try simp only [Act.put, List.setIfInBounds_toArray, List.set_cons_zero, List.set_cons_succ]
                  refine wpAnyZ_ready (rs := [10]) (by kernel_rfl) (by simp) ?_
                  refine AllReadyZ.cons (o := ?oo22) ?hi22 (fun K hK => ?hs22) ?hm22
                  case hi22 => (simp only [List.getElem?_toArray, List.getElem?_cons_succ, List.getElem?_cons_zero]; rfl)
                  · rw [HX3.out]
                    refine step_append_lies X3 rfl (.tmp 33) (.tmp 35) 22 rfl N 3 i0 _ 1 8 Try.underlying22 hi hz0 hz1 hz2 rfl (by decide) vx m (symV (symsOf L x)) rfl HO3.out ⟨wr.heap.size, 0, none⟩ 1 1 [.int .i64 (k : Int)] rfl rfl HNW.out (by simp [Value.oneCell']) (by decide) (by unfold maxLen; omega) (by omega) hNX X3.heap.size rfl ?_
                    intro g cg wa ho hg hgn hgl
                    have hp := BkAt.push HBK.out HX3a.out HLK.out HVX.out (by rw [HM.out]; exact ho) hg hgn
                    rw [HM.out] at hp
                    have HB4 := Lib.hid (cell_of hp.1 (book_v HBK.out.fl HVX.out))
                    have HP4 := Lib.hid hp.2
                    have HBL4 := Lib.hid (HBL3.out.grown hg hNX (fun k e => (own_low HO3.out k e).1))
                    have s3 := HB4.out
                    have f3 : wa.frozen? ⟨N, 16 + x, none⟩ = false := frozen_of hp.1
                    clear ho hg hp hgn hgl
                    refine hK.out _ _ ?_ (fun hHeld => ?_)
                    · (try dsimp only); first | exact HB4.out | (rw [HX3.out]; exact HB3.out) | exact HB0.out
                    clear hK K
                    try simp only [Act.put, List.setIfInBounds_toArray, List.set_cons_zero, List.set_cons_succ]
                    refine wpAnyZ_ready (rs := [13]) (by kernel_rfl) (by simp) ?_
                    refine AllReadyZ.cons (o := ?oo23) ?hi23 (fun K hK => ?hs23) ?hm23
                    case hi23 => (simp only [List.getElem?_toArray, List.getElem?_cons_succ, List.getElem?_cons_zero]; rfl)
                    · go_simp
                      refine hK.out _ _ ?_ (fun hHeld => ?_)
                      · (try dsimp only); first | exact HB4.out | (rw [HX3.out]; exact HB3.out) | exact HB0.out
                      clear hK K
                      try simp only [Act.put, List.setIfInBounds_toArray, List.set_cons_zero, List.set_cons_succ]
                      refine wpAnyZ_ready (rs := [14]) (by kernel_rfl) (by simp) ?_
                      refine AllReadyZ.last (o := ?oo24) ?hi24 (fun K hK => ?hs24)
                      case hi24 => (simp only [List.getElem?_toArray, List.getElem?_cons_succ, List.getElem?_cons_zero]; rfl)
                      · go_simp
                        refine hK.out _ _ ?_
                        clear hK K
                        try simp only [Act.put, List.setIfInBounds_toArray, List.set_cons_zero, List.set_cons_succ]
                        refine wpAnyZ_done (by kernel_rfl) ?_ _
                        obtain ⟨W5, hW5⟩ : ∃ W5, wa.setCell ⟨N, 16 + x, none⟩ (.slice (some ⟨g, 0, none⟩) (m + 1) cg) = W5 := ⟨_, rfl⟩
                        have HW5 : Hid (O1At w N cs (k + 1) W5) := Lib.hid ⟨HBD.out, by rw [← hW5]; exact HBL4.out.setCell (p := ⟨N, 16 + x, none⟩) (Nat.le_refl _) _, _, by rw [HSTEP.out, ← hW5]; exact HP4.out⟩
                        rw [hW5]
                        clear hW5 HP4 HB4 s3 f3 hHeld HB0 HB3 HO3 HNW HBL3 HBL4 HBK HX3 HX3a HLK HVX HBD HSTEP HM
                        go_wp2_with fail
                        exact ⟨⟨k + 1, by omega, by go_num, HW5⟩, by simp only [Go.RowKit.intOf]; omega⟩
                    exact AllReadyZ.nil
                  exact AllReadyZ.nil
                exact AllReadyZ.nil
              exact AllReadyZ.nil
            refine AllReadyZ.cons (o := ?oo25) ?hi25 (fun K hK => ?hs25) ?hm25
            case hi25 => (simp only [List.getElem?_toArray, List.getElem?_cons_succ, List.getElem?_cons_zero]; rfl)
            · go_simp
              refine hK.out _ _ ?_ (fun hHeld => ?_)
              · (try dsimp only); first | exact HB4.out | (rw [HX3.out]; exact HB3.out) | exact HB0.out
              clear hK K
              try simp only [Act.put, List.setIfInBounds_toArray, List.set_cons_zero, List.set_cons_succ]
              refine wpAnyZ_ready (rs := [9, 12]) (by kernel_rfl) (by simp) ?_
              refine AllReadyZ.cons (o := ?oo26) ?hi26 (fun K hK => ?hs26) ?hm26
              case hi26 => (simp only [List.getElem?_toArray, List.getElem?_cons_succ, List.getElem?_cons_zero]; rfl)
              · go_simp
                refine hK.out _ _ ?_ (fun hHeld => ?_)
                · (try dsimp only); first | exact HB4.out | (rw [HX3.out]; exact HB3.out) | exact HB0.out
                clear hK K
                try simp only [Act.put, List.setIfInBounds_toArray, List.set_cons_zero, List.set_cons_succ]
                refine wpAnyZ_ready (rs := [10, 12]) (by kernel_rfl) (by simp) ?_
                refine AllReadyZ.cons (o := ?oo27) ?hi27 (fun K hK => ?hs27) ?hm27
                case hi27 => (simp only [List.getElem?_toArray, List.getElem?_cons_succ, List.getElem?_cons_zero]; rfl)
                · rw [HX3.out]
                  refine step_append_lies X3 rfl (.tmp 33) (.tmp 35) 22 rfl N 3 i0 _ 1 8 Try.underlying22 hi hz0 hz1 hz2 rfl (by decide) vx m (symV (symsOf L x)) rfl HO3.out ⟨wr.heap.size, 0, none⟩ 1 1 [.int .i64 (k : Int)] rfl rfl HNW.out (by simp [Value.oneCell']) (by decide) (by unfold maxLen; omega) (by omega) hNX X3.heap.size rfl ?_
                  intro g cg wa ho hg hgn hgl
                  have hp := BkAt.push HBK.out HX3a.out HLK.out HVX.out (by rw [HM.out]; exact ho) hg hgn
                  rw [HM.out] at hp
                  have HB4 := Lib.hid (cell_of hp.1 (book_v HBK.out.fl HVX.out))
                  have HP4 := Lib.hid hp.2
                  have HBL4 := Lib.hid (HBL3.out.grown hg hNX (fun k e => (own_low HO3.out k e).1))
                  have s3 := HB4.out
                  have f3 : wa.frozen? ⟨N, 16 + x, none⟩ = false := frozen_of hp.1
                  clear ho hg hp hgn hgl
                  refine hK.out _ _ ?_ (fun hHeld => ?_)
                  · (try dsimp only); first | exact HB4.out | (rw [HX3.out]; exact HB3.out) | exact HB0.out
                  clear hK K
                  try simp only [Act.put, List.setIfInBounds_toArray, List.set_cons_zero, List.set_cons_succ]
                  refine wpAnyZ_ready (rs := [12]) (by kernel_rfl) (by simp) ?_
                  refine AllReadyZ.cons (o := ?oo28) ?hi28 (fun K hK => ?hs28) ?hm28
                  case hi28 => (simp only [List.getElem?_toArray, List.getElem?_cons_succ, List.getElem?_cons_zero]; rfl)
                  · go_simp
                    refine hK.out _ _ ?_ (fun hHeld => ?_)
                    · (try dsimp only); first | exact HB4.out | (rw [HX3.out]; exact HB3.out) | exact HB0.out
                    clear hK K
                    try simp only [Act.put, List.setIfInBounds_toArray, List.set_cons_zero, List.set_cons_succ]
                    refine wpAnyZ_ready (rs := [13]) (by kernel_rfl) (by simp) ?_
                    refine AllReadyZ.cons (o := ?oo29) ?hi29 (fun K hK => ?hs29) ?hm29
                    case hi29 => (simp only [List.getElem?_toArray, List.getElem?_cons_succ, List.getElem?_cons_zero]; rfl)
                    · go_simp
                      refine hK.out _ _ ?_ (fun hHeld => ?_)
                      · (try dsimp only); first | exact HB4.out | (rw [HX3.out]; exact HB3.out) | exact HB0.out
                      clear hK K
                      try simp only [Act.put, List.setIfInBounds_toArray, List.set_cons_zero, List.set_cons_succ]
                      refine wpAnyZ_ready (rs := [14]) (by kernel_rfl) (by simp) ?_
                      refine AllReadyZ.last (o := ?oo30) ?hi30 (fun K hK => ?hs30)
                      case hi30 => (simp only [List.getElem?_toArray, List.getElem?_cons_succ, List.getElem?_cons_zero]; rfl)
                      · go_simp
                        refine hK.out _ _ ?_
                        clear hK K
                        try simp only [Act.put, List.setIfInBounds_toArray, List.set_cons_zero, List.set_cons_succ]
                        refine wpAnyZ_done (by kernel_rfl) ?_ _
                        obtain ⟨W5, hW5⟩ : ∃ W5, wa.setCell ⟨N, 16 + x, none⟩ (.slice (some ⟨g, 0, none⟩) (m + 1) cg) = W5 := ⟨_, rfl⟩
                        have HW5 : Hid (O1At w N cs (k + 1) W5) := Lib.hid ⟨HBD.out, by rw [← hW5]; exact HBL4.out.setCell (p := ⟨N, 16 + x, none⟩) (Nat.le_refl _) _, _, by rw [HSTEP.out, ← hW5]; exact HP4.out⟩
                        rw [hW5]
                        clear hW5 HP4 HB4 s3 f3 hHeld HB0 HB3 HO3 HNW HBL3 HBL4 HBK HX3 HX3a HLK HVX HBD HSTEP HM
                        go_wp2_with fail
                        exact ⟨⟨k + 1, by omega, by go_num, HW5⟩, by simp only [Go.RowKit.intOf]; omega⟩
                    exact AllReadyZ.nil
                  exact AllReadyZ.nil
                refine AllReadyZ.cons (o := ?oo31) ?hi31 (fun K hK => ?hs31) ?hm31
                case hi31 => (simp only [List.getElem?_toArray, List.getElem?_cons_succ, List.getElem?_cons_zero]; rfl)
                · go_simp
                  refine hK.out _ _ ?_ (fun hHeld => ?_)
                  · (try dsimp only); first | exact HB4.out | (rw [HX3.out]; exact HB3.out) | exact HB0.out
                  clear hK K
                  try simp only [Act.put, List.setIfInBounds_toArray, List.set_cons_zero, List.set_cons_succ]
                  refine wpAnyZ_ready (rs := [10]) (by kernel_rfl) (by simp) ?_
                  refine AllReadyZ.cons (o := ?oo32) ?hi32 (fun K hK => ?hs32) ?hm32
                  case hi32 => (simp only [List.getElem?_toArray, List.getElem?_cons_succ, List.getElem?_cons_zero]; rfl)
                  · rw [HX3.out]
                    refine step_append_lies X3 rfl (.tmp 33) (.tmp 35) 22 rfl N 3 i0 _ 1 8 Try.underlying22 hi hz0 hz1 hz2 rfl (by decide) vx m (symV (symsOf L x)) rfl HO3.out ⟨wr.heap.size, 0, none⟩ 1 1 [.int .i64 (k : Int)] rfl rfl HNW.out (by simp [Value.oneCell']) (by decide) (by unfold maxLen; omega) (by omega) hNX X3.heap.size rfl ?_
                    intro g cg wa ho hg hgn hgl
                    have hp := BkAt.push HBK.out HX3a.out HLK.out HVX.out (by rw [HM.out]; exact ho) hg hgn
                    rw [HM.out] at hp
                    have HB4 := Lib.hid (cell_of hp.1 (book_v HBK.out.fl HVX.out))
                    have HP4 := Lib.hid hp.2
                    have HBL4 := Lib.hid (HBL3.out.grown hg hNX (fun k e => (own_low HO3.out k e).1))
                    have s3 := HB4.out
                    have f3 : wa.frozen? ⟨N, 16 + x, none⟩ = false := frozen_of hp.1
                    clear ho hg hp hgn hgl
                    refine hK.out _ _ ?_ (fun hHeld => ?_)
                    · (try dsimp only); first | exact HB4.out | (rw [HX3.out]; exact HB3.out) | exact HB0.out
                    clear hK K
                    try simp only [Act.put, List.setIfInBounds_toArray, List.set_cons_zero, List.set_cons_succ]
                    refine wpAnyZ_ready (rs := [13]) (by kernel_rfl) (by simp) ?_
                    refine AllReadyZ.cons (o := ?oo33) ?hi33 (fun K hK => ?hs33) ?hm33
                    case hi33 => (simp only [List.getElem?_toArray, List.getElem?_cons_succ, List.getElem?_cons_zero]; rfl)
                    · go_simp
                      refine hK.out _ _ ?_ (fun hHeld => ?_)
                      · (try dsimp only); first | exact HB4.out | (rw [HX3.out]; exact HB3.out) | exact HB0.out
                      clear hK K
                      try simp only [Act.put, List.setIfInBounds_toArray, List.set_cons_zero, List.set_cons_succ]
                      refine wpAnyZ_ready (rs := [14]) (by kernel_rfl) (by simp) ?_
                      refine AllReadyZ.last (o := ?oo34) ?hi34 (fun K hK => ?hs34)
                      case hi34 => (simp only [List.getElem?_toArray, List.getElem?_cons_succ, List.getElem?_cons_zero]; rfl)
                      · go_simp
                        refine hK.out _ _ ?_
                        clear hK K
                        try simp only [Act.put, List.setIfInBounds_toArray, List.set_cons_zero, List.set_cons_succ]
                        refine wpAnyZ_done (by kernel_rfl) ?_ _
                        obtain ⟨W5, hW5⟩ : ∃ W5, wa.setCell ⟨N, 16 + x, none⟩ (.slice (some ⟨g, 0, none⟩) (m + 1) cg) = W5 := ⟨_, rfl⟩
                        have HW5 : Hid (O1At w N cs (k + 1) W5) := Lib.hid ⟨HBD.out, by rw [← hW5]; exact HBL4.out.setCell (p := ⟨N, 16 + x, none⟩) (Nat.le_refl _) _, _, by rw [HSTEP.out, ← hW5]; exact HP4.out⟩
                        rw [hW5]
                        clear hW5 HP4 HB4 s3 f3 hHeld HB0 HB3 HO3 HNW HBL3 HBL4 HBK HX3 HX3a HLK HVX HBD HSTEP HM
                        go_wp2_with fail
                        exact ⟨⟨k + 1, by omega, by go_num, HW5⟩, by simp only [Go.RowKit.intOf]; omega⟩
                    exact AllReadyZ.nil
                  exact AllReadyZ.nil
                exact AllReadyZ.nil
              refine AllReadyZ.cons (o := ?oo35) ?hi35 (fun K hK => ?hs35) ?hm35
              case hi35 => (simp only [List.getElem?_toArray, List.getElem?_cons_succ, List.getElem?_cons_zero]; rfl)
              · go_simp
                refine hK.out _ _ ?_ (fun hHeld => ?_)
                · (try dsimp only); first | exact HB4.out | (rw [HX3.out]; exact HB3.out) | exact HB0.out
                clear hK K
                try simp only [Act.put, List.setIfInBounds_toArray, List.set_cons_zero, List.set_cons_succ]
                refine wpAnyZ_ready (rs := [9]) (by kernel_rfl) (by simp) ?_
                refine AllReadyZ.cons (o := ?oo36) ?hi36 (fun K hK => ?hs36) ?hm36
                case hi36 => (simp only [List.getElem?_toArray, List.getElem?_cons_succ, List.getElem?_cons_zero]; rfl)
                · go_simp
                  refine hK.out _ _ ?_ (fun hHeld => ?_)
                  · (try dsimp only); first | exact HB4.out | (rw [HX3.out]; exact HB3.out) | exact HB0.out
                  clear hK K
                  try simp only [Act.put, List.setIfInBounds_toArray, List.set_cons_zero, List.set_cons_succ]
                  refine wpAnyZ_ready (rs := [10]) (by kernel_rfl) (by simp) ?_
                  refine AllReadyZ.cons (o := ?oo37) ?hi37 (fun K hK => ?hs37) ?hm37
                  case hi37 => (simp only [List.getElem?_toArray, List.getElem?_cons_succ, List.getElem?_cons_zero]; rfl)
                  · rw [HX3.out]
                    refine step_append_lies X3 rfl (.tmp 33) (.tmp 35) 22 rfl N 3 i0 _ 1 8 Try.underlying22 hi hz0 hz1 hz2 rfl (by decide) vx m (symV (symsOf L x)) rfl HO3.out ⟨wr.heap.size, 0, none⟩ 1 1 [.int .i64 (k : Int)] rfl rfl HNW.out (by simp [Value.oneCell']) (by decide) (by unfold maxLen; omega) (by omega) hNX X3.heap.size rfl ?_
                    intro g cg wa ho hg hgn hgl
                    have hp := BkAt.push HBK.out HX3a.out HLK.out HVX.out (by rw [HM.out]; exact ho) hg hgn
                    rw [HM.out] at hp
                    have HB4 := Lib.hid (cell_of hp.1 (book_v HBK.out.fl HVX.out))
                    have HP4 := Lib.hid hp.2
                    have HBL4 := Lib.hid (HBL3.out.grown hg hNX (fun k e => (own_low HO3.out k e).1))
                    have s3 := HB4.out
                    have f3 : wa.frozen? ⟨N, 16 + x, none⟩ = false := frozen_of hp.1
                    clear ho hg hp hgn hgl
                    refine hK.out _ _ ?_ (fun hHeld => ?_)
                    · (try dsimp only); first | exact HB4.out | (rw [HX3.out]; exact HB3.out) | exact HB0.out
                    clear hK K
                    try simp only [Act.put, List.setIfInBounds_toArray, List.set_cons_zero, List.set_cons_succ]
                    refine wpAnyZ_ready (rs := [13]) (by kernel_rfl) (by simp) ?_
                    refine AllReadyZ.cons (o := ?oo38) ?hi38 (fun K hK => ?hs38) ?hm38
                    case hi38 => (simp only [List.getElem?_toArray, List.getElem?_cons_succ, List.getElem?_cons_zero]; rfl)
                    · go_simp
                      refine hK.out _ _ ?_ (fun hHeld => ?_)
                      · (try dsimp only); first | exact HB4.out | (rw [HX3.out]; exact HB3.out) | exact HB0.out
                      clear hK K
                      try simp only [Act.put, List.setIfInBounds_toArray, List.set_cons_zero, List.set_cons_succ]
                      refine wpAnyZ_ready (rs := [14]) (by kernel_rfl) (by simp) ?_
                      refine AllReadyZ.last (o := ?oo39) ?hi39 (fun K hK => ?hs39)
                      case hi39 => (simp only [List.getElem?_toArray, List.getElem?_cons_succ, List.getElem?_cons_zero]; rfl)
                      · go_simp
                        refine hK.out _ _ ?_
                        clear hK K
                        try simp only [Act.put, List.setIfInBounds_toArray, List.set_cons_zero, List.set_cons_succ]
                        refine wpAnyZ_done (by kernel_rfl) ?_ _
                        obtain ⟨W5, hW5⟩ : ∃ W5, wa.setCell ⟨N, 16 + x, none⟩ (.slice (some ⟨g, 0, none⟩) (m + 1) cg) = W5 := ⟨_, rfl⟩
                        have HW5 : Hid (O1At w N cs (k + 1) W5) := Lib.hid ⟨HBD.out, by rw [← hW5]; exact HBL4.out.setCell (p := ⟨N, 16 + x, none⟩) (Nat.le_refl _) _, _, by rw [HSTEP.out, ← hW5]; exact HP4.out⟩
                        rw [hW5]
                        clear hW5 HP4 HB4 s3 f3 hHeld HB0 HB3 HO3 HNW HBL3 HBL4 HBK HX3 HX3a HLK HVX HBD HSTEP HM
                        go_wp2_with fail
                        exact ⟨⟨k + 1, by omega, by go_num, HW5⟩, by simp only [Go.RowKit.intOf]; omega⟩
                    exact AllReadyZ.nil
                  exact AllReadyZ.nil
                exact AllReadyZ.nil
              exact AllReadyZ.nil
            exact AllReadyZ.nil
      · obtain rfl : k = n := by omega
        have hlti : ¬ (k : Int) < (k : Int) := by omega
        have htk : cs.take k = cs := List.take_of_length_le (by rw [HCN.out]; exact Nat.le_refl _)
        have hs0 := HS.out
        unfold O1At at hs0
        rw [htk] at hs0
        obtain ⟨hbd, hbl, vs, hbk⟩ := hs0
        obtain ⟨L, hL⟩ : ∃ L, natLs cs = L := ⟨_, rfl⟩
        have hLl : L.length ≤ 1024 := by rw [← hL]; unfold natLs; rw [List.length_map, HCN.out]; exact hn1
        rw [hL] at hbk
        have HL := Lib.hid hL
        have HLL := Lib.hid hLl
        have HBD := Lib.hid hbd
        have HST1 : Hid (O2At w N L 0 wr) := Lib.hid ⟨hbl, vs, by rw [fsN_zero]; exact hbk⟩
        clear hbd hbl hbk HS htk hL hLl
        go_wp2_with fail
        go_loopw [7] (fun sv wr => ∃ i : Nat, i ≤ 15 ∧ sv = .int .i64 ((i + 1 : Nat) : Int) ∧ Hid (O2At w N L i wr)) (fun sv _ => 17 - (Go.RowKit.intOf sv).toNat)
        case atStart => exact ⟨0, Nat.zero_le _, rfl, HST1⟩
        case round =>
          clear HST1
          obtain ⟨i, hi15, rfl, HS⟩ := hrel
          by_cases hl2 : i < 15
          · have hli : ((i + 1 : Nat) : Int) ≤ 15 := by omega
            obtain ⟨hbl, vs, hbk⟩ := HS.out
            obtain ⟨f, hf⟩ : ∃ f, firstN L (i + 1) = f := ⟨_, rfl⟩
            obtain ⟨e, he⟩ : ∃ e, endN L i = e := ⟨_, rfl⟩
            have hfe : f = 2 * e := by rw [← hf, ← he]; rfl
            obtain ⟨vx, hvx⟩ : ∃ v, vs[i + 1]? = some v := ⟨_, List.getElem?_eq_getElem (by rw [hbk.vl]; omega)⟩
            have hox := hbk.rows (i + 1) vx hvx
            obtain ⟨Ax, capx, rfl, -⟩ := own_formI hox
            obtain ⟨m, hm⟩ : ∃ m, (symsOf L (i + 1)).length = m := ⟨_, rfl⟩
            rw [hm] at hvx
            have hm1 : m ≤ 1024 := by rw [← hm]; exact Nat.le_trans (cnt_le L _) HLL.out
            have heb : e ≤ 1024 * 32768 := by
              rw [← he]
              have h1 := endN_le L i
              have h2 : (2 : Nat) ^ i ≤ 2 ^ 15 := Nat.pow_le_pow_right (by omega) (by omega)
              have h3 : L.length * (2 ^ i - 1) ≤ 1024 * (2 ^ i - 1) := Nat.mul_le_mul_right _ HLL.out
              omega
            have hen : endN L (i + 1) = f + m := by rw [endN_eq L (by omega), hf, ← symsOf_len, hm]
            rw [he] at hbk
            have c0 := cell_of hbk.box (book_e hbk.fl hbk.vl)
            have f0 : wr.frozen? ⟨N, i + 1, none⟩ = false := frozen_of hbk.box
            obtain ⟨z, hz⟩ : ∃ z, (fsN L i)[i + 1]? = some z := ⟨_, List.getElem?_eq_getElem (by rw [hbk.fl]; omega)⟩
            have k0 := cell_of hbk.box (book_f (vs := vs) (en := e) hz)
            have hbk2 := hbk.set (i := i + 1) (u := .int .u64 (f : Int)) (fs' := fsN L (i + 1)) (en' := e) (by rw [book_set_f (by rw [hbk.fl]; omega), ← hf, fsN_set L (by omega)]) (fsN_len _ _)
            obtain ⟨W2, hW2⟩ : ∃ W2, wr.drew.setCell ⟨N, i + 1, none⟩ (.int .u64 (f : Int)) = W2 := ⟨_, rfl⟩
            have hbk3 : BkAt W2 N (fsN L (i + 1)) vs e L := by
              rw [← hW2]
              exact hbk.drew.set (i := i + 1) (u := .int .u64 (f : Int)) (by rw [book_set_f (by rw [hbk.fl]; omega), ← hf, fsN_set L (by omega)]) (fsN_len _ _)
            have hbl3 : Below N w W2 := by rw [← hW2]; exact hbl.drew.setCell (p := ⟨N, i + 1, none⟩) (Nat.le_refl _) _
            have hff : (fsN L (i + 1))[i + 1]? = some f := by rw [fsN_at L (by omega) (Nat.le_refl _) (by omega), hf]
            have d0 := cell_of hbk3.box (book_f hff)
            have d1 := cell_of hbk3.box (book_v hbk3.fl hvx)
            have d2 := cell_of hbk3.box (book_e hbk3.fl hbk3.vl)
            have f2 : W2.frozen? ⟨N, 32, none⟩ = false := frozen_of hbk3.box
            obtain ⟨s, hs⟩ : ∃ s, f + m = s := ⟨_, rfl⟩
            rw [hs] at hen
            obtain ⟨W3, hW3⟩ : ∃ W3, W2.drew.setCell ⟨N, 32, none⟩ (.int .u64 (s : Int)) = W3 := ⟨_, rfl⟩
            have HNX : Hid (O2At w N L (i + 1) W3) := Lib.hid (by
              rw [← hW3]
              refine ⟨hbl3.drew.setCell (p := ⟨N, 32, none⟩) (Nat.le_refl _) _, vs, ?_⟩
              rw [hen]
              exact hbk3.drew.set (i := 32) (book_set_e hbk3.fl hbk3.vl) hbk3.fl)
            have hw1 : IntKind.u64.wrap ((e : Int) * 2) = (f : Int) := by rw [hfe, show IntKind.u64.wrap ((e : Int) * 2) = ((e : Int) * 2) % 18446744073709551616 from rfl]; omega
            have hw2 : IntKind.u64.wrap (m : Int) = (m : Int) := by rw [show IntKind.u64.wrap (m : Int) = (m : Int) % 18446744073709551616 from rfl]; omega
            have hw3 : IntKind.u64.wrap ((f : Int) + (m : Int)) = (s : Int) := by rw [show IntKind.u64.wrap ((f : Int) + (m : Int)) = ((f : Int) + (m : Int)) % 18446744073709551616 from rfl]; omega
            have HW2 : Hid ((wr.setCell ⟨N, i + 1, none⟩ (.int .u64 (f : Int))).drew = W2) := Lib.hid (by rw [← hW2]; rfl)
            have HW3 : Hid ((W2.setCell ⟨N, 32, none⟩ (.int .u64 (s : Int))).drew = W3) := Lib.hid (by rw [← hW3]; rfl)
            have hi16 : (i : Int) + 1 < 16 := by omega
            have hi17 : (0 : Int) ≤ (i : Int) + 1 := by omega
            have hi18 : ¬ (i : Int) + 1 < 0 := by omega
            clear hbl hbk hf he hfe hox hm hen hbk2 hbk3 hbl3 hff hW2 hW3 HS hz hs
            go_wp2_with fail
            go_still_tail 10, (by kernel_rfl)
            change wpList _ _ _ _ _ wr.drew
            go_wp2_with fail
            rw [HW2.out]
            clear c0 f0 k0
            go_wp2_with fail
            go_still_tail 18, (by kernel_rfl)
            change wpList _ _ _ _ _ W2.drew
            go_wp2_with fail
            rw [HW3.out]
            clear d0 d1 d2 f2 hw1 hw2 hw3 HW2 HW3
            go_wp2_with fail
            exact ⟨⟨i + 1, by omega, by go_num, HNX⟩, by simp only [Go.RowKit.intOf]; omega⟩
          · obtain rfl : i = 15 := by omega
            obtain ⟨hbl, vs, hbk⟩ := HS.out
            obtain ⟨e, he⟩ : ∃ e, endN L 15 = e := ⟨_, rfl⟩
            rw [he] at hbk
            have c0 := cell_of hbk.box (book_e hbk.fl hbk.vl)
            by_cases hbg : 32768 < e
            · have hI2 : (32768 : Int) < (e : Int) := by omega
              have HE : Hid (OpenV w cs (.returned (.tuple #[.pointer none, .int .i64 1])) wr) := Lib.hid ⟨by rw [HN.out]; exact hbl, .inl ⟨fun h => by have h2 := h.2.2; rw [HL.out] at h2; omega, rfl⟩⟩
              clear hbl hbk he hbg HS
              go_wp2_with fail
              go_ret2
              exact HE.out
            · have hI2 : ¬ (32768 : Int) < (e : Int) := by omega
              have HE : Hid (OpenV w cs (.returned (.tuple #[.pointer (some ⟨N, 0, none⟩), .int .i64 0])) wr) := Lib.hid ⟨by rw [HN.out]; exact hbl, .inr ⟨⟨by rw [HCN.out]; exact hn1, HBD.out, by rw [HL.out]; omega⟩, vs, by rw [HN.out], by rw [HN.out, HL.out, he]; exact hbk⟩⟩
              clear hbl hbk he hbg HS
              go_wp2_with fail
              go_ret2
              exact HE.out
end Go.Proofs.Ytbfnkmibbieijaa
