/-
  WALKS over package stab: slices.SortFunc at nodes; plant.
-/
import Derived.Test.YtifdencdbpdbfaaDoorYaE
import Derived.Test.YtifdencdbpdbfaaDoorYaS
namespace Go.Proofs.YtifdencdbpdbfaaDoor
open Go.RowKit Go.Shelf Go.Lib Go.Sort
set_option linter.unusedVariables false
set_option linter.unusedSimpArgs false

theorem grown_sortN {w : World} {g m : Nat} {os : Array Obj} (d : Array Nd) : w.grownBy (sortWorldK ndV 4 w g 0 m d os) (some g) := by
  unfold sortWorldK
  refine ⟨rfl, rfl, rfl, by simp [putRowK, putRow, mapBlock, Sort.ahead], fun k hk hne => ?_⟩
  rw [heap_grow_old _ _ (by simpa [putRowK, putRow, mapBlock, Sort.ahead] using hk)]
  have : g ≠ k := fun e => hne (by rw [e])
  simp [putRowK, putRow, mapBlock, Sort.ahead, Array.getElem?_modify, this]
theorem flatN_at (d : Array Nd) (p : Nat) (hp : p < d.size * 4) : some (flatK ndV 4 d)[p]! = (d.toList.flatMap ndV)[p]? := by
  rw [get_flatK _ _ _ p hp]
  have hq : d.toList[p / 4]? = some (d[p / 4]'(by omega)) := by rw [Array.getElem?_toList, Array.getElem?_eq_getElem (by omega)]
  have h1 := flatM_get (enc := ndV) (sz := 4) ndV_len d.toList (p / 4) _ (p % 4) hq (Nat.mod_lt _ (by omega))
  rw [show p / 4 * 4 + p % 4 = p by omega] at h1
  rw [h1, getElem!_pos d (p / 4) (by omega)]
  rcases (by omega : p % 4 = 0 ∨ p % 4 = 1 ∨ p % 4 = 2 ∨ p % 4 = 3) with h | h | h | h <;> rw [h] <;> rfl
theorem own_sortedN {w : World} {base g n cap : Nat} {T : TypeId} {ks : List Nd} (h : w.ownsRow base T 4 (.slice (some ⟨g, 0, none⟩) n cap) n (ks.flatMap ndV)) (d' : Array Nd) (hd : d'.size = n) (m : Nat) (os : Array Obj) :
    (sortWorldK ndV 4 w g 0 m d' os).ownsRow base T 4 (.slice (some ⟨g, 0, none⟩) n cap) n (d'.toList.flatMap ndV) := by
  rcases h.2 with ⟨hv, _⟩ | ⟨g', cap', cur, hv, hb, hh, hc, hm, hs, ht⟩
  · cases hv
  · cases hv
    have hgl := (Array.getElem?_eq_some_iff.1 hh).1
    refine ⟨by rw [flatM_len ndV_len]; simp [hd], .inr ⟨g, cap, putCells id 0 (flatK ndV 4 d') cur, rfl, hb, ?_, hc, hm, by simp [putCells, hs], ?_⟩⟩
    · unfold sortWorldK
      rw [heap_grow_old _ _ (by simpa [putRowK, putRow, mapBlock, Sort.ahead] using hgl)]
      simp [putRowK, putRow, mapBlock, Sort.ahead, Array.getElem?_modify, hh, onCells]
    · refine List.ext_getElem? fun p => ?_
      by_cases hp : p < n * 4
      · rw [List.getElem?_take, if_pos hp, ← flatN_at d' p (by omega)]
        have hps : p < cur.size := by rw [hs]; omega
        simp [putCells, hps, size_flatK, hd, hp]
      · rw [List.getElem?_eq_none (by rw [List.length_take]; omega), List.getElem?_eq_none (by rw [flatM_len ndV_len]; simp [hd]; omega)]
theorem own_holdsN {w : World} {base g n cap : Nat} {T : TypeId} {ks : List Nd} (hn : ks.length = n) (h : w.ownsRow base T 4 (.slice (some ⟨g, 0, none⟩) n cap) n (ks.flatMap ndV)) : HoldsK ndV 4 w g 0 ks.toArray ∧ base ≤ g ∧ g < w.heap.size := by
  obtain ⟨hb, hlt⟩ := h.lt g rfl
  refine ⟨?_, hb, hlt⟩
  intro j hj
  rw [size_flatK] at hj
  have hj' : j < ks.length * 4 := by simpa using hj
  refine ⟨?_, ?_⟩
  · rw [Nat.zero_add, h.cellAt j (by omega)]
    have := flatN_at ks.toArray j (by simpa using hj')
    simp only [id_eq]
    rw [this]
  · rcases h.2 with ⟨hv, _⟩ | ⟨g', cap', cur, hv, _, hh, _⟩
    · cases hv
    · cases hv
      exact frozen_of hh
theorem perm_allN {ks : List Nd} {n : Nat} {d' : Array Nd} (hn : ks.length = n) (hs : d'.size = n) (hp : (d'.extract 0 n).toList.Perm (ks.toArray.extract 0 n).toList) : d'.toList.Perm ks := by
  have e1 : (d'.extract 0 n).toList = d'.toList := by rw [← hs]; simp
  have e2 : (ks.toArray.extract 0 n).toList = ks := by rw [← hn]; simp
  rw [e1, e2] at hp
  exact hp
set_option maxHeartbeats 1000000 in
theorem node1_any (x y : Nd) (w : World) : Calls Tryd.prog 44 #[.agg #[.int .i64 x.1.1, .int .i64 x.1.2, .int .i64 x.2.1, .int .i64 x.2.2], .agg #[.int .i64 y.1.1, .int .i64 y.1.2, .int .i64 y.2.1, .int .i64 y.2.2]] w fun e w' => e = .returned (.int .i64 (Lib.compareInt x.1.1 y.1.1)) ∧ ∃ q os, w' = grow (w.drewN q) os := by
  obtain ⟨⟨b, e⟩, n, r⟩ := x
  obtain ⟨⟨c, d⟩, m, s⟩ := y
  simp only
  have h1 := fun W => Tryd.cmp_Compare_int b c W
  obtain ⟨z1, hz1⟩ : ∃ z, Lib.compareInt b c = z := ⟨_, rfl⟩
  rw [hz1] at h1 ⊢
  have H1 := Lib.hid h1
  clear h1 hz1
  go_enter Tryd.func44, Tryd.ntmps44
  go_wp2_with fail
  refine (H1.out _).mono ?_
  rintro e w' ⟨rfl, rfl⟩
  go_wp2_with fail
  go_ret
  exact ⟨rfl, 0, _, by rw [alloc_eq_grow, alloc_eq_grow, grow_grow]; rfl⟩
def cfN (a b : Nd) : Int := Lib.compareInt a.1.1 b.1.1
theorem ltN (x y : Nd) : ltOf cfN x y = decide (x.1.1 < y.1.1) := by
  unfold ltOf cfN Lib.compareInt
  by_cases h1 : x.1.1 < y.1.1
  · simp [h1]
  · by_cases h2 : y.1.1 < x.1.1 <;> simp [h1, h2]
theorem swoN : SWO (ltOf cfN) where
  irrefl x := by rw [ltN]; simp
  trans x y z h1 h2 := by rw [ltN] at *; simp at *; omega
  ntrans x y z h1 h2 := by rw [ltN] at *; simp at *; omega
theorem cmpLaysN (blk off size : Nat) (w : World) : CmpLays Tryd.prog 44 #[] ndV 4 cfN blk off size w :=
  fun _ _ _ _ x y => node1_any x y _

set_option maxRecDepth 100000 in
set_option maxHeartbeats 1000000 in
theorem sortNd_any {w : World} {base g n cap : Nat} {ks : List Nd} (hn : ks.length = n) (hN : n ≤ 1000000) (h : w.ownsRow base 81 4 (.slice (some ⟨g, 0, none⟩) n cap) n (ks.flatMap ndV)) :
    Calls Tryd.prog 43 #[.slice (some ⟨g, 0, none⟩) n cap, .func (.func 44) #[] #[]] w fun e w' => e = .returned (.tuple #[]) ∧
      (∃ ts : List Nd, ts.Perm ks ∧ ts.Pairwise (fun a b => a.1.1 ≤ b.1.1) ∧ w'.ownsRow base 81 4 (.slice (some ⟨g, 0, none⟩) n cap) n (ts.flatMap ndV)) ∧ w.grownBy w' (some g) := by
  obtain ⟨hH, hb, hlt⟩ := own_holdsN hn h
  have hsz : ks.toArray.size = n := by simpa using hn
  have hlim : Lib.bitLen n < 4611686018427387904 := Nat.lt_of_le_of_lt (Lib.bitLen_le n 62 (by omega) (by omega)) (by omega)
  have hp := AnyQ.pdqsortCmpFunc_all (P := Tryd.prog) Tryd.laysPdqNd 4 Tryd.isAgg81 Tryd.sizeOf81 ndV cfN 44 #[] swoN g 0 cap ks.toArray w
    (enters_of Tryd.func44 (by kernel_rfl) rfl) (cmpLaysN g 0 _ w) ⟨ndV_len, ndV_one, hH, hlt⟩ (ks.toArray.size + 1) 0 ks.toArray.size (Lib.bitLen ks.toArray.size) ks.toArray w (by omega) rfl (SWK.start hH) (Nat.zero_le _) (Nat.le_refl _) (by omega) (by rw [hsz]; exact hlim) (Or.inl rfl)
  have hsort := pdq_sorts (ltOf cfN) swoN ks.toArray 0 ks.toArray.size (Lib.bitLen ks.toArray.size) true true (Nat.zero_le _) (Nat.le_refl _) (Or.inl rfl)
  rw [hsz] at hp hsort
  change Calls Tryd.prog 57 _ _ _ at hp
  obtain ⟨d', hd'⟩ : ∃ d', pdq (ltOf cfN) ks.toArray 0 n (Lib.bitLen n) true true = d' := ⟨_, rfl⟩
  rw [hd'] at hp hsort
  have hl := Tryd.bits_Len (n : Int) w (by omega) (by omega)
  rw [Int.toNat_natCast] at hl
  have hfin : ∀ w', SWK ndV 4 w g 0 d' w' → (∃ ts : List Nd, ts.Perm ks ∧ ts.Pairwise (fun a b => a.1.1 ≤ b.1.1) ∧ w'.ownsRow base 81 4 (.slice (some ⟨g, 0, none⟩) n cap) n (ts.flatMap ndV)) ∧ w.grownBy w' (some g) := by
    rintro w' ⟨m, os, rfl⟩
    obtain ⟨⟨hs, _, hpp⟩, hsrt⟩ := hsort
    have hds : d'.size = n := by rw [hs, hsz]
    refine ⟨⟨d'.toList, perm_allN hn hds hpp, ?_, own_sortedN h d' hds m os⟩, grown_sortN d'⟩
    rw [List.pairwise_iff_getElem]
    intro i j hi hj hij
    have hi' : i < d'.size := by simpa using hi
    have hj' : j < d'.size := by simpa using hj
    have := hsrt i j (Nat.zero_le _) hij (by omega)
    rw [getElem!_pos d' i hi', getElem!_pos d' j hj', ltN] at this
    simp only [decide_eq_false_iff_not, Int.not_lt] at this
    simp only [Array.getElem_toList]
    exact this
  have HP := Lib.hid hp
  have HL := Lib.hid hl
  have HF := Lib.hid hfin
  have wr : IntKind.u64.wrap (n : Int) = n := by simp [IntKind.wrap, IntKind.bits, IntKind.signed]; omega
  clear hp hl hfin hsort hd' hlim hsz hH hlt hb h hn
  go_enter Tryd.func43, Tryd.ntmps43
  go_wp2_with fail
  refine HL.out.mono ?_
  rintro e w1 ⟨rfl, rfl⟩
  go_wp2_with fail
  refine HP.out.mono ?_
  rintro e w2 ⟨rfl, hs⟩
  have HS := Lib.hid (HF.out w2 hs)
  clear hs
  go_wp2_with fail
  go_end0
  exact ⟨rfl, HS.out⟩
theorem own_blockN {W : World} {N n : Nat} {T : TypeId} {l : List Nd} (hn : l.length = n) (hm : n ≤ maxLen) (h : W.heap[N]? = some (.cells (ndRow l) T (0, 0))) : W.ownsRow N T 4 (.slice (some ⟨N, 0, none⟩) n n) n (l.flatMap ndV) :=
  ⟨by rw [flatM_len ndV_len, hn], .inr ⟨N, n, ndRow l, rfl, Nat.le_refl _, h, Nat.le_refl _, hm, by rw [ndRow_size, hn], by unfold ndRow; rw [List.take_of_length_le (by rw [← hn]; simp [flatM_len ndV_len])]⟩⟩
theorem block_ownN {W : World} {base N n : Nat} {T : TypeId} {l : List Nd} (hn : l.length = n) (h : W.ownsRow base T 4 (.slice (some ⟨N, 0, none⟩) n n) n (l.flatMap ndV)) : W.heap[N]? = some (.cells (ndRow l) T (0, 0)) := by
  rcases h.2 with ⟨hv, _⟩ | ⟨g', cap', cur, hv, hb, hh, hc, hm, hs, ht⟩
  · cases hv
  · cases hv
    rw [hh]
    congr 2
    unfold ndRow
    rw [← ht, List.take_of_length_le (by simp [hs])]
end Go.Proofs.YtifdencdbpdbfaaDoor
