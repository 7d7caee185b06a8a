/-
  WALKS over package markup, eleventh part: slices.Clone and slices.SortFunc at keys; sorted.
-/
import Derived.Test.YtjablaidbccnbaaGreatDoorMkO
import Derived.Test.YtjablaidbccnbaaGreatDoorMkT
namespace Go.Proofs.YtjablaidbccnbaaGreatDoor
open Go.RowKit Go.Shelf Go.Lib Go.Sort

theorem Tryz.infoPair : (Tryz.prog.info? 54).map (fun i => (i.zero, i.size, i.bytes)) = some (some (.agg #[.string ⟨#[]⟩, .string ⟨#[]⟩]), 2, 32) := by kernel_rfl
theorem own_empty2 (w : World) (t : TypeId) : (w.alloc (.cells #[] t)).ownsRow w.heap.size t 2 (.slice (some ⟨w.heap.size, 0, none⟩) 0 0) 0 [] :=
  ⟨rfl, .inr ⟨w.heap.size, 0, #[], rfl, Nat.le_refl _, block_new w _, Nat.le_refl _, by unfold maxLen; omega, rfl, rfl⟩⟩
theorem flat_get (ks : List Pr) (w : World) (b off : Nat) (h : ∀ (j : Nat) (p : Pr), ks[j]? = some p → w.cell? ⟨b, off + j * 2, none⟩ = some (.string ⟨p.1.toArray⟩) ∧ w.cell? ⟨b, off + j * 2 + 1, none⟩ = some (.string ⟨p.2.toArray⟩)) :
    ∀ (j : Nat) (u : Value), (ks.flatMap encP)[j]? = some u → w.cell? ⟨b, off + j, none⟩ = some u := by
  intro j u hu
  have hj : j < ks.length * 2 := by rw [← flat_len]; exact (List.getElem?_eq_some_iff.1 hu).1
  have hp : ks[j / 2]? = some (ks[j / 2]'(by omega)) := List.getElem?_eq_getElem (by omega)
  obtain ⟨f1, f2⟩ := flat_at ks (j / 2) _ hp
  obtain ⟨c1, c2⟩ := h (j / 2) _ hp
  rcases (by omega : j = j / 2 * 2 ∨ j = j / 2 * 2 + 1) with e | e
  · rw [← e] at f1 c1
    rw [f1] at hu
    rw [c1]
    exact hu
  · rw [← e] at f2
    rw [Nat.add_assoc, ← e] at c2
    rw [f2] at hu
    rw [c2]
    exact hu

set_option maxRecDepth 100000 in
set_option maxHeartbeats 1000000 in
theorem clone_any {w : World} {v : Value} {ks : List Pr} (hk : Keys w v ks) (hl : ks.length ≤ 1000000) :
    Calls Tryz.prog 41 #[v] w fun e w' => ∃ v', e = .returned v' ∧ w'.ownsRow w.heap.size 54 2 v' ks.length (ks.flatMap encP) ∧ Below w.heap.size w w' := by
  obtain ⟨A, cap, rfl, hc, hr⟩ := hk
  cases A with
  | none =>
    have h0 : ks = [] := by
      by_cases h : 0 < ks.length
      · obtain ⟨b, off, hA, _⟩ := hr h
        cases hA
      · exact List.length_eq_zero_iff.1 (by omega)
    subst h0
    refine (AnyE.slices_Clone_nil Tryz.laysClone 0 cap w).mono ?_
    rintro e w' ⟨rfl, rfl⟩
    exact ⟨_, rfl, World.ownsRow_nil _ _ _ _, Below.refl _ _⟩
  | some ad =>
    obtain ⟨i0, hi, hz0, hz1, hz2⟩ := info_parts' Tryz.infoPair
    have hnews : ∀ (j : Nat) (u : Value), (ks.flatMap encP)[j]? = some u → (w.alloc (.cells #[] 54)).cell? (ad.add j) = some u := by
      intro j u hu
      have h0 : 0 < ks.length := by
        have := (List.getElem?_eq_some_iff.1 hu).1
        rw [flat_len] at this
        omega
      obtain ⟨b, off, hA, hb, hj⟩ := hr h0
      cases hA
      rw [add_plain]
      have := flat_get ks w b off hj j u hu
      exact (((Below.refl w.heap.size w).alloc (Nat.le_refl _) (.cells #[] 54)).cell (p := ⟨b, off + j, none⟩) hb).trans this
    have hlen := flat_len ks
    have h1 : ∀ u ∈ ks.flatMap encP, u.oneCell' = true := by
      intro u hu
      obtain ⟨p, _, hp⟩ := List.mem_flatMap.1 hu
      exact enc_one p u hp
    obtain ⟨n, hn⟩ : ∃ n, ks.length = n := ⟨_, rfl⟩
    rw [hn] at hlen hl hc ⊢
    obtain ⟨F, hF⟩ : ∃ F, ks.flatMap encP = F := ⟨_, rfl⟩
    rw [hF] at hlen hnews h1 ⊢
    have HN := Lib.hid (And.intro hnews (And.intro h1 hlen))
    clear hr hn hF hnews h1 hlen hc
    have hnn : (binOp BinOp.eql 22 (Value.slice (some ad) n cap) (Value.slice none 0 0)).run Tryz.prog w = .ok (.bool false) w := by kernel_rfl
    go_enter Tryz.func41, Tryz.ntmps41
    go_wp2_with (at_builtin; (refine wpList_append_own _ rfl (.tmp 5) (.tmp 6) 22 rfl w.heap.size 54 i0 _ 2 32 Tryz.underlying22 hi hz0 hz1 hz2 rfl (by decide) _ 0 _ rfl (own_empty2 w 54) ad n cap _ rfl HN.out.2.2 HN.out.1 HN.out.2.1 (by unfold maxLen; omega) (by omega) (by simp) ?_))
    intro v' w' hown hg _
    have HO := Lib.hid (And.intro hown hg)
    clear hown hg
    go_wp2_with fail
    go_ret
    exact ⟨_, rfl, HO.out.1, ((Below.refl _ w).alloc (Nat.le_refl _) _).grown HO.out.2 (by simp) (fun k e => by simp [Value.ownBlock] at e; omega)⟩

/-- What the closure compares. -/
def cfP (x y : Pr) : Int := compareBytes x.1 y.1
set_option maxHeartbeats 1000000 in
theorem sorted1_any (x y : Pr) (W : World) : Calls Tryz.prog 43 #[.agg #[.string ⟨x.1.toArray⟩, .string ⟨x.2.toArray⟩], .agg #[.string ⟨y.1.toArray⟩, .string ⟨y.2.toArray⟩]] W fun e w' => e = .returned (.int .i64 (cfP x y)) ∧ ∃ q os', w' = grow (W.drewN q) os' := by
  have hcon := fun W' => Tryz.strings_Compare ⟨x.1.toArray⟩ ⟨y.1.toArray⟩ W'
  have e : compareBytes (⟨x.1.toArray⟩ : ByteArray).data.toList (⟨y.1.toArray⟩ : ByteArray).data.toList = cfP x y := rfl
  simp only [e] at hcon
  obtain ⟨r, hr⟩ : ∃ r, cfP x y = r := ⟨_, rfl⟩
  rw [hr] at hcon ⊢
  obtain ⟨a, ha⟩ : ∃ s : ByteArray, (⟨x.1.toArray⟩ : ByteArray) = s := ⟨_, rfl⟩
  obtain ⟨b, hb⟩ : ∃ s : ByteArray, (⟨y.1.toArray⟩ : ByteArray) = s := ⟨_, rfl⟩
  obtain ⟨c, hc⟩ : ∃ s : ByteArray, (⟨x.2.toArray⟩ : ByteArray) = s := ⟨_, rfl⟩
  obtain ⟨d, hd⟩ : ∃ s : ByteArray, (⟨y.2.toArray⟩ : ByteArray) = s := ⟨_, rfl⟩
  simp only [ha, hb] at hcon
  rw [ha, hb, hc, hd]
  have HC := Lib.hid hcon
  clear hcon e hr ha hb hc hd
  go_enter Tryz.func43, Tryz.ntmps43
  go_wp2_with fail
  refine (HC.out _).mono ?_
  rintro e w' ⟨rfl, rfl⟩
  go_wp2_with fail
  go_ret
  exact ⟨rfl, 0, _, by rw [alloc_eq_grow, alloc_eq_grow, grow_grow]; rfl⟩
theorem cmpLays (blk off size : Nat) (w : World) : CmpLays Tryz.prog 43 #[] encP 2 cfP blk off size w :=
  fun _ _ _ _ x y => sorted1_any x y _
theorem swoP : SWO (ltOf cfP) where
  irrefl x := by unfold ltOf cfP; rw [cb_self]; rfl
  trans x y z h k := by
    unfold ltOf cfP at *
    simp only [decide_eq_true_eq] at *
    rcases cb_three x.1 y.1 with h1 | h1 | h1 <;> rcases cb_three y.1 z.1 with k1 | k1 | k1 <;> try omega
    rw [cb_trans h1 k1]
    decide
  ntrans x y z h k := by
    unfold ltOf cfP at *
    simp only [decide_eq_false_iff_not, Int.not_lt] at *
    have h1 := cb_anti x.1 y.1
    have k1 := cb_anti y.1 z.1
    have := cb_le (a := z.1) (b := y.1) (c := x.1) (by omega) (by omega)
    have h2 := cb_anti x.1 z.1
    omega
theorem bitsLen (n : Nat) (W : World) (h : n ≤ 12) : Calls Tryz.prog 58 #[.int .u64 n] W fun e w' => (∃ l : Int, e = .returned (.int .i64 l)) ∧ w' = W :=
  (Tryz.bits_Len n W (by omega) (by omega)).mono fun _ _ ⟨he, hw⟩ => ⟨⟨_, he⟩, hw⟩
theorem grown_sortK {w : World} {g m : Nat} {os : Array Obj} (d : Array Pr) : w.grownBy (sortWorldK encP 2 w g 0 m d os) (some g) := by
  unfold sortWorldK
  refine ⟨rfl, rfl, rfl, by simp [putRowK, putRow, mapBlock, Sort.ahead], fun k hk hne => ?_⟩
  rw [heap_grow_old _ _ (by simpa [putRowK, putRow, mapBlock, Sort.ahead] using hk)]
  have : g ≠ k := fun e => hne (by rw [e])
  simp [putRowK, putRow, mapBlock, Sort.ahead, Array.getElem?_modify, this]
theorem typed_sortK {w : World} {g m : Nat} {os : Array Obj} (d : Array Pr) {cs : Array Value} {t : TypeId} {f : Nat × Nat} (h : w.heap[g]? = some (.cells cs t f)) : ∃ cs', (sortWorldK encP 2 w g 0 m d os).heap[g]? = some (.cells cs' t f) := by
  have hk := (Array.getElem?_eq_some_iff.1 h).1
  unfold sortWorldK
  rw [heap_grow_old _ _ (by simpa [putRowK, putRow, mapBlock, Sort.ahead] using hk)]
  simp [putRowK, putRow, mapBlock, Sort.ahead, Array.getElem?_modify, h]
  exact ⟨_, rfl⟩
/-- The keys' block is one of pairs. -/
def PairsAt (w : World) (v : Value) : Prop := ∀ b off l c, v = .slice (some ⟨b, off, none⟩) l c → ∃ cs f, w.heap[b]? = some (.cells cs 54 f)
theorem holds_own {w : World} {base g n cap : Nat} {ks : List Pr} (hn : ks.length = n) (h : w.ownsRow base 54 2 (.slice (some ⟨g, 0, none⟩) n cap) n (ks.flatMap encP)) : HoldsK encP 2 w g 0 ks.toArray ∧ base ≤ g ∧ g < w.heap.size := by
  obtain ⟨hb, hlt⟩ := h.lt g rfl
  refine ⟨?_, hb, hlt⟩
  intro j hj
  rw [size_flatK] at hj
  have hj' : j < ks.length * 2 := by simpa using hj
  have hp : ks[j / 2]? = some (ks[j / 2]'(by omega)) := List.getElem?_eq_getElem (by omega)
  obtain ⟨f1, f2⟩ := flat_at ks (j / 2) _ hp
  have hc := h.cellAt j (by omega)
  rw [get_flatK _ _ _ j hj, Nat.zero_add]
  have hd : (ks.toArray)[j / 2]! = ks[j / 2]'(by omega) := by simp [show j / 2 < ks.length by omega]
  rw [hd]
  refine ⟨?_, ?_⟩
  · rw [hc]
    rcases (by omega : j = j / 2 * 2 ∧ j % 2 = 0 ∨ j = j / 2 * 2 + 1 ∧ j % 2 = 1) with ⟨e, m⟩ | ⟨e, m⟩
    · rw [m]
      rw [← e] at f1
      rw [f1]
      rfl
    · rw [m]
      rw [← e] at f2
      rw [f2]
      rfl
  · rcases h.2 with ⟨hv, _⟩ | ⟨g', cap', cur, hv, _, hh, _⟩
    · cases hv
    · cases hv
      exact frozen_of hh
theorem keys_holds {w : World} {g n cap : Nat} {ts : List Pr} (hn : ts.length = n) (hc : n ≤ cap) (hg : g < w.heap.size) (h : HoldsK encP 2 w g 0 ts.toArray) : Keys w (.slice (some ⟨g, 0, none⟩) n cap) ts := by
  subst hn
  refine ⟨_, cap, rfl, hc, fun _ => ⟨g, 0, rfl, hg, fun j p hp => ?_⟩⟩
  obtain ⟨hj, he⟩ := List.getElem?_eq_some_iff.1 hp
  have hd : (ts.toArray)[j]! = p := by simp [hj, he]
  have c0 := (h.cell (i := j) (c := 0) (by simpa using hj) (by decide)).1
  have c1 := (h.cell (i := j) (c := 1) (by simpa using hj) (by decide)).1
  rw [hd] at c0 c1
  exact ⟨by simpa [encP] using c0, by simpa [encP] using c1⟩

theorem sortFunc_any {w : World} {base g n cap : Nat} {ks : List Pr} (hn : ks.length = n) (h12 : n ≤ 12) (hc : n ≤ cap) (hbase : base ≤ w.heap.size) (h : w.ownsRow base 54 2 (.slice (some ⟨g, 0, none⟩) n cap) n (ks.flatMap encP)) :
    Calls Tryz.prog 42 #[.slice (some ⟨g, 0, none⟩) n cap, .func (.func 43) #[] #[]] w fun e w' => e = .returned (.tuple #[]) ∧ (∃ ts : List Pr, ts.Perm ks ∧ ts.Pairwise leP ∧ Keys w' (.slice (some ⟨g, 0, none⟩) n cap) ts ∧ PairsAt w' (.slice (some ⟨g, 0, none⟩) n cap)) ∧ RowKit.Below base w w' := by
  obtain ⟨hH, hb, hlt⟩ := holds_own hn h
  obtain ⟨cs0, f0, hcs0⟩ : ∃ cs f, w.heap[g]? = some (.cells cs 54 f) := by
    rcases h.2 with ⟨hv, _⟩ | ⟨g', cap', cur, hv, _, hh, _⟩
    · cases hv
    · cases hv
      exact ⟨_, _, hh⟩
  have hcon := AnyQ.slices_SortFunc_small_sorted Tryz.laysSort 2 Tryz.isAgg54 Tryz.sizeOf54 encP (fun _ => rfl) enc_one cfP 43 #[] swoP g 0 cap ks.toArray w
    (enters_of Tryz.func43 (by kernel_rfl) rfl) (cmpLays g 0 _ w) hH hlt (by simpa [hn] using h12) bitsLen
  have hsz : ks.toArray.size = n := by simpa using hn
  rw [hsz] at hcon
  refine hcon.mono ?_
  rintro e w' ⟨rfl, d', m, os, ⟨hs, _, hp⟩, hsrt, rfl⟩
  have hds : d'.size = n := by rw [hs, hsz]
  rw [← hds] at hp
  have hp' : d'.toList.Perm ks := by
    have e1 : (d'.extract 0 d'.size).toList = d'.toList := by simp
    have e2 : (ks.toArray.extract 0 d'.size).toList = ks := by rw [hds, ← hsz]; simp
    rw [e1, e2] at hp
    exact hp
  have hHd : HoldsK encP 2 (sortWorldK encP 2 w g 0 m d' os) g 0 d' := holdsK_sortWorldK_c encP 2 w g 0 ks.toArray d' m os hH hlt (by rw [hds, hsz])
  have hg := grown_sortK (w := w) (g := g) (m := m) (os := os) d'
  refine ⟨rfl, ⟨d'.toList, hp', ?_, keys_holds (by simpa using hds) hc (Nat.lt_of_lt_of_le hlt hg.size) (by simpa using hHd), fun b off l c e => by cases e; obtain ⟨cs', h'⟩ := typed_sortK (m := m) (os := os) d' hcs0; exact ⟨cs', _, h'⟩⟩, (Below.refl base w).grown hg hbase (fun k e => by cases e; exact hb)⟩
  rw [List.pairwise_iff_getElem]
  intro i j hi hj hij
  have hi' : i < d'.size := by simpa using hi
  have hj' : j < d'.size := by simpa using hj
  have := hsrt i j (Nat.zero_le _) hij (by omega)
  rw [getElem!_pos d' i hi', getElem!_pos d' j hj'] at this
  unfold ltOf cfP at this
  simp only [decide_eq_false_iff_not, Int.not_lt] at this
  have h2 := cb_anti (d'[i]).1 (d'[j]).1
  show compareBytes (d'.toList[i]).1 (d'.toList[j]).1 ≤ 0
  simp only [Array.getElem_toList]
  omega

set_option maxHeartbeats 1000000 in
theorem sorted_typed {w : World} {v : Value} {ks : List Pr} (hk : Keys w v ks) (h12 : ks.length ≤ 12) (hd : Apart ks) :
    Calls Tryz.prog 24 #[v] w fun e w' => (∃ v', e = .returned v' ∧ Keys w' v' (sortP ks) ∧ PairsAt w' v') ∧ RowKit.Below w.heap.size w w' := by
  have HC := Lib.hid (clone_any hk (by omega))
  obtain ⟨A, cap, rfl, hc, _⟩ := hk
  have HD := Lib.hid hd
  clear hd
  go_enter Tryz.func24, Tryz.ntmps24
  go_wp2_with fail
  refine HC.out.mono ?_
  rintro e w1 ⟨v1, rfl, hown, hb1⟩
  have HO := Lib.hid hown
  have HB1 := Lib.hid hb1
  clear hb1
  rcases hown.2 with ⟨rfl, h0⟩ | ⟨g, cap', cur, rfl, hbg, hh, hcc, _⟩
  · have HS := Lib.hid (AnyF.slices_SortFunc_none Tryz.laysSort none 0 (.func (.func 43) #[] #[]) w1)
    clear hown
    have hks : ks = [] := List.length_eq_zero_iff.1 h0
    subst hks
    go_wp2_with fail
    refine HS.out.mono ?_
    rintro e w2 ⟨rfl, rfl⟩
    go_wp2_with fail
    go_ret
    exact ⟨⟨_, rfl, keys_nil _, fun b off l c e => by cases e⟩, HB1.out⟩
  · have HS := Lib.hid (sortFunc_any (ks := ks) rfl h12 hcc HB1.out.size HO.out)
    clear hown hh
    go_wp2_with fail
    refine HS.out.mono ?_
    rintro e w2 ⟨rfl, ⟨ts, hp, hs, hK, hT⟩, hb2⟩
    have HK := Lib.hid (And.intro hp (And.intro hs (And.intro hK (And.intro hT hb2))))
    clear hp hs hK hT hb2
    go_wp2_with fail
    go_ret
    obtain ⟨hp, hs, hK, hT, hb2⟩ := HK.out
    have e := uniq (sortP ks) ts ((sortP_perm ks).trans hp.symm) (sortP_sorted ks) hs (by
      unfold Apart
      exact (List.Perm.pairwise_iff (fun {a b} h => fun e => h e.symm) (sortP_perm ks)).2 HD.out)
    rw [e]
    exact ⟨⟨_, rfl, hK, hT⟩, HB1.out.trans hb2⟩
theorem sorted_any {w : World} {v : Value} {ks : List Pr} (hk : Keys w v ks) (h12 : ks.length ≤ 12) (hd : Apart ks) :
    Calls Tryz.prog 24 #[v] w fun e w' => (∃ v', e = .returned v' ∧ Keys w' v' (sortP ks)) ∧ RowKit.Below w.heap.size w w' :=
  (sorted_typed hk h12 hd).mono fun _ _ h => ⟨h.1.imp fun _ h => ⟨h.1, h.2.1⟩, h.2⟩
end Go.Proofs.YtjablaidbccnbaaGreatDoor
