/-
  WALKS over package interval: slices.SortFunc, slices.Clone, slices.Compact at spans; normal.
-/
import Derived.Test.YtpkkebojiengpaaIbD
import Derived.BigQuiet
import Derived.Deep.QuietTactic
namespace Go.Proofs.Ytpkkebojiengpaa
open Go.RowKit Go.Shelf Go.Lib Go.Sort
set_option linter.unusedVariables false
set_option linter.unusedSimpArgs false

theorem grown_sort2 {w : World} {g m : Nat} {os : Array Obj} (d : Array Sp) : w.grownBy (sortWorldK spV 2 w g 0 m d os) (some g) := by
  unfold sortWorldK
  refine ⟨rfl, rfl, rfl, by simp [putRowK, putRow, mapBlock, Sort.ahead], fun k hk hne => ?_⟩
  rw [heap_grow_old _ _ (by simpa [putRowK, putRow, mapBlock, Sort.ahead] using hk)]
  have : g ≠ k := fun e => hne (by rw [e])
  simp [putRowK, putRow, mapBlock, Sort.ahead, Array.getElem?_modify, this]
theorem flatK_at (d : Array Sp) (p : Nat) (hp : p < d.size * 2) : some (flatK spV 2 d)[p]! = (d.toList.flatMap spV)[p]? := by
  rw [get_flatK _ _ _ p hp]
  have hq : d.toList[p / 2]? = some (d[p / 2]'(by omega)) := by rw [Array.getElem?_toList, Array.getElem?_eq_getElem (by omega)]
  have h1 := flatM_get (enc := spV) (sz := 2) spV_len d.toList (p / 2) _ (p % 2) hq (Nat.mod_lt _ (by omega))
  rw [show p / 2 * 2 + p % 2 = p by omega] at h1
  rw [h1, getElem!_pos d (p / 2) (by omega)]
  rcases (by omega : p % 2 = 0 ∨ p % 2 = 1) with h | h <;> rw [h] <;> rfl
theorem own_sorted {w : World} {base g n cap : Nat} {T : TypeId} {ks : List Sp} (h : w.ownsRow base T 2 (.slice (some ⟨g, 0, none⟩) n cap) n (ks.flatMap spV)) (d' : Array Sp) (hd : d'.size = n) (m : Nat) (os : Array Obj) :
    (sortWorldK spV 2 w g 0 m d' os).ownsRow base T 2 (.slice (some ⟨g, 0, none⟩) n cap) n (d'.toList.flatMap spV) := by
  rcases h.2 with ⟨hv, _⟩ | ⟨g', cap', cur, hv, hb, hh, hc, hm, hs, ht⟩
  · cases hv
  · cases hv
    have hgl := (Array.getElem?_eq_some_iff.1 hh).1
    refine ⟨by rw [flatM_len spV_len]; simp [hd], .inr ⟨g, cap, putCells id 0 (flatK spV 2 d') cur, rfl, hb, ?_, hc, hm, by simp [putCells, hs], ?_⟩⟩
    · unfold sortWorldK
      rw [heap_grow_old _ _ (by simpa [putRowK, putRow, mapBlock, Sort.ahead] using hgl)]
      simp [putRowK, putRow, mapBlock, Sort.ahead, Array.getElem?_modify, hh, onCells]
    · refine List.ext_getElem? fun p => ?_
      by_cases hp : p < n * 2
      · rw [List.getElem?_take, if_pos hp, ← flatK_at d' p (by omega)]
        have hps : p < cur.size := by rw [hs]; omega
        simp [putCells, hps, size_flatK, hd, hp]
      · rw [List.getElem?_eq_none (by rw [List.length_take]; omega), List.getElem?_eq_none (by rw [flatM_len spV_len]; simp [hd]; omega)]
theorem own_holds {w : World} {base g n cap : Nat} {T : TypeId} {ks : List Sp} (hn : ks.length = n) (h : w.ownsRow base T 2 (.slice (some ⟨g, 0, none⟩) n cap) n (ks.flatMap spV)) : HoldsK spV 2 w g 0 ks.toArray ∧ base ≤ g ∧ g < w.heap.size := by
  obtain ⟨hb, hlt⟩ := h.lt g rfl
  refine ⟨?_, hb, hlt⟩
  intro j hj
  rw [size_flatK] at hj
  have hj' : j < ks.length * 2 := by simpa using hj
  refine ⟨?_, ?_⟩
  · rw [Nat.zero_add, h.cellAt j (by omega)]
    have := flatK_at ks.toArray j (by simpa using hj')
    simp only [id_eq]
    rw [this]
  · rcases h.2 with ⟨hv, _⟩ | ⟨g', cap', cur, hv, _, hh, _⟩
    · cases hv
    · cases hv
      exact frozen_of hh
theorem perm_all {ks : List Sp} {n : Nat} {d' : Array Sp} (hn : ks.length = n) (hs : d'.size = n) (hp : (d'.extract 0 n).toList.Perm (ks.toArray.extract 0 n).toList) : d'.toList.Perm ks := by
  have e1 : (d'.extract 0 n).toList = d'.toList := by rw [← hs]; simp
  have e2 : (ks.toArray.extract 0 n).toList = ks := by rw [← hn]; simp
  rw [e1, e2] at hp
  exact hp
theorem sortSp_any {w : World} {base g n cap : Nat} {ks : List Sp} (hn : ks.length = n) (hN : n ≤ 1000000) (h : w.ownsRow base 31 2 (.slice (some ⟨g, 0, none⟩) n cap) n (ks.flatMap spV)) :
    Calls Try.prog 44 #[.slice (some ⟨g, 0, none⟩) n cap, .func (.func 45) #[] #[]] w fun e w' => e = .returned (.tuple #[]) ∧
      (∃ ts : List Sp, ts.Perm ks ∧ LeS ts ∧ w'.ownsRow base 31 2 (.slice (some ⟨g, 0, none⟩) n cap) n (ts.flatMap spV)) ∧ w.grownBy w' (some g) := by
  obtain ⟨hH, hb, hlt⟩ := own_holds hn h
  have hcon := AnyQ.slices_SortFunc Try.laysSortSp 2 Try.isAgg31 Try.sizeOf31 spV spV_len spV_one cfS swoS 45 #[] g 0 cap ks.toArray w
    (enters_of Try.func45 (by kernel_rfl) rfl) (cmpLaysS g 0 _ w) hH hlt (by simp [hn]; omega)
  have hsz : ks.toArray.size = n := by simpa using hn
  rw [hsz] at hcon
  refine hcon.mono ?_
  rintro e w' ⟨rfl, d', m, os, ⟨hs, _, hp⟩, hsrt, rfl⟩
  have hds : d'.size = n := by rw [hs, hsz]
  refine ⟨rfl, ⟨d'.toList, perm_all hn hds hp, ?_, own_sorted h d' hds m os⟩, grown_sort2 d'⟩
  unfold LeS
  rw [List.pairwise_iff_getElem]
  intro i j hi hj hij
  have hi' : i < d'.size := by simpa using hi
  have hj' : j < d'.size := by simpa using hj
  have := hsrt i j (Nat.zero_le _) hij (by omega)
  rw [getElem!_pos d' i hi', getElem!_pos d' j hj', ltS] at this
  simp only [Array.getElem_toList]
  exact this
theorem own_empty2 (w : World) (t : TypeId) : (w.alloc (.cells #[] t)).ownsRow w.heap.size t 2 (.slice (some ⟨w.heap.size, 0, none⟩) 0 0) 0 [] :=
  ⟨rfl, .inr ⟨w.heap.size, 0, #[], rfl, Nat.le_refl _, block_new w _, Nat.le_refl _, by unfold maxLen; omega, rfl, rfl⟩⟩

set_option maxRecDepth 100000 in
set_option maxHeartbeats 1000000 in
theorem cloneSp_any {w : World} {v : Value} {ks : List Sp} (hk : Rows 2 ESp w v ks) (hl : ks.length ≤ 1000000) :
    Calls Try.prog 43 #[v] w fun e w' => ∃ v', e = .returned v' ∧ w'.ownsRow w.heap.size 31 2 v' ks.length (ks.flatMap spV) ∧ Below w.heap.size w w' := by
  obtain ⟨A, cap, rfl, hc, hr⟩ := hk
  cases A with
  | none =>
    have h0 : ks = [] := by
      by_cases h : 0 < ks.length
      · obtain ⟨b, off, hA, _⟩ := hr h
        cases hA
      · exact List.length_eq_zero_iff.1 (by omega)
    subst h0
    refine (AnyE.slices_Clone_nil Try.laysCloneSp 0 cap w).mono ?_
    rintro e w' ⟨rfl, rfl⟩
    exact ⟨_, rfl, World.ownsRow_nil _ _ _ _, Below.refl _ _⟩
  | some ad =>
    obtain ⟨i0, hi, hz0, hz1, hz2⟩ := info_parts' Try.infoSp
    have hnews : ∀ (j : Nat) (u : Value), (ks.flatMap spV)[j]? = some u → (w.alloc (.cells #[] 31)).cell? (ad.add j) = some u := by
      intro j u hu
      have hjl := (List.getElem?_eq_some_iff.1 hu).1
      rw [flatM_len spV_len] at hjl
      obtain ⟨b, off, hA, hb, hj⟩ := hr (by omega)
      cases hA
      rw [add_plain]
      refine (((Below.refl w.heap.size w).alloc (Nat.le_refl _) (.cells #[] 31)).cell (p := ⟨b, off + j, none⟩) hb).trans ?_
      obtain ⟨cs, _, rfl, h3⟩ := hj (j / 2) _ (List.getElem?_eq_getElem (by omega))
      have h1 := flatM_get (enc := spV) (sz := 2) spV_len ks (j / 2) _ (j % 2) (List.getElem?_eq_getElem (by omega)) (Nat.mod_lt _ (by omega))
      rw [show j / 2 * 2 + j % 2 = j by omega, hu] at h1
      have := h3 (j % 2) u h1.symm
      rw [show off + j / 2 * 2 + j % 2 = off + j by omega] at this
      exact this
    have hlen := flatM_len spV_len ks
    have h1 : ∀ u ∈ ks.flatMap spV, u.oneCell' = true := by
      intro u hu
      obtain ⟨p, _, hp⟩ := List.mem_flatMap.1 hu
      exact spV_one p u hp
    obtain ⟨n, hn⟩ : ∃ n, ks.length = n := ⟨_, rfl⟩
    rw [hn] at hlen hl hc ⊢
    obtain ⟨F, hF⟩ : ∃ F, ks.flatMap spV = F := ⟨_, rfl⟩
    rw [hF] at hlen hnews h1 ⊢
    have HN := Lib.hid (And.intro hnews (And.intro h1 hlen))
    clear hr hn hF hnews h1 hlen hc
    have hnn : (binOp BinOp.eql 22 (Value.slice (some ad) n cap) (Value.slice none 0 0)).run Try.prog w = .ok (.bool false) w := by kernel_rfl
    go_enter Try.func43, Try.ntmps43
    go_wp2_with (at_builtin; (refine wpList_append_own _ rfl (.tmp 5) (.tmp 6) 22 rfl w.heap.size 31 i0 _ 2 16 Try.underlying22 hi hz0 hz1 hz2 rfl (by decide) _ 0 _ rfl (own_empty2 w 31) ad n cap _ rfl HN.out.2.2 HN.out.1 HN.out.2.1 (by unfold maxLen; omega) (by omega) (by simp) ?_))
    intro v' w' hown hg _
    have HO := Lib.hid (And.intro hown hg)
    clear hown hg
    go_wp2_with fail
    go_ret
    exact ⟨_, rfl, HO.out.1, ((Below.refl _ w).alloc (Nat.le_refl _) _).grown HO.out.2 (by simp) (fun k e => by simp [Value.ownBlock] at e; omega)⟩
end Go.Proofs.Ytpkkebojiengpaa
