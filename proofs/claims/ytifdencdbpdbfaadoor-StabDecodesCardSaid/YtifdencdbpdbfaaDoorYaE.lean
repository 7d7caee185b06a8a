/-
  WALKS over package stab: slices.Clone at spans.
-/
import Derived.Test.YtifdencdbpdbfaaDoorYaR
import Derived.Test.YtifdencdbpdbfaaDoorShf
namespace Go.Proofs.YtifdencdbpdbfaaDoor
open Go.RowKit Go.Shelf Go.Lib Go.Sort
set_option linter.unusedVariables false
set_option linter.unusedSimpArgs false

theorem own_empty2 (w : World) (t : TypeId) : (w.alloc (.cells #[] t)).ownsRow w.heap.size t 2 (.slice (some ⟨w.heap.size, 0, none⟩) 0 0) 0 [] :=
  ⟨rfl, .inr ⟨w.heap.size, 0, #[], rfl, Nat.le_refl _, block_new w _, Nat.le_refl _, by unfold maxLen; omega, rfl, rfl⟩⟩

set_option maxRecDepth 100000 in
set_option maxHeartbeats 1000000 in
theorem cloneSp_any {w : World} {v : Value} {ks : List Sp} (hk : Rows 2 ESp w v ks) (hl : ks.length ≤ 1000000) :
    Calls Tryd.prog 31 #[v] w fun e w' => ∃ v', e = .returned v' ∧ w'.ownsRow w.heap.size 24 2 v' ks.length (ks.flatMap spV) ∧ Below w.heap.size w w' := by
  obtain ⟨A, cap, rfl, hc, hr⟩ := hk
  cases A with
  | none =>
    have h0 : ks = [] := by
      by_cases h : 0 < ks.length
      · obtain ⟨b, off, hA, _⟩ := hr h
        cases hA
      · exact List.length_eq_zero_iff.1 (by omega)
    subst h0
    refine (AnyE.slices_Clone_nil Tryd.laysCloneSp 0 cap w).mono ?_
    rintro e w' ⟨rfl, rfl⟩
    exact ⟨_, rfl, World.ownsRow_nil _ _ _ _, Below.refl _ _⟩
  | some ad =>
    obtain ⟨i0, hi, hz0, hz1, hz2⟩ := info_parts' Tryd.infoSp
    have hnews : ∀ (j : Nat) (u : Value), (ks.flatMap spV)[j]? = some u → (w.alloc (.cells #[] 24)).cell? (ad.add j) = some u := by
      intro j u hu
      have hjl := (List.getElem?_eq_some_iff.1 hu).1
      rw [flatM_len spV_len] at hjl
      obtain ⟨b, off, hA, hb, hj⟩ := hr (by omega)
      cases hA
      rw [add_plain]
      refine (((Below.refl w.heap.size w).alloc (Nat.le_refl _) (.cells #[] 24)).cell (p := ⟨b, off + j, none⟩) hb).trans ?_
      obtain ⟨cs, _, rfl, h3⟩ := hj (j / 2) _ (List.getElem?_eq_getElem (by omega))
      have h1 := flatM_get (enc := spV) (sz := 2) spV_len ks (j / 2) _ (j % 2) (List.getElem?_eq_getElem (by omega)) (Nat.mod_lt _ (by omega))
      rw [show j / 2 * 2 + j % 2 = j by omega, hu] at h1
      have := h3 (j % 2) u h1.symm
      rw [show off + j / 2 * 2 + j % 2 = off + j by omega] at this
      exact this
    have hlen := flatM_len spV_len ks
    have h1 : ∀ u ∈ ks.flatMap spV, u.oneCell' = true := by
      intro u hu
      obtain ⟨p, _, hp⟩ := List.mem_flatMap.1 hu
      exact spV_one p u hp
    obtain ⟨n, hn⟩ : ∃ n, ks.length = n := ⟨_, rfl⟩
    rw [hn] at hlen hl hc ⊢
    obtain ⟨F, hF⟩ : ∃ F, ks.flatMap spV = F := ⟨_, rfl⟩
    rw [hF] at hlen hnews h1 ⊢
    have HN := Lib.hid (And.intro hnews (And.intro h1 hlen))
    clear hr hn hF hnews h1 hlen hc
    have hnn : (binOp BinOp.eql 22 (Value.slice (some ad) n cap) (Value.slice none 0 0)).run Tryd.prog w = .ok (.bool false) w := by kernel_rfl
    go_enter Tryd.func31, Tryd.ntmps31
    go_wp2_with (at_builtin; (refine wpList_append_own _ rfl (.tmp 5) (.tmp 6) 22 rfl w.heap.size 24 i0 _ 2 16 Tryd.underlying22 hi hz0 hz1 hz2 rfl (by decide) _ 0 _ rfl (own_empty2 w 24) ad n cap _ rfl HN.out.2.2 HN.out.1 HN.out.2.1 (by unfold maxLen; omega) (by omega) (by simp) ?_))
    intro v' w' hown hg _
    have HO := Lib.hid (And.intro hown hg)
    clear hown hg
    go_wp2_with fail
    go_ret
    exact ⟨_, rfl, HO.out.1, ((Below.refl _ w).alloc (Nat.le_refl _) _).grown HO.out.2 (by simp) (fun k e => by simp [Value.ownBlock] at e; omega)⟩
end Go.Proofs.YtifdencdbpdbfaaDoor
