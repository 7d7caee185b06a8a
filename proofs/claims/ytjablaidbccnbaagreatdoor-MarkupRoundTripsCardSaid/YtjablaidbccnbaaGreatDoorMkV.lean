/-
  WALKS over package markup, twelfth part: keyName, keys.
-/
import Derived.Test.YtjablaidbccnbaaGreatDoorMkU
namespace Go.Proofs.YtjablaidbccnbaaGreatDoor
open Go.RowKit Go.Shelf Go.Lib

theorem name_any {w : World} {b : Nat} {s : ByteArray} {i : Nat} (h : At w b s i) :
    Calls Tryz.prog 32 #[.pointer (some ⟨b, 0, none⟩)] w fun e w' => Does b s w (pName s.data.toList i) e w' := by
  obtain ⟨n, hn⟩ : ∃ n, nameN (s.data.toList.drop i) = n := ⟨_, rfl⟩
  have hle := nameN_le (s.data.toList.drop i)
  rw [List.length_drop, ← Lib.size_eq, hn] at hle
  have hi := h.le
  unfold pName
  rw [hn]
  by_cases h0 : n = 0
  · rw [if_pos h0]
    exact (name_none h.small h.scan h.le (hn.trans h0)).mono fun e w' ⟨he, hb⟩ => ⟨hb, he⟩
  · rw [if_neg h0]
    by_cases h32 : 32 < n
    · rw [if_pos h32]
      exact (name_long h.small h.scan h.le n hn h32).mono fun e w' ⟨he, hb⟩ => ⟨hb, he⟩
    · rw [if_neg h32]
      exact (name_ok h.small h.scan h.le n hn h0 (by omega)).mono fun e w' ⟨he, hs, hb⟩ => ⟨hb, he, h.to hs hb (by omega)⟩

set_option maxHeartbeats 1000000 in
theorem keyName_any {w : World} {b : Nat} {s : ByteArray} {i : Nat} {v : Value} {ks : List Pr} (h : At w b s i) (hk : ∀ W, But b w W → Keys W v ks) (hl : ks.length ≤ 8) :
    Calls Tryz.prog 49 #[.pointer (some ⟨b, 0, none⟩), v] w fun e w' => Does b s w (pKeyName s.data.toList i ks) e w' := by
  have hN := name_any h
  obtain ⟨c0, c1, f1⟩ := h.scan.cells
  unfold pKeyName
  obtain ⟨A, cap, hv, hc, _⟩ := hk w (but_refl _ _)
  cases hp : pName s.data.toList i with
  | err a e =>
    rw [hp] at hN
    have HN := Lib.hid hN
    clear hN hp h hk
    subst hv
    go_enter Tryz.func49, Tryz.ntmps49
    go_wp2_with fail
    refine HN.out.mono ?_
    rintro en w1 ⟨hb1, rfl⟩
    unfold failE
    go_wp2_with fail
    exact ⟨rfl, hb1, rfl⟩
  | ok n j =>
    rw [hp] at hN
    have HN := Lib.hid hN
    have hH : ∀ W, But b w W → Calls Tryz.prog 54 #[v, .string ⟨n.toArray⟩] W fun e w' => e = .returned (.bool (hasN ks n)) ∧ RowKit.Below W.heap.size W w' := fun W hW => hasName_any (hk W hW) (by omega) n
    obtain ⟨q, hq⟩ : ∃ q, hasN ks n = q := ⟨_, rfl⟩
    simp only [hq] at hH ⊢
    obtain ⟨S, hS⟩ : ∃ S : ByteArray, (⟨n.toArray⟩ : ByteArray) = S := ⟨_, rfl⟩
    obtain ⟨m, hm⟩ : ∃ m, ks.length = m := ⟨_, rfl⟩
    rw [hm] at hv hc hl ⊢
    subst hv
    simp only [hS] at hH
    have HH := Lib.hid hH
    cases q with
    | true =>
      simp only [if_true]
      clear hN hp h hk hH hq
      go_enter Tryz.func49, Tryz.ntmps49
      go_wp2_with fail
      refine HN.out.mono ?_
      rintro en w1 ⟨hb1, rfl, ha1⟩
      have HB1 := Lib.hid (And.intro hb1 ha1)
      clear hb1 ha1
      go_wp2_with fail
      refine (HH.out _ HB1.out.1).mono ?_
      rintro en w2 ⟨rfl, hb2⟩
      have HB2 := Lib.hid (but_trans HB1.out.1 (but_below hb2))
      clear hb2
      go_wp2_with fail
      refine (fail_int b _ _ _).mono ?_
      rintro en w3 ⟨rfl, rfl⟩
      unfold failI
      go_wp2_with fail
      exact ⟨rfl, HB2.out, failI_eq rfl rfl⟩
    | false =>
      simp only [Bool.false_eq_true, if_false]
      by_cases h8 : m = 8
      · rw [if_pos h8]
        subst h8
        clear hN hp h hk hH hq
        go_enter Tryz.func49, Tryz.ntmps49
        go_wp2_with fail
        refine HN.out.mono ?_
        rintro en w1 ⟨hb1, rfl, ha1⟩
        have HB1 := Lib.hid (And.intro hb1 ha1)
        clear hb1 ha1
        go_wp2_with fail
        refine (HH.out _ HB1.out.1).mono ?_
        rintro en w2 ⟨rfl, hb2⟩
        have HB2 := Lib.hid (but_trans HB1.out.1 (but_below hb2))
        clear hb2
        go_wp2_with fail
        refine (fail_int b _ _ _).mono ?_
        rintro en w3 ⟨rfl, rfl⟩
        unfold failI
        go_wp2_with fail
        exact ⟨rfl, HB2.out, failI_eq rfl rfl⟩
      · rw [if_neg h8]
        have h8' : ((m : Int) == 8) = false := by simp; omega
        clear hN hp h hk hH hq h8
        go_enter Tryz.func49, Tryz.ntmps49
        go_wp2_with fail
        refine HN.out.mono ?_
        rintro en w1 ⟨hb1, rfl, ha1⟩
        have HB1 := Lib.hid (And.intro hb1 ha1)
        clear hb1 ha1
        go_wp2_with fail
        refine (HH.out _ HB1.out.1).mono ?_
        rintro en w2 ⟨rfl, hb2⟩
        have HB2 := Lib.hid (And.intro (but_trans HB1.out.1 (but_below hb2)) (HB1.out.2.below hb2))
        clear hb2
        go_wp2_with fail
        go_ret
        exact ⟨HB2.out.1, by rw [hS]; rfl, HB2.out.2⟩

theorem but_row {b : Nat} {a c d : World} {row : Option Nat} (h : But b a c) (k : c.grownBy d row) (hr : ∀ r, row = some r → a.heap.size ≤ r) : But b a d :=
  ⟨k.os.trans h.os, k.tape.trans h.tape, k.output.trans h.output, Nat.le_trans h.size k.size, fun j hj hne => (k.block j (Nat.lt_of_lt_of_le hj h.size) (fun e => by have := hr j e.symm; omega)).trans (h.block j hj hne)⟩
theorem own_but {w c d : World} {b : Nat} {v : Value} {ks : List Pr} (h : c.ownsRow w.heap.size 54 2 v ks.length (ks.flatMap encP)) (hb : b < w.heap.size) (k : But b c d) : d.ownsRow w.heap.size 54 2 v ks.length (ks.flatMap encP) :=
  own_below h (fun j e => by
    obtain ⟨h1, h2⟩ := own_low h j e
    exact k.block j h2 (fun e => by cases e; omega))
theorem sp_le (L : Bs) (i : Nat) : spN L i ≤ L.length - i := by
  have := spN_trim L i
  rw [List.length_drop] at this
  omega
/-- What keys hands back. -/
def DoesK (b : Nat) (s : ByteArray) (w : World) (r : PR (List Pr)) (e : Ending) (w' : World) : Prop :=
  But b w w' ∧ match r with
  | .ok ks j => (∃ v', e = .returned v' ∧ Keys w' v' (sortP ks)) ∧ At w' b s j
  | .err a er => e = failE a er
/-- Between two rounds. -/
def KeyI (b : Nat) (s : ByteArray) (w : World) (R : PR (List Pr)) (f : Nat) (v : Value) (wr : World) : Prop :=
  ∃ (i : Nat) (ks : List Pr), At wr b s i ∧ But b w wr ∧ wr.ownsRow w.heap.size 54 2 v ks.length (ks.flatMap encP) ∧ ks.length ≤ 8 ∧ Apart ks ∧ s.size < i + f ∧ pKeys f s.data.toList i ks = R

set_option maxRecDepth 100000 in
set_option maxHeartbeats 2000000 in
theorem keys_any {w : World} {b : Nat} {s : ByteArray} {i : Nat} (h : At w b s i) :
    Calls Tryz.prog 33 #[.pointer (some ⟨b, 0, none⟩)] w fun e w' => DoesK b s w (pKeys (s.data.toList.length + 1) s.data.toList i []) e w' := by
  obtain ⟨R, hR⟩ : ∃ R, pKeys (s.data.toList.length + 1) s.data.toList i [] = R := ⟨_, rfl⟩
  have hstart : KeyI b s w R (s.data.toList.length + 1) (.slice none 0 0) w :=
    ⟨i, [], h, but_refl _ _, World.ownsRow_nil _ _ _ _, by simp, .nil, by rw [← Lib.size_eq]; omega, hR⟩
  have hbw := h.scan.lt
  have HST := Lib.hid hstart
  have HA0 := Lib.hid h
  rw [hR]
  clear hstart hR h
  go_enter Tryz.func33, Tryz.ntmps33
  go_wp2_with fail
  go_loopg [3] (s.data.toList.length + 1) (fun f v wx => KeyI b s w R f v wx)
  case atStart => exact HST.out
  case round =>
    obtain ⟨i, ks, hA, hB, hO, hl, hap, hf, hp⟩ := hrel
    obtain ⟨g, rfl⟩ : ∃ g, gk = g + 1 := ⟨gk - 1, by have := hA.le; omega⟩
    have hsp := spaces_any hA.small hA.scan hA.le
    have hle := sp_le s.data.toList i
    rw [← Lib.size_eq] at hle
    have hile := hA.le
    unfold pKeys at hp
    obtain ⟨n, hn⟩ : ∃ n, spN s.data.toList i = n := ⟨_, rfl⟩
    rw [hn] at hp hsp hle
    have HSP := Lib.hid hsp
    have HA := Lib.hid hA
    have HB := Lib.hid hB
    have HO := Lib.hid hO
    have HP := Lib.hid (And.intro hl (And.intro hap hf))
    clear hsp hn hA hB hO hl hap hf
    by_cases h0 : n = 0
    · subst h0
      rw [if_pos rfl] at hp
      have HR := Lib.hid hp
      clear hp
      go_wp2_with fail
      refine HSP.out.mono ?_
      rintro e w1 ⟨rfl, hs1, hb1⟩
      have HB1 := Lib.hid (And.intro (but_trans HB.out hb1) (HA.out.to hs1 hb1 (by omega)))
      have HS := Lib.hid (sorted_any (keys_own (own_but HO.out hbw hb1)) (by have := HP.out.1; omega) HP.out.2.1)
      clear hs1 hb1
      go_wp2_with fail
      refine HS.out.mono ?_
      rintro e w2 ⟨⟨v', rfl, hK⟩, hb2⟩
      have HK := Lib.hid (And.intro hK hb2)
      clear hK hb2
      go_wp2_with fail
      go_ret
      refine ⟨but_trans HB1.out.1 (but_below HK.out.2), ?_⟩
      rw [← HR.out]
      exact ⟨⟨_, rfl, HK.out.1⟩, HB1.out.2.below HK.out.2⟩
    · rw [if_neg h0] at hp
      have hdn : decide (0 < n) = true := decide_eq_true (by omega)
      have hin : i + n ≤ s.size := by omega
      have HSP : Hid (Calls Tryz.prog 48 #[.pointer (some ⟨b, 0, none⟩)] wr fun e w' => e = .returned (.bool true) ∧ At w' b s (i + n) ∧ But b wr w') := Lib.hid (HSP.out.mono fun e w' h => ⟨by rw [← hdn]; exact h.1, HA.out.to h.2.1 h.2.2 hin, h.2.2⟩)
      have HN : Hid (∀ W, At W b s (i + n) → But b wr W → Calls Tryz.prog 49 #[.pointer (some ⟨b, 0, none⟩), u3] W fun e w' => Does b s W (pKeyName s.data.toList (i + n) ks) e w') :=
        Lib.hid (fun W hW hb => keyName_any hW (fun W' hb' => keys_own (own_but HO.out hbw (but_trans hb hb'))) HP.out.1)
      have hn1 : 1 ≤ n := by omega
      clear hle h0 hdn
      cases hk : pKeyName s.data.toList (i + n) ks with
      | err a e =>
        rw [hk] at hp HN
        have HR := Lib.hid hp
        clear hp hk
        go_wp2_with fail
        refine HSP.out.mono ?_
        rintro en w1 ⟨rfl, ha1, hb1⟩
        have HB1 := Lib.hid (And.intro ha1 hb1)
        clear ha1 hb1
        go_wp2_with fail
        refine (HN.out _ HB1.out.1 HB1.out.2).mono ?_
        rintro en w2 ⟨hb2, rfl⟩
        have HB2 := Lib.hid (but_trans (but_trans HB.out HB1.out.2) hb2)
        clear hb2
        unfold failE
        go_wp2_with fail
        exact ⟨rfl, HB2.out, by rw [← HR.out]; rfl⟩
      | ok nm j =>
        have hap2 : hasN ks nm = false ∧ ks.length ≠ 8 ∧ i + n < j := by
          unfold pKeyName at hk
          cases hq : pName s.data.toList (i + n) with
          | err a e => rw [hq] at hk; cases hk
          | ok n2 j2 =>
            rw [hq] at hk
            simp only at hk
            split at hk
            · cases hk
            · split at hk
              · cases hk
              · rename_i h1 h2
                cases hk
                refine ⟨by simpa using h1, h2, ?_⟩
                unfold pName at hq
                split at hq
                · cases hq
                · split at hq
                  · cases hq
                  · cases hq
                    omega
        rw [hk] at hp HN
        simp only at hp
        have HAP := Lib.hid hap2
        clear hk hap2
        by_cases hq : s.data.toList[j]? = some 61
        · have he : pExpect s.data.toList j 61 = .ok () (j + 1) := by unfold pExpect; rw [if_pos hq]
          rw [he] at hp
          simp only at hp
          have HE := Lib.hid (fun (W : World) (hW : At W b s j) => expect_ok hW.small hW.scan hW.le 61 hq)
          have hjl : j + 1 ≤ s.size := by
            have := (List.getElem?_eq_some_iff.1 hq).1
            rw [← Lib.size_eq] at this
            omega
          have HV := Lib.hid (fun (W : World) (hW : At W b s (j + 1)) => value_any hW)
          clear hq he
          cases hv : pValue s.data.toList (j + 1) with
          | err a e =>
            rw [hv] at hp HV
            have HR := Lib.hid hp
            clear hp hv
            go_wp2_with fail
            refine HSP.out.mono ?_
            rintro en w1 ⟨rfl, ha1, hb1⟩
            have HB1 := Lib.hid (And.intro ha1 hb1)
            clear ha1 hb1
            go_wp2_with fail
            refine (HN.out _ HB1.out.1 HB1.out.2).mono ?_
            rintro en w2 ⟨hb2, rfl, ha2⟩
            have HB2 := Lib.hid (And.intro ha2 (but_trans HB1.out.2 hb2))
            clear ha2 hb2
            go_wp2_with fail
            refine (HE.out _ HB2.out.1).mono ?_
            rintro en w3 ⟨rfl, hs3, hb3⟩
            have HB3 := Lib.hid (And.intro (HB2.out.1.to hs3 hb3 hjl) (but_trans HB2.out.2 hb3))
            clear hs3 hb3
            go_wp2_with fail
            refine (HV.out _ HB3.out.1).mono ?_
            rintro en w4 ⟨hb4, rfl⟩
            have HB4 := Lib.hid (but_trans (but_trans HB.out HB3.out.2) hb4)
            clear hb4
            unfold failE
            go_wp2_with fail
            exact ⟨rfl, HB4.out, by rw [← HR.out]; rfl⟩
          | ok vv m =>
            rw [hv] at hp HV
            have hjm : j + 1 < m := by
              unfold pValue at hv
              split at hv
              · split at hv
                · split at hv
                  · cases hv
                  · split at hv
                    · cases hv
                      omega
                    · cases hv
                · cases hv
              · cases hv
            have HR := Lib.hid hp
            have HJ := Lib.hid hjm
            clear hp hv hjm
            obtain ⟨i0, hi, hz0, hz1, hz2⟩ := info_parts' Tryz.infoPair
            go_wp2_with fail
            refine HSP.out.mono ?_
            rintro en w1 ⟨rfl, ha1, hb1⟩
            have HB1 := Lib.hid (And.intro ha1 hb1)
            clear ha1 hb1
            go_wp2_with fail
            refine (HN.out _ HB1.out.1 HB1.out.2).mono ?_
            rintro en w2 ⟨hb2, rfl, ha2⟩
            have HB2 := Lib.hid (And.intro ha2 (but_trans HB1.out.2 hb2))
            clear ha2 hb2
            go_wp2_with fail
            refine (HE.out _ HB2.out.1).mono ?_
            rintro en w3 ⟨rfl, hs3, hb3⟩
            have HB3 := Lib.hid (And.intro (HB2.out.1.to hs3 hb3 hjl) (but_trans HB2.out.2 hb3))
            clear hs3 hb3
            go_wp2_with fail
            refine (HV.out _ HB3.out.1).mono ?_
            rintro en w4 ⟨hb4, rfl, ha4⟩
            have HB4 := Lib.hid (And.intro ha4 (but_trans HB3.out.2 hb4))
            have HO4 := Lib.hid (own_but HO.out hbw (but_trans HB3.out.2 hb4))
            have HL := Lib.hid HP.out.1
            obtain ⟨q, hqq⟩ : ∃ q, ks.length = q := ⟨_, rfl⟩
            obtain ⟨F, hF⟩ : ∃ F, ks.flatMap encP = F := ⟨_, rfl⟩
            rw [hqq, hF] at HO4
            rw [hqq] at HL
            have hq8 : q ≤ 8 := HL.out
            have hw4 : w.heap.size ≤ w4.heap.size := Nat.le_trans HB.out.size HB4.out.2.size
            have HQ := Lib.hid (And.intro hqq hF)
            clear ha4 hb4 hqq hF
            go_wp2_with (at_builtin; refine wpList_append_own _ rfl (.tmp 12) (.tmp 17) 22 rfl w.heap.size 54 i0 _ 2 32 Tryz.underlying22 hi hz0 hz1 hz2 rfl (by decide) _ q _ rfl (HO4.out.alloc _) _ 1 1 (encP (nm, vv)) rfl rfl (news_at _ (encP (nm, vv)) 54) (enc_one _) (by unfold maxLen; omega) (by omega) (by simp; omega) ?_)
            intro v' w' hown hg hnil
            have hrow : ∀ r, u3.ownBlock = some r → w.heap.size ≤ r := fun r e => (own_low HO4.out r e).1
            have hbw4 : b < w4.heap.size := HB4.out.1.scan.lt
            have hbut : But b w w' := but_row (but_trans (but_trans HB.out HB4.out.2) (but_below ((Below.refl _ w4).alloc (Nat.le_refl _) (.cells #[.string ⟨nm.toArray⟩, .string ⟨vv.toArray⟩] 54)))) hg hrow
            have hsc : Scan w' b s m := by
              have h1 := HB4.out.1.scan.below ((Below.refl _ w4).alloc (Nat.le_refl _) (.cells #[.string ⟨nm.toArray⟩, .string ⟨vv.toArray⟩] 54))
              exact h1.keep (hg.block b h1.lt (fun e => by have := hrow b e.symm; omega))
            have HE2 := Lib.hid (And.intro hown (And.intro hbut (HA0.out.to hsc hbut HB4.out.1.le)))
            clear hown hg hrow hbut hsc hnil
            go_wp2_with fail
            go_roundg g
            case measure => omega
            case rel =>
              refine ⟨m, ks ++ [(nm, vv)], HE2.out.2.2, HE2.out.2.1, ?_, ?_, ?_, ?_, HR.out⟩
              · have := HE2.out.1
                rw [List.length_append, HQ.out.1, List.flatMap_append, HQ.out.2]
                simpa using this
              · rw [List.length_append, HQ.out.1]
                have := HAP.out.2.1
                rw [HQ.out.1] at this
                simp
                omega
              · exact (apart_iff ks (nm, vv)).2 ⟨HP.out.2.1, HAP.out.1⟩
              · have := HP.out.2.2
                have := HAP.out.2.2
                have := HJ.out
                omega
        · have he : pExpect s.data.toList j 61 = .err j 3 := by unfold pExpect; rw [if_neg hq]
          rw [he] at hp
          simp only at hp
          have HR := Lib.hid hp
          have HE := Lib.hid (fun (W : World) (hW : At W b s j) => expect_no hW.small hW.scan hW.le 61 hq)
          clear hp hq he
          go_wp2_with fail
          refine HSP.out.mono ?_
          rintro en w1 ⟨rfl, ha1, hb1⟩
          have HB1 := Lib.hid (And.intro ha1 hb1)
          clear ha1 hb1
          go_wp2_with fail
          refine (HN.out _ HB1.out.1 HB1.out.2).mono ?_
          rintro en w2 ⟨hb2, rfl, ha2⟩
          have HB2 := Lib.hid (And.intro ha2 (but_trans HB1.out.2 hb2))
          clear ha2 hb2
          go_wp2_with fail
          refine (HE.out _ HB2.out.1).mono ?_
          rintro en w3 ⟨rfl, hb3⟩
          have HB3 := Lib.hid (but_trans (but_trans HB.out HB2.out.2) hb3)
          clear hb3
          unfold failE
          go_wp2_with fail
          exact ⟨rfl, HB3.out, by rw [← HR.out]; rfl⟩
end Go.Proofs.YtjablaidbccnbaaGreatDoor
