/-
  WALKS over package markup, fourth part: what the library reads of memory (Mem); codePoint.
-/
import Derived.Test.YtjablaidbccnbaaGreatDoorMkC
import Derived.Test.YtjablaidbccnbaaGreatDoorShf
import Derived.WalkSmall
import Derived.Lib.ParseIntBTie
import Derived.Lib.AppendIntMem
namespace Go.Proofs.YtjablaidbccnbaaGreatDoor
open Go.RowKit Go.Shelf Go.Lib

/-- What the package and the library read of memory. -/
structure Mem (w : World) : Prop where
  named : Named w
  syn : ∃ tp p, w.var? Tryz.prog "strconv.ErrSyntax" = some #[.iface tp p]
  rng : ∃ tp p, w.var? Tryz.prog "strconv.ErrRange" = some #[.iface tp p]
  tab : Lib.TabIs Tryz.prog w "internal/strconv.uint64pow10" .u64 Lib.pow10Tab
  low : 4 < w.heap.size ∧ 5 < w.heap.size ∧ 6 < w.heap.size
theorem Tryz.gSyn : Tryz.prog.globalNamed "strconv.ErrSyntax" = some 4 := by kernel_rfl
theorem Tryz.gRng : Tryz.prog.globalNamed "strconv.ErrRange" = some 5 := by kernel_rfl
theorem Tryz.gPow : Tryz.prog.globalNamed "internal/strconv.uint64pow10" = some 6 := by kernel_rfl
theorem Mem.below {w w' : World} {B : Nat} (h : Mem w) (hb : Below B w w') (hB : w.heap.size ≤ B) : Mem w' where
  named := h.named.below hb (Nat.lt_of_lt_of_le h.named.lt hB)
  syn := by obtain ⟨tp, p, e⟩ := h.syn; exact ⟨tp, p, var?_below hb Tryz.gSyn (Nat.lt_of_lt_of_le h.low.1 hB) e⟩
  rng := by obtain ⟨tp, p, e⟩ := h.rng; exact ⟨tp, p, var?_below hb Tryz.gRng (Nat.lt_of_lt_of_le h.low.2.1 hB) e⟩
  tab := var?_below hb Tryz.gPow (Nat.lt_of_lt_of_le h.low.2.2 hB) h.tab
  low := ⟨Nat.lt_of_lt_of_le h.low.1 hb.size, Nat.lt_of_lt_of_le h.low.2.1 hb.size, Nat.lt_of_lt_of_le h.low.2.2 hb.size⟩

def cpV : Option Nat → Value
  | some n => .tuple #[.int .i32 (n : Int), .bool true]
  | none => .tuple #[.int .i32 0, .bool false]

set_option maxRecDepth 100000 in
set_option maxHeartbeats 1000000 in
theorem codePoint_any (s : ByteArray) (hs : s.size ≤ 1000000) (w : World) (hM : Mem w) :
    Calls Tryz.prog 104 #[.string s] w fun e w' => e = .returned (cpV (cpL s.data.toList)) ∧ Below w.heap.size w w' := by
  cases hp : parseIntB 32 s.data.toList with
  | «syntax» =>
    obtain ⟨tp, p, hv⟩ := hM.syn
    have hc : cpL s.data.toList = none := by
      cases hc : cpL s.data.toList with
      | none => rfl
      | some n => rw [(cp_some hc).1] at hp; cases hp
    rw [hc]
    have HP := Lib.hid (Tryz.strconv_ParseInt_10_at32_syntax_var s (by omega) hp tp p w hv)
    clear hv hc hp
    go_enter Tryz.func104, Tryz.ntmps104
    go_wp2_with fail
    refine HP.out.mono ?_
    rintro e w1 ⟨N, rfl, hN, hN2, hb⟩
    clear hN2
    go_wp2_with fail
    go_ret2
    exact ⟨rfl, hb⟩
  | range =>
    obtain ⟨tp, p, hv⟩ := hM.rng
    have hc : cpL s.data.toList = none := by
      cases hc : cpL s.data.toList with
      | none => rfl
      | some n => rw [(cp_some hc).1] at hp; cases hp
    rw [hc]
    have HP := Lib.hid (Tryz.strconv_ParseInt_10_at32_range_var s (by omega) hp tp p w hv)
    clear hv hc hp
    obtain ⟨q, hq⟩ : ∃ q, Lib.intSat 32 s.data.toList = q := ⟨_, rfl⟩
    rw [hq] at HP
    clear hq
    go_enter Tryz.func104, Tryz.ntmps104
    go_wp2_with fail
    refine HP.out.mono ?_
    rintro e w1 ⟨N, rfl, hN, hN2, hb⟩
    clear hN2
    go_wp2_with fail
    go_ret2
    exact ⟨rfl, hb⟩
  | ok v =>
    have hbd := parseIntB_bounds hp
    have hw : IntKind.i32.wrap v = v := by
      rw [IntKind.wrap_i32]
      simp at hbd
      omega
    have hA : ∀ W : World, Calls Tryz.prog 116 #[.string s, .int .i64 10, .int .i64 32] W fun e w' => e = .returned (.tuple #[.int .i64 v, .nilIface]) ∧ Below W.heap.size W w' := by
      intro W
      refine (Tryz.strconv_ParseInt_10_at32_ok s (by omega) v hp W).mono ?_
      rintro e w' ⟨rfl, rfl | ⟨t, rfl⟩⟩
      · exact ⟨rfl, Below.refl _ _⟩
      · exact ⟨rfl, Lib.bytesWorld_below _ _ _⟩
    have hF : ∀ W : World, Mem W → Calls Tryz.prog 117 #[.int .i64 v, .int .i64 10] W fun e w' => e = .returned (.string ⟨(itoa v).toArray⟩) ∧ Below W.heap.size W w' := by
      intro W hW
      refine (Tryz.strconv_FormatInt_10 v (by simp at hbd; omega) (by simp at hbd; omega) W hW.tab).mono ?_
      rintro e w' ⟨rfl, k, os, rfl⟩
      exact ⟨rfl, Lib.below_grow _ W (Nat.le_refl _) k os⟩
    have hV := Tryz.utf8_ValidRune v
    have hcp : cpL s.data.toList = if itoa v = s.data.toList ∧ Lib.validRune v = true then some v.toNat else none := by
      split
      · rename_i h; exact cp_ok h.1 h.2
      · rename_i h
        cases hc : cpL s.data.toList with
        | none => rfl
        | some n =>
          obtain ⟨h1, h2, h3, _⟩ := cp_some hc
          rw [h1] at hp
          cases hp
          exact absurd ⟨h2, h3⟩ h
    obtain ⟨b2, hb2⟩ : ∃ b, Lib.validRune v = b := ⟨_, rfl⟩
    rw [hb2] at hV hcp
    obtain ⟨T, hT⟩ : ∃ T : ByteArray, (⟨(itoa v).toArray⟩ : ByteArray) = T := ⟨_, rfl⟩
    have hTd : itoa v = T.data.toList := by rw [← hT]
    rw [hTd] at hcp
    simp only [hT] at hF
    have hvn : 0 ≤ v → ((v.toNat : Nat) : Int) = v := by omega
    have HA := Lib.hid hA
    have HF := Lib.hid hF
    have HV := Lib.hid hV
    have HM := Lib.hid hM
    have hr : b2 = true → 0 ≤ v := fun h => (rune_nat (hb2.trans h)).1
    have HCP := Lib.hid (And.intro hcp (And.intro hvn hr))
    clear hA hF hV hM hcp hb2 hT hTd hvn hr hp hbd
    by_cases hts : T = s
    · subst hts
      have hne : (T.toList == T.toList) = true := by simp
      have hcv := HCP.out.1
      cases b2 with
      | false =>
        simp at hcv
        have HC := Lib.hid hcv
        clear hcv HCP
        go_enter Tryz.func104, Tryz.ntmps104
        go_wp2_with fail
        refine (HA.out _).mono ?_
        rintro e w1 ⟨rfl, hb1⟩
        have HB1 := Lib.hid hb1
        clear hb1
        go_wp2_with fail
        refine (HF.out _ (HM.out.below HB1.out (Nat.le_refl _))).mono ?_
        rintro e w2 ⟨rfl, hb2⟩
        have HB2 := Lib.hid (HB1.out.trans (hb2.mono HB1.out.size))
        clear hb2
        go_wp2_with fail
        refine (HV.out _).mono ?_
        rintro e w3 ⟨rfl, rfl⟩
        go_wp2_with fail
        go_ret2
        exact ⟨by rw [HC.out]; rfl, HB2.out⟩
      | true =>
        simp at hcv
        have HC := Lib.hid hcv
        have HR := Lib.hid (HCP.out.2.1 (HCP.out.2.2 rfl))
        clear hcv HCP
        go_enter Tryz.func104, Tryz.ntmps104
        go_wp2_with fail
        refine (HA.out _).mono ?_
        rintro e w1 ⟨rfl, hb1⟩
        have HB1 := Lib.hid hb1
        clear hb1
        go_wp2_with fail
        refine (HF.out _ (HM.out.below HB1.out (Nat.le_refl _))).mono ?_
        rintro e w2 ⟨rfl, hb2⟩
        have HB2 := Lib.hid (HB1.out.trans (hb2.mono HB1.out.size))
        clear hb2
        go_wp2_with fail
        refine (HV.out _).mono ?_
        rintro e w3 ⟨rfl, rfl⟩
        go_wp2_with fail
        go_ret2
        refine ⟨?_, HB2.out⟩
        rw [HC.out]
        simp only [cpV]
        rw [HR.out]
        rfl
    · have hne : (T.toList == s.toList) = false := by
        rw [Lib.toList_data, Lib.toList_data]
        simp
        intro h
        apply hts
        rw [← Lib.mk_data T, h, Lib.mk_data]
      have hcv := HCP.out.1
      rw [if_neg (fun h => hts (by rw [← Lib.mk_data T, h.1, Lib.mk_data]))] at hcv
      have HN := Lib.hid hts
      have HC := Lib.hid hcv
      clear hts hcv HCP
      go_enter Tryz.func104, Tryz.ntmps104
      go_wp2_with fail
      refine (HA.out _).mono ?_
      rintro e w1 ⟨rfl, hb1⟩
      have HB1 := Lib.hid hb1
      clear hb1
      go_wp2_with fail
      refine (HF.out _ (HM.out.below HB1.out (Nat.le_refl _))).mono ?_
      rintro e w2 ⟨rfl, hb2⟩
      have HB2 := Lib.hid (HB1.out.trans (hb2.mono HB1.out.size))
      clear hb2
      go_wp2_with fail
      go_ret2
      exact ⟨by rw [HC.out]; rfl, HB2.out⟩
end Go.Proofs.YtjablaidbccnbaaGreatDoor
