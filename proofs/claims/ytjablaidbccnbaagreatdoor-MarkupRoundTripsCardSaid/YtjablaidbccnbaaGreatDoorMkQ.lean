/-
  WALKS over package markup: the document's examples (awake).
-/
import Derived.Test.YtjablaidbccnbaaGreatDoorMkZ
namespace Go.Proofs.YtjablaidbccnbaaGreatDoor
open Go.RowKit Go.Shelf Go.Lib

theorem awake_value : pValue [60, 115, 32, 110, 61, 34, 49, 34, 62] 5 = .ok [49] 8 := by
  have h1 : unesc [49] = .ok [49] := by rw [unesc_byte 49 [] (by decide), unesc_nil]; rfl
  have h2 : valE [49] = 0 := by decide
  have h3 : rawT [60, 115, 32, 110, 61, 34, 49, 34, 62] 6 = [49] := by decide
  have h4 : rawN [60, 115, 32, 110, 61, 34, 49, 34, 62] 6 = 1 := by decide
  unfold pValue
  simp only [Nat.reduceAdd, h3, h4, h1, h2]
  rfl
theorem awake_tag : pTag [60, 115, 32, 110, 61, 34, 49, 34, 62] = .ok ⟨false, [115], [([110], [49])]⟩ 9 := by
  have h1 : pName [60, 115, 32, 110, 61, 34, 49, 34, 62] 1 = .ok [115] 2 := by rfl
  have h2 : pKeys 10 [60, 115, 32, 110, 61, 34, 49, 34, 62] 2 [] = .ok [([110], [49])] 8 := by
    have a1 : spN [60, 115, 32, 110, 61, 34, 49, 34, 62] 2 = 1 := by decide
    have a2 : pKeyName [60, 115, 32, 110, 61, 34, 49, 34, 62] 3 [] = .ok [110] 4 := by rfl
    have a3 : pExpect [60, 115, 32, 110, 61, 34, 49, 34, 62] 4 61 = .ok () 5 := by rfl
    have a4 : spN [60, 115, 32, 110, 61, 34, 49, 34, 62] 8 = 0 := by decide
    unfold pKeys
    simp only [a1, a2, a3, awake_value, Nat.reduceAdd]
    unfold pKeys
    simp only [a4]
    rfl
  have h3 : pEnd [60, 115, 32, 110, 61, 34, 49, 34, 62] ⟨false, [115], [([110], [49])]⟩ 8 = .ok ⟨false, [115], [([110], [49])]⟩ 9 := by rfl
  have h4 : pExpect [60, 115, 32, 110, 61, 34, 49, 34, 62] 0 60 = .ok () 1 := by rfl
  unfold pTag
  simp only [h4, h1, List.length_cons, List.length_nil, Nat.reduceAdd, h2, h3]
  rfl
theorem awake_check : checkT ⟨false, [115], [([98], [60]), ([97], [])]⟩ = 0 := by decide
theorem awake_text : textT ⟨false, [115], [([98], [60]), ([97], [])]⟩ = [60, 115, 32, 97, 61, 34, 34, 32, 98, 61, 34, 38, 108, 116, 59, 34, 62] := by decide

set_option maxRecDepth 100000 in
set_option maxHeartbeats 2000000 in
theorem awake_any {w : World} (m : Mem w) : Calls Tryz.prog 9 #[] w fun e w' => e = .returned (.bool true) ∧ Below w.heap.size w w' := by
  have hp := parseTag_any m ⟨#[60, 115, 32, 110, 61, 34, 49, 34, 62]⟩ (by decide)
  have hpt : pTag (⟨#[60, 115, 32, 110, 61, 34, 49, 34, 62]⟩ : ByteArray).data.toList = .ok ⟨false, [115], [([110], [49])]⟩ 9 := awake_tag
  rw [hpt] at hp
  have HP := Lib.hid hp
  have HM := Lib.hid m
  have hv := fun W : World => validName_any ⟨#[97, 45, 49]⟩ (by decide) W
  have hvn : nameB (⟨#[97, 45, 49]⟩ : ByteArray).data.toList = true := by decide
  rw [hvn] at hv
  have HV := Lib.hid hv
  clear hp hpt hv hvn m
  go_enter Tryz.func9, Tryz.ntmps9
  go_wp2_with fail
  refine HP.out.mono ?_
  rintro e w1 ⟨hb1, v, rfl, ks, rfl, hk⟩
  have hk' : Keys w1 ks [([110], [49])] := hk
  obtain ⟨A, cap, rfl, hc, hj⟩ := id hk'
  obtain ⟨b, off, rfl, hbl, hj⟩ := hj (by decide)
  obtain ⟨c0, c1⟩ := hj 0 _ rfl
  have HB1 := Lib.hid hb1
  have HC := Lib.hid (And.intro hbl (And.intro c0 c1))
  obtain ⟨X, hX⟩ : ∃ X, (w1.alloc (.cells #[.bool false, .string ⟨#[115]⟩, .slice (some ⟨b, off, none⟩) 1 cap] 24)).alloc (.cells #[.string ⟨#[98]⟩, .string ⟨#[60]⟩, .string ⟨#[97]⟩, .string ⟨#[]⟩] 54) = X := ⟨_, rfl⟩
  have hbX : Below w1.heap.size w1 X := by
    rw [← hX]
    exact ((Below.refl _ w1).alloc (Nat.le_refl _) _).alloc (by simp) _
  have hT : X.heap[w1.heap.size]? = some (.cells #[.bool false, .string ⟨#[115]⟩, .slice (some ⟨b, off, none⟩) 1 cap] 24 (0, 0)) := by
    rw [← hX]
    exact block_alloc _ (block_new w1 _)
  have hS : X.heap[w1.heap.size + 1]? = some (.cells #[.string ⟨#[98]⟩, .string ⟨#[60]⟩, .string ⟨#[97]⟩, .string ⟨#[]⟩] 54 (0, 0)) := by
    have := block_new (w1.alloc (.cells #[.bool false, .string ⟨#[115]⟩, .slice (some ⟨b, off, none⟩) 1 cap] 24)) (.cells #[.string ⟨#[98]⟩, .string ⟨#[60]⟩, .string ⟨#[97]⟩, .string ⟨#[]⟩] 54)
    rw [World.size_alloc, hX] at this
    exact this
  have hKX : Keys X (.slice (some ⟨w1.heap.size + 1, 0, none⟩) 2 2) [([98], [60]), ([97], [])] := by
    refine ⟨_, 2, rfl, Nat.le_refl _, fun _ => ⟨_, 0, rfl, (Array.getElem?_eq_some_iff.1 hS).1, ?_⟩⟩
    intro j p hp
    match j, hp with
    | 0, hp => cases hp; exact ⟨cell_of hS rfl, cell_of hS rfl⟩
    | 1, hp => cases hp; exact ⟨cell_of hS rfl, cell_of hS rfl⟩
  have hmX := (HM.out.below hb1 (Nat.le_refl _)).below hbX (Nat.le_refl _)
  have hf := formatTag_any ⟨false, [115], [([98], [60]), ([97], [])]⟩ hmX.named hKX (by decide) (by decide) (by
    intro p hp
    simp only [List.mem_cons, List.not_mem_nil, or_false] at hp
    rcases hp with rfl | rfl <;> decide)
  have hfs : formatS ⟨false, [115], [([98], [60]), ([97], [])]⟩ = [60, 115, 32, 97, 61, 34, 34, 32, 98, 61, 34, 38, 108, 116, 59, 34, 62] := by
    unfold formatS
    rw [if_pos awake_check, awake_text]
  rw [hfs, awake_check] at hf
  have HF := Lib.hid hf
  have HX := Lib.hid hX
  have HT := Lib.hid hT
  have HBX := Lib.hid hbX
  clear hk hk' hc hj c0 c1 hb1 hbl hX hT hS hKX hmX hf hfs hbX
  go_wp2_with fail
  rw [HX.out]
  refine HF.out.mono ?_
  rintro e w2 ⟨rfl, hb2⟩
  have hT2 := block_below HT.out hb2 (Array.getElem?_eq_some_iff.1 HT.out).1
  have d1 := cell_of (i := 1) hT2 rfl
  have d2 := cell_of (i := 2) hT2 rfl
  have e0 : w2.cell? ⟨b, off, none⟩ = some (.string ⟨#[110]⟩) := (hb2.cell (Nat.lt_of_lt_of_le HC.out.1 HBX.out.size)).trans ((HBX.out.cell HC.out.1).trans HC.out.2.1)
  have e1 : w2.cell? ⟨b, off + 1, none⟩ = some (.string ⟨#[49]⟩) := by
    have := HC.out.2.2
    rw [show off + 0 * 2 + 1 = off + 1 by omega] at this
    exact (hb2.cell (p := ⟨b, off + 1, none⟩) (Nat.lt_of_lt_of_le HC.out.1 HBX.out.size)).trans ((HBX.out.cell (p := ⟨b, off + 1, none⟩) HC.out.1).trans this)
  have HB2 := Lib.hid (HB1.out.trans ((HBX.out.trans (hb2.mono HBX.out.size)).mono HB1.out.size))
  clear hT2 hb2
  go_wp2_with fail
  refine (HV.out _).mono ?_
  rintro e w3 ⟨rfl, rfl⟩
  go_wp2_with fail
  go_ret
  exact ⟨rfl, HB2.out⟩
end Go.Proofs.YtjablaidbccnbaaGreatDoor
