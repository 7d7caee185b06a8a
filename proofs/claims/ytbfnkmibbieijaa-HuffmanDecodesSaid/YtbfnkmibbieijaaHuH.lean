/-
  WALKS over package huffman: lastList.
-/
import Derived.Test.YtbfnkmibbieijaaHuG
import Derived.Test.YtbfnkmibbieijaaDaE
namespace Go.Proofs.Ytbfnkmibbieijaa
open Go.RowKit Go.Shelf Go.Lib Go.Sort
set_option linter.unusedVariables false
set_option linter.unusedSimpArgs false

theorem nat_idx (l : List Nat) : natV l = idxV l := rfl
theorem from_idx (m j : Nat) : fromV m j = idxV ((List.range j).map (m + ·)) := by simp [fromV, idxV]
/-- Between two rounds of lastList. -/
structure LAt (w : World) (N T B F : Nat) (vl : Value) (c : Nat → Nat) (S : List Nat) (i : Nat) (v : Value) (wr : World) : Prop where
  f : ∃ vi its ns, FAt wr B F vi vl its ∧ LfAt c its S ∧ its.length ≤ S.length + i * S.length ∧ RepL c its ns (lev c (leavesP S) i) ∧ wr.ownsRow N 3 1 v ns.length (idxV ns)
  s : FStep B F w wr
  t : TBox wr T F
def LastV (w : World) (N T B F : Nat) (vl : Value) (c : Nat → Nat) (S : List Nat) (i : Nat) (e : Ending) (w' : World) : Prop := ∃ v, e = .returned v ∧ LAt w N T B F vl c S i v w'
/-- A part of the own row keeps where a new row is sorted. -/
theorem FStep.newer {B F N n : Nat} {T : TypeId} {w w' wa : World} {v : Value} {xs : List Value} (h : FStep B F w w') (hB : B ≤ w.heap.size) (hN : w.heap.size ≤ N) (ho : w'.ownsRow N T 1 v n xs) (hg : w'.grownBy wa v.ownBlock) : FStep B F w wa :=
  ⟨h.be.grown hg (Nat.le_trans hB h.be.size) (fun k e => by have := (own_low ho k e).1; omega), fun k o h1 h2 h3 => by
    have hk := h.keep k o h1 h2 h3
    rw [hg.block k (heap_lt hk) (fun e => by have := (own_low ho k e.symm).1; have := heap_lt h1; omega)]
    exact hk⟩
theorem FStep.below {B F : Nat} {w w' wa : World} (h : FStep B F w w') (hB : B ≤ w'.heap.size) (hb : Below w'.heap.size w' wa) : FStep B F w wa :=
  ⟨h.be.trans (hb.mono hB), fun k o h1 h2 h3 => by
    have hk := h.keep k o h1 h2 h3
    rw [hb.block k (heap_lt hk)]; exact hk⟩
theorem FAt.below {w W : World} {B F : Nat} {vi vl : Value} {its : List It} (h : FAt w B F vi vl its) (hb : Below w.heap.size w W) : FAt W B F vi vl its :=
  ⟨h.hB, by rw [hb.block F h.lt]; exact h.box, own_below h.own fun k hk => hb.block k (own_low h.own k hk).2⟩
theorem TBox.step {w W : World} {T F B : Nat} (h : TBox w T F) (hs : FStep B F w W) (hne : T ≠ F) : TBox W T F := hs.keep T _ h hne (fun ⟨cs, f, e⟩ => by
  injection e with _ ht
  exact absurd ht (by decide))
theorem TBox.ne {w : World} {T F B : Nat} {vi vl : Value} {its : List It} (h : TBox w T F) (hf : FAt w B F vi vl its) : T ≠ F := fun e => by
  subst e
  have h2 := hf.box
  unfold TBox at h
  rw [h] at h2
  injection h2 with h2
  injection h2 with _ ht
  exact absurd ht (by decide)
theorem catF_any {w2 : World} {v1 v2 : Value} {M1 M2 : Nat} {a b : List Nat} (h1 : w2.ownsRow M1 3 1 v1 a.length (idxV a)) (h2 : w2.ownsRow M2 3 1 v2 b.length (idxV b)) (hl : a.length + b.length ≤ 100000) :
    Calls Try.prog 82 #[.slice (some ⟨w2.heap.size, 0, none⟩) 2 2] (w2.alloc (.cells #[v1, v2] 22)) fun e w' => (∃ v', e = .returned v' ∧ w'.ownsRow w2.heap.size 3 1 v' (a ++ b).length (idxV (a ++ b))) ∧ Below w2.heap.size w2 w' := by
  have hbx := below_box w2 (.cells #[v1, v2] 22)
  have hrow : RowsN (w2.alloc (.cells #[v1, v2] 22)) (.slice (some ⟨w2.heap.size, 0, none⟩) 2 2) [a, b] := by
    refine ⟨[v1, v2], .inr ⟨_, 2, rfl, Nat.le_refl _, fun _ => by show w2.heap.size < (w2.alloc _).heap.size; simp, fun j u hu => ?_⟩, rfl, fun j u l hu hl => ?_⟩
    · exact news_at w2 [v1, v2] _ j u hu
    · match j, hu, hl with
      | 0, hu, hl => cases hu; cases hl; exact ((rn_own h1).1).below hbx
      | 1, hu, hl => cases hu; cases hl; exact ((rn_own h2).1).below hbx
      | j + 2, hu, _ => simp at hu
  have hfl : ([a, b] : List (List Nat)).flatten = a ++ b := by simp
  refine (concatI_any hrow (by simp) (by rw [hfl, List.length_append]; exact hl)).mono ?_
  rintro e w' ⟨⟨v', rfl, hown⟩, hb⟩
  rw [hfl] at hown
  exact ⟨⟨v', rfl, ownsRow_base hown (by simp)⟩, hbx.trans (hb.mono hbx.size)⟩

set_option maxRecDepth 100000 in
set_option maxHeartbeats 8000000 in
theorem lastList_any {w : World} {B F M : Nat} {vi vl : Value} {its : List It} {c : Nat → Nat} {S : List Nat} (h : FAt w B F vi vl its) (hlv : w.ownsRow M 3 1 vl S.length (rangeV S.length)) (hlf : LfAt c its S) (hl0 : its.length ≤ S.length) (hS : S.length ≤ 1024)
    (hc : ∀ s ∈ S, c s ≤ 4096) (lim : Nat) (hlim : lim ≤ 15) :
    Calls Try.prog 51 #[.pointer (some ⟨F, 0, none⟩), .int .i64 lim] w (LastV w w.heap.size w.heap.size B F vl c S lim) := by
  obtain ⟨Al, capl, rfl, -⟩ := own_formI hlv
  obtain ⟨vl, hvl⟩ : ∃ v, Value.slice Al S.length capl = v := ⟨_, rfl⟩
  rw [hvl] at h hlv ⊢
  obtain ⟨N, hN⟩ : ∃ N, w.heap.size = N := ⟨_, rfl⟩
  obtain ⟨X, hX⟩ : ∃ X, w.alloc (.cells #[.pointer (some ⟨F, 0, none⟩)] 87) = X := ⟨_, rfl⟩
  have hBN : B ≤ N := by have := h.hB; have := h.lt; omega
  have hst0 : LAt w N N B F vl c S 0 (.slice none 0 0) X := by
    refine ⟨⟨vi, its, [], by rw [← hX]; exact h.alloc _, hlf, by omega, RepL.nil _ _, World.ownsRow_nil _ _ _ 1⟩, by rw [← hX]; exact (FStep.refl B F w).alloc (by omega) _, ?_⟩
    unfold TBox
    rw [← hX, ← hN]; exact block_new _ _
  have hvF : vl.ownBlock ≠ some F := own_other hlv h.box (by decide)
  have HLV := Lib.hid (fun W (hs : FStep B F w W) => hs.own hlv hvF (by decide))
  have HST0 := Lib.hid hst0
  have HX := Lib.hid hX
  have HN := Lib.hid hN
  have HBN := Lib.hid hBN
  have HC := Lib.hid hc
  have HSL := Lib.hid hS
  rw [hN]
  clear hst0 hX hN hlv hvF h hlf hl0 hc hBN hS
  go_enter Try.func51, Try.ntmps51
  go_wp2_with fail
  rw [HX.out, HN.out]
  go_loopw [5, 7] (fun lv sv wr => ∃ i : Nat, i ≤ lim ∧ sv = .int .i64 i ∧ Hid (LAt w N N B F vl c S i lv wr)) (fun _ sv _ => lim - (Go.RowKit.intOf sv).toNat)
  case atStart => exact ⟨0, Nat.zero_le _, rfl, HST0⟩
  case round =>
    clear HST0 HX
    obtain ⟨i, hi, rfl, HS⟩ := hrel
    by_cases hlt : i < lim
    · have hlti : (i : Int) < (lim : Int) := by omega
      obtain ⟨vj, its2, ns, hf, hlf, hln, hrep, hown⟩ := HS.out.f
      have hts := HS.out.t
      have hwt : ∀ n ∈ ns, 0 ≤ wI its2 n ∧ wI its2 n ≤ 1000000000000 := fun n hn => by
        obtain ⟨t, ht, hr⟩ := hrep.mem n hn
        rw [hr.wt.1]
        have h1 := lev_wt HC.out i t ht
        have h2 : (2 : Nat) ^ i ≤ 2 ^ 15 := Nat.pow_le_pow_right (by omega) (by omega)
        have h3 : 4096 * 2 ^ i ≤ 4096 * 2 ^ 15 := Nat.mul_le_mul_left _ h2
        omega
      have hin : ∀ n ∈ ns, n < its2.length := fun n hn => by
        obtain ⟨t, ht, hr⟩ := hrep.mem n hn
        exact hr.wt.2
      have hnl : ns.length ≤ 2 * S.length := by rw [hrep.len]; exact lev_len c S i
      have hS := HSL.out
      have hil : i * S.length ≤ 15 * S.length := Nat.mul_le_mul_right _ (by omega)
      have hsz : wr.heap.size = wr.drew.heap.size := rfl
      have hPK := fpack_any hf.drew hown hin hwt (by omega)
      obtain ⟨c0, c1⟩ := And.intro (cell_of (W := wr.drew) (i := 0) hts rfl) (cell_of (W := wr.drew) (i := 1) hf.drew.box rfl)
      have HPK := Lib.hid hPK
      have HF := Lib.hid hf
      have HLF := Lib.hid hlf
      have HREP := Lib.hid hrep
      have HWT := Lib.hid hwt
      have HIN := Lib.hid hin
      have HNL := Lib.hid (And.intro hnl (And.intro hln hil))
      have HSI := Lib.hid (show wr.drew.cell? ⟨N, 0, none⟩ = some (.pointer (some ⟨F, 0, none⟩)) ∧ wr.drew.cell? ⟨F, 1, none⟩ = some vl from ⟨c0, c1⟩)
      subst hvl
      clear hf hlf hln hrep hown hts hwt hin hnl hS hil hsz hPK c0 c1
      go_wp2_with fail
      refine wp_region_held_drew (S := (fun w' => w'.cell? ⟨N, 0, none⟩ = some (.pointer (some ⟨F, 0, none⟩)) ∧ w'.cell? ⟨F, 1, none⟩ = some (.slice Al S.length capl))) (by kernel_rfl) ?_ (fun hHeld => ?_)
      · (try dsimp only); first | exact HS3.out | exact HS2b.out | exact HS2.out | exact HSI.out
      refine wpAnyH_take (i := 0) (oi := ?oi1) (v := ?v1) ?hi1 (by kernel_rfl) (by kernel_rfl) (by kernel_rfl) ?hq1 ?hy1 (by assumption) ?hr1
      case hi1 => (simp only [List.getElem?_toArray, List.getElem?_cons_zero]; rfl)
      case hq1 => exact fun _ _ _ h => h
      case hy1 => exact Or.inl ⟨by rfl, by intro whSw hSw'; (try dsimp only at hSw'); (first | (go_simp; done) | (go_simp; with_reducible rfl))⟩
      try simp only [Act.put, List.setIfInBounds_toArray, List.set_cons_zero, List.set_cons_succ]
      refine wpAnyH_take (i := 1) (oi := ?oi2) (v := ?v2) ?hi2 (by kernel_rfl) (by kernel_rfl) (by kernel_rfl) ?hq2 ?hy2 (by assumption) ?hr2
      case hi2 => (simp only [List.getElem?_toArray, List.getElem?_cons_succ, List.getElem?_cons_zero]; rfl)
      case hq2 => exact fun _ _ _ h => h
      case hy2 => exact Or.inl ⟨by rfl, by intro whSw hSw'; (try dsimp only at hSw'); (first | (go_simp; done) | (go_simp; with_reducible rfl))⟩
      try simp only [Act.put, List.setIfInBounds_toArray, List.set_cons_zero, List.set_cons_succ]
      refine wpAnyH_take (i := 2) (oi := ?oi3) (v := ?v3) ?hi3 (by kernel_rfl) (by kernel_rfl) (by kernel_rfl) ?hq3 ?hy3 (by assumption) ?hr3
      case hi3 => (simp only [List.getElem?_toArray, List.getElem?_cons_succ, List.getElem?_cons_zero]; rfl)
      case hq3 => exact fun _ _ _ h => h
      case hy3 => exact Or.inl ⟨by rfl, by intro whSw hSw'; (try dsimp only at hSw'); (first | (go_simp; done) | (go_simp; with_reducible rfl))⟩
      try simp only [Act.put, List.setIfInBounds_toArray, List.set_cons_zero, List.set_cons_succ]
      refine wpAnyH_take (i := 3) (oi := ?oi4) (v := ?v4) ?hi4 (by kernel_rfl) (by kernel_rfl) (by kernel_rfl) ?hq4 ?hy4 (by assumption) ?hr4
      case hi4 => (simp only [List.getElem?_toArray, List.getElem?_cons_succ, List.getElem?_cons_zero]; rfl)
      case hq4 => exact fun _ _ _ h => h
      case hy4 => exact Or.inl ⟨by rfl, by intro whSw hSw'; (try dsimp only at hSw'); (first | (go_simp; done) | (go_simp; with_reducible rfl))⟩
      try simp only [Act.put, List.setIfInBounds_toArray, List.set_cons_zero, List.set_cons_succ]
      refine wpAnyH_take (i := 4) (oi := ?oi5) (v := ?v5) ?hi5 (by kernel_rfl) (by kernel_rfl) (by kernel_rfl) ?hq5 ?hy5 (by assumption) ?hr5
      case hi5 => (simp only [List.getElem?_toArray, List.getElem?_cons_succ, List.getElem?_cons_zero]; rfl)
      case hq5 => exact fun _ _ _ h => h
      case hy5 => exact Or.inl ⟨by rfl, by intro whSw hSw'; (try dsimp only at hSw'); (first | (go_simp; done) | (go_simp; with_reducible rfl))⟩
      try simp only [Act.put, List.setIfInBounds_toArray, List.set_cons_zero, List.set_cons_succ]
      refine wpAnyH_take (i := 5) (oi := ?oi6) (v := ?v6) ?hi6 (by kernel_rfl) (by kernel_rfl) (by kernel_rfl) ?hq6 ?hy6 (by assumption) ?hr6
      case hi6 => (simp only [List.getElem?_toArray, List.getElem?_cons_succ, List.getElem?_cons_zero]; rfl)
      case hq6 => exact fun _ _ _ h => h
      case hy6 => exact Or.inl ⟨by rfl, by intro whSw hSw'; (try dsimp only at hSw'); (first | (go_simp; done) | (go_simp; with_reducible rfl))⟩
      try simp only [Act.put, List.setIfInBounds_toArray, List.set_cons_zero, List.set_cons_succ]
      refine wpAnyH_ready (rs := [6]) (by kernel_rfl) (by simp) ?_
      refine AllReadyH.cons (o := ?oo7) ?hi7 (fun K hK => ?hs7) ?hm7
      case hi7 => (simp only [List.getElem?_toArray, List.getElem?_cons_succ, List.getElem?_cons_zero]; rfl)
      · go_simp
        refine HPK.out.mono ?_
        rintro e w2 ⟨v2, rfl, hk2⟩
        obtain ⟨⟨vi2, hf2⟩, ho2, hs2⟩ := hk2
        obtain ⟨A2, cap2, rfl, -⟩ := own_formI ho2
        have hnc : ns.take (2 * (ns.length / 2)) = ns.take (2 * (ns.length / 2)) := rfl
        rw [pkIt_all its2 (by omega) (by omega)] at hf2
        have HFS2 := Lib.hid ((HS.out.s.drew).trans hs2)
        have ht2 : TBox w2 N F := TBox.step (w := wr.drew) (B := B) HS.out.t hs2 (TBox.ne (w := wr) HS.out.t HF.out)
        have HT2 := Lib.hid ht2
        have HF2 := Lib.hid hf2
        have HO2 := Lib.hid ho2
        have HS2 := Lib.hid (show w2.cell? ⟨N, 0, none⟩ = some (.pointer (some ⟨F, 0, none⟩)) ∧ w2.cell? ⟨F, 1, none⟩ = some (.slice Al S.length capl) from ⟨cell_of (i := 0) ht2 rfl, cell_of (i := 1) hf2.box rfl⟩)
        have HS2b := Lib.hid (show (w2.alloc (.cells #[.slice Al S.length capl, .slice A2 (ns.length / 2) cap2] 22)).cell? ⟨N, 0, none⟩ = some (.pointer (some ⟨F, 0, none⟩)) ∧ (w2.alloc (.cells #[.slice Al S.length capl, .slice A2 (ns.length / 2) cap2] 22)).cell? ⟨F, 1, none⟩ = some (.slice Al S.length capl) from by
          have hb := below_box w2 (.cells #[.slice Al S.length capl, .slice A2 (ns.length / 2) cap2] 22)
          exact ⟨(hb.cell (p := ⟨N, 0, none⟩) (heap_lt ht2)).trans HS2.out.1, (hb.cell (p := ⟨F, 1, none⟩) hf2.lt).trans HS2.out.2⟩)
        have hcat := catF_any (w2 := w2) (a := List.range S.length) (b := (List.range (ns.length / 2)).map (its2.length + ·)) (by rw [List.length_range]; exact HLV.out w2 HFS2.out) (by rw [← from_idx, List.length_map, List.length_range]; exact ho2) (by rw [List.length_range, List.length_map, List.length_range]; have h1 := HNL.out; have h2 := HSL.out; omega)
        have HCAT := Lib.hid hcat
        clear hnc hf2 ho2 hs2 ht2 hcat
        (try go_wp2_with fail)
        refine hK.out _ _ ?_ (fun hHeld => ?_)
        · (try dsimp only); first | exact HS3.out | exact HS2b.out | exact HS2.out | exact HSI.out
        clear hK K
        try simp only [Act.put, List.setIfInBounds_toArray, List.set_cons_zero, List.set_cons_succ]
        refine wpAnyH_ready (rs := [7]) (by kernel_rfl) (by simp) ?_
        refine AllReadyH.cons (o := ?oo8) ?hi8 (fun K hK => ?hs8) ?hm8
        case hi8 => (simp only [List.getElem?_toArray, List.getElem?_cons_succ, List.getElem?_cons_zero]; rfl)
        · go_simp
          refine hK.out _ _ ?_ (fun hHeld => ?_)
          · (try dsimp only); first | exact HS3.out | exact HS2b.out | exact HS2.out | exact HSI.out
          clear hK K
          try simp only [Act.put, List.setIfInBounds_toArray, List.set_cons_zero, List.set_cons_succ]
          refine wpAnyH_ready (rs := [8]) (by kernel_rfl) (by simp) ?_
          refine AllReadyH.cons (o := ?oo9) ?hi9 (fun K hK => ?hs9) ?hm9
          case hi9 => (simp only [List.getElem?_toArray, List.getElem?_cons_succ, List.getElem?_cons_zero]; rfl)
          · go_simp
            refine HCAT.out.mono ?_
            rintro e w3 ⟨⟨v3, rfl, ho3⟩, hb3⟩
            have HF3 := Lib.hid (HF2.out.below hb3)
            have HT3 : Hid (TBox w3 N F) := Lib.hid (by unfold TBox; rw [hb3.block N (heap_lt HT2.out)]; exact HT2.out)
            have HS3 := Lib.hid (show w3.cell? ⟨N, 0, none⟩ = some (.pointer (some ⟨F, 0, none⟩)) ∧ w3.cell? ⟨F, 1, none⟩ = some (.slice Al S.length capl) from ⟨cell_of (i := 0) HT3.out rfl, cell_of (i := 1) HF3.out.box rfl⟩)
            have HFS3 := Lib.hid (FStep.below HFS2.out (by have := HF2.out.lt; have := HF2.out.hB; omega) hb3)
            have HO3 := Lib.hid ho3
            have HNW : Hid (N ≤ w2.heap.size) := Lib.hid (by have := HFS2.out.be.size; rw [HN.out] at this; exact this)
            clear hb3 ho3
            (try go_wp2_with fail)
            refine hK.out _ _ ?_ (fun hHeld => ?_)
            · (try dsimp only); first | exact HS3.out | exact HS2b.out | exact HS2.out | exact HSI.out
            clear hK K
            try simp only [Act.put, List.setIfInBounds_toArray, List.set_cons_zero, List.set_cons_succ]
            refine wpAnyH_take (i := 9) (oi := ?oi10) (v := ?v10) ?hi10 (by kernel_rfl) (by kernel_rfl) (by kernel_rfl) ?hq10 ?hy10 (by assumption) ?hr10
            case hi10 => (simp only [List.getElem?_toArray, List.getElem?_cons_succ, List.getElem?_cons_zero]; rfl)
            case hq10 => exact fun _ _ _ h => h
            case hy10 => exact Or.inl ⟨by rfl, by intro whSw hSw'; (try dsimp only at hSw'); (first | (go_simp; done) | (go_simp; with_reducible rfl))⟩
            try simp only [Act.put, List.setIfInBounds_toArray, List.set_cons_zero, List.set_cons_succ]
            refine wpAnyH_done (by kernel_rfl) ?_ _
            obtain ⟨its3, hi3⟩ : ∃ x, its2 ++ pkIt its2 ns = x := ⟨_, rfl⟩
            obtain ⟨l3, hl3⟩ : ∃ x, List.range S.length ++ (List.range (ns.length / 2)).map (its2.length + ·) = x := ⟨_, rfl⟩
            have HROUND := Lib.hid (RepL.round HLF.out HREP.out)
            have HLF3 := Lib.hid (HLF.out.app (pkIt its2 ns))
            have HPRE := Lib.hid ((HLF3.out.rep).join HREP.out.pack)
            have HIL : Hid (its3.length ≤ S.length + (i + 1) * S.length) := Lib.hid (by
              rw [← hi3, List.length_append, pkIt_len, Nat.add_mul]
              have := HNL.out
              omega)
            rw [hi3] at HF3 HROUND HLF3 HPRE
            rw [hl3] at HO3 HROUND HPRE
            have hl3l : l3.length ≤ 1000000 := by
              rw [← hl3, List.length_append, List.length_range, List.length_map, List.length_range]
              have h1 := HNL.out
              have h2 := HSL.out
              omega
            have HSRT := Lib.hid (sortF_any HF3.out HT3.out HO3.out (fun n hn => by
              obtain ⟨t, ht, hr⟩ := HPRE.out.mem n hn
              exact hr.wt.2) (fun n hn => by
              obtain ⟨t, ht, hr⟩ := HPRE.out.mem n hn
              rw [hr.wt.1]; omega) hl3l)
            clear hi3 hl3 hl3l hHeld HPK HS2 HS2b HCAT HSI HPRE
            go_wp2_with fail
            refine HSRT.out.mono ?_
            rintro e w4 ⟨rfl, ho4, hg4⟩
            have hne3 : v3.ownBlock ≠ some F := own_other HO3.out HF3.out.box (by decide)
            have hneN : v3.ownBlock ≠ some N := own_other HO3.out HT3.out (by decide)
            have HEND : Hid (LAt w N N B F (.slice Al S.length capl) c S (i + 1) v3 w4) := Lib.hid ⟨⟨vi2, its3, _, ⟨HF3.out.hB, by rw [hg4.block F HF3.out.lt (fun e => hne3 e.symm)]; exact HF3.out.box, own_below HF3.out.own fun k hk => hg4.block k (own_low HF3.out.own k hk).2 (fun e => by
              obtain ⟨cs, hcs⟩ : ∃ cs, w3.heap[k]? = some (.cells cs 139 (0, 0)) := by
                rcases HF3.out.own.2 with ⟨rfl, _⟩ | ⟨g, cap, cur, rfl, _, hh, _⟩
                · simp [Value.ownBlock] at hk
                · simp only [Value.ownBlock, Option.some.injEq] at hk
                  subst hk
                  exact ⟨_, hh⟩
              exact own_other HO3.out hcs (by decide) e.symm)⟩, HLF3.out, HIL.out, HROUND.out, by rw [(sortA_perm _ l3).length_eq]; exact ownsRow_base ho4 HNW.out⟩, FStep.newer HFS3.out (by rw [HN.out]; exact HBN.out) (by rw [HN.out]; exact HNW.out) HO3.out hg4, by unfold TBox; rw [hg4.block N (heap_lt HT3.out) (fun e => hneN e.symm)]; exact HT3.out⟩
            clear ho4 hg4 hne3 hneN HSRT HF3 HT3 HO3 HFS3 HROUND HLF3 HIL HNW HF2 HT2 HO2 HFS2 HF HLF HREP HWT HIN HNL HS
            go_wp2_with fail
            exact ⟨⟨i + 1, by omega, by go_num, HEND⟩, by simp only [Go.RowKit.intOf]; omega⟩
          exact AllReadyH.nil
        exact AllReadyH.nil
      exact AllReadyH.nil
    · obtain rfl : i = lim := by omega
      have hlti : ¬ (i : Int) < (i : Int) := by omega
      go_wp2_with fail
      go_ret
      exact ⟨_, rfl, HS.out⟩
end Go.Proofs.Ytbfnkmibbieijaa
