/-
  WALKS over package markup: checkKey, Tag.check.
-/
import Derived.Test.YtjablaidbccnbaaGreatDoorMkX
import Derived.StillTailTactics
namespace Go.Proofs.YtjablaidbccnbaaGreatDoor
open Go.RowKit Go.Shelf Go.Lib

/-- Why a key cannot follow the earlier ones; 0 if it can. -/
def keyE (k : Pr) (before : List Pr) : Nat := if nameB k.1 = false then 4 else if hasN before k.1 = true then 5 else valE k.2
def keysE : List Pr → List Pr → Nat
  | _, [] => 0
  | before, k :: r => if keyE k before ≠ 0 then keyE k before else keysE (before ++ [k]) r
/-- Why a tag has no text; 0 if it has one. -/
def checkT (t : TagL) : Nat := if nameB t.name = false then 4 else if (t.close = true ∧ 0 < t.keys.length) ∨ 8 < t.keys.length then 15 else keysE [] t.keys
theorem keysE_step (ks : List Pr) (k : Nat) (p : Pr) (hk : ks[k]? = some p) :
    keysE (ks.take k) (ks.drop k) = if keyE p (ks.take k) ≠ 0 then keyE p (ks.take k) else keysE (ks.take (k + 1)) (ks.drop (k + 1)) := by
  obtain ⟨h, rfl⟩ := List.getElem?_eq_some_iff.1 hk
  rw [List.drop_eq_getElem_cons h, List.take_add_one, hk]
  rfl
theorem keys_take {w : World} {b off l p k : Nat} {ks : List Pr} (h : Keys w (.slice (some ⟨b, off, none⟩) l p) ks) (hk : k ≤ l) : Keys w (.slice (some ⟨b, off, none⟩) k p) (ks.take k) := by
  obtain ⟨A, cap, hv, hc, hj⟩ := h
  cases hv
  have hl : (ks.take k).length = k := by rw [List.length_take]; omega
  refine ⟨_, p, by rw [hl], by omega, fun h0 => ?_⟩
  obtain ⟨b', off', hA, hb, hj⟩ := hj (by omega)
  refine ⟨b', off', hA, hb, fun j q hq => hj j q ?_⟩
  rw [List.getElem?_take] at hq
  split at hq
  · exact hq
  · cases hq
theorem keysE_end (ks : List Pr) : keysE (ks.take ks.length) (ks.drop ks.length) = 0 := by rw [List.drop_length]; rfl

set_option maxHeartbeats 1000000 in
theorem checkKey_any {w : World} {v : Value} {ks : List Pr} (hk : Keys w v ks) (hl : ks.length ≤ 1000000) (n x : Bs) (hn : n.length ≤ maxLen) (hx : x.length ≤ maxLen) :
    Calls Tryz.prog 39 #[.agg #[.string ⟨n.toArray⟩, .string ⟨x.toArray⟩], v] w fun e w' => e = .returned (.int .i64 (keyE (n, x) ks : Nat)) ∧ Below w.heap.size w w' := by
  obtain ⟨sn, hsn⟩ : ∃ s : ByteArray, (⟨n.toArray⟩ : ByteArray) = s := ⟨_, rfl⟩
  obtain ⟨sx, hsx⟩ : ∃ s : ByteArray, (⟨x.toArray⟩ : ByteArray) = s := ⟨_, rfl⟩
  have hb1 : Below w.heap.size w (w.alloc (.cells #[.string sn, .string sx] 54)) := (Below.refl _ w).alloc (Nat.le_refl _) _
  have hB := block_new w (.cells #[.string sn, .string sx] 54)
  have c0 := cell_of (i := 0) hB rfl
  have HB := Lib.hid hB
  have HN : Hid (∀ W : World, Calls Tryz.prog 21 #[.string sn] W fun e w' => e = .returned (.bool (nameB n)) ∧ w' = W) := Lib.hid fun W => by
    rw [← hsn]
    exact validName_any ⟨n.toArray⟩ hn W
  have HV : Hid (∀ W : World, Calls Tryz.prog 55 #[.string sx] W fun e w' => e = .returned (.int .i64 (valE x : Nat)) ∧ Below W.heap.size W w') := Lib.hid fun W => by
    rw [← hsx]
    exact validValue_any ⟨x.toArray⟩ hx W
  have HH : Hid (Calls Tryz.prog 54 #[v, .string sn] (w.alloc (.cells #[.string sn, .string sx] 54)) fun e w' => e = .returned (.bool (hasN ks n)) ∧ Below (w.alloc (.cells #[.string sn, .string sx] 54)).heap.size (w.alloc (.cells #[.string sn, .string sx] 54)) w') := Lib.hid (by
    rw [← hsn, ← hsx] at hb1 ⊢
    exact hasName_any (hk.below hb1) hl n)
  have HB1 := Lib.hid hb1
  unfold keyE
  obtain ⟨q, hq⟩ : ∃ q, nameB n = q := ⟨_, rfl⟩
  obtain ⟨d, hd⟩ : ∃ d, hasN ks n = d := ⟨_, rfl⟩
  obtain ⟨z, hz⟩ : ∃ z, valE x = z := ⟨_, rfl⟩
  rw [hq] at HN
  rw [hd] at HH
  rw [hz] at HV
  simp only [hq, hd, hz]
  rw [hsn, hsx]
  clear hb1 hB hsn hsx hk hn hx hq hd hz
  cases q with
  | false =>
    go_enter Tryz.func39, Tryz.ntmps39
    go_wp2_with fail
    refine (HN.out _).mono ?_
    rintro e w1 ⟨rfl, rfl⟩
    go_wp2_with fail
    go_ret
    exact ⟨rfl, HB1.out⟩
  | true =>
    cases d with
    | true =>
      go_enter Tryz.func39, Tryz.ntmps39
      go_wp2_with fail
      refine (HN.out _).mono ?_
      rintro e w1 ⟨rfl, rfl⟩
      go_wp2_with fail
      refine HH.out.mono ?_
      rintro e w2 ⟨rfl, hb2⟩
      have HB2 := Lib.hid (HB1.out.trans (hb2.mono HB1.out.size))
      clear hb2
      go_wp2_with fail
      go_ret
      exact ⟨rfl, HB2.out⟩
    | false =>
      go_enter Tryz.func39, Tryz.ntmps39
      go_wp2_with fail
      refine (HN.out _).mono ?_
      rintro e w1 ⟨rfl, rfl⟩
      go_wp2_with fail
      refine HH.out.mono ?_
      rintro e w2 ⟨rfl, hb2⟩
      have HB2 := Lib.hid (HB1.out.trans (hb2.mono HB1.out.size))
      have c2 := cell_of (i := 1) (block_below HB.out hb2 (by simp)) rfl
      clear hb2
      go_wp2_with fail
      refine (HV.out _).mono ?_
      rintro e w3 ⟨rfl, hb3⟩
      have HB3 := Lib.hid (HB2.out.trans (hb3.mono HB2.out.size))
      clear hb3
      go_wp2_with fail
      go_ret
      exact ⟨rfl, HB3.out⟩

set_option maxRecDepth 100000 in
set_option maxHeartbeats 2000000 in
theorem tagCheck_any {w : World} {v : Value} (t : TagL) (hk : Keys w v t.keys) (hl : t.keys.length ≤ 1000000) (hn : t.name.length ≤ maxLen) (hs : ∀ p ∈ t.keys, p.1.length ≤ maxLen ∧ p.2.length ≤ maxLen) :
    Calls Tryz.prog 22 #[.agg #[.bool t.close, .string ⟨t.name.toArray⟩, v]] w fun e w' => e = .returned (.int .i64 (checkT t : Nat)) ∧ Below w.heap.size w w' := by
  obtain ⟨c, n, ks⟩ := t
  simp only at hk hl hn hs ⊢
  have hp : checkT ⟨c, n, ks⟩ = if nameB n = false then 4 else if (c = true ∧ 0 < ks.length) ∨ 8 < ks.length then 15 else keysE [] ks := rfl
  rw [hp]
  obtain ⟨sn, hsn⟩ : ∃ s : ByteArray, (⟨n.toArray⟩ : ByteArray) = s := ⟨_, rfl⟩
  have HN : Hid (∀ W : World, Calls Tryz.prog 21 #[.string sn] W fun e w' => e = .returned (.bool (nameB n)) ∧ w' = W) := Lib.hid fun W => by
    rw [← hsn]
    exact validName_any ⟨n.toArray⟩ hn W
  rw [hsn]
  have hb1 : Below w.heap.size w (w.alloc (.cells #[.bool c, .string sn, v] 24)) := (Below.refl _ w).alloc (Nat.le_refl _) _
  have hB := block_new w (.cells #[.bool c, .string sn, v] 24)
  have hk1 := hk.below hb1
  obtain ⟨q, hq⟩ : ∃ q, nameB n = q := ⟨_, rfl⟩
  rw [hq] at HN ⊢
  clear hsn hq hn hk hp
  obtain ⟨l, hll⟩ : ∃ l, ks.length = l := ⟨_, rfl⟩
  obtain ⟨A, p, hv, hkk⟩ := id hk1
  rw [hll] at hv hl ⊢
  subst hv
  obtain ⟨W, hW⟩ : ∃ W, (w.alloc (.cells #[.bool c, .string sn, .slice A l p] 24)) = W := ⟨_, rfl⟩
  rw [hW] at hb1 hB hk1 hkk
  have HW := Lib.hid hW
  have HK := Lib.hid hk1
  have HB := Lib.hid hB
  have HB1 := Lib.hid hb1
  have HS := Lib.hid hs
  have HL := Lib.hid hll
  have c0 := cell_of (i := 0) hB rfl
  have c1 := cell_of (i := 1) hB rfl
  have c2 := cell_of (i := 2) hB rfl
  clear hk1 hkk hW hB hb1 hs hll
  cases q with
  | false =>
    go_enter Tryz.func22, Tryz.ntmps22
    go_wp2_with fail
    rw [HW.out]
    go_wp2_with fail
    refine (HN.out _).mono ?_
    rintro e w1 ⟨rfl, rfl⟩
    go_wp2_with fail
    go_ret
    exact ⟨rfl, HB1.out⟩
  | true =>
    by_cases h15 : (c = true ∧ 0 < l) ∨ 8 < l
    · rw [if_neg (by decide), if_pos h15]
      cases c with
      | true =>
        have h0 : 0 < l := by rcases h15 with ⟨_, h⟩ | h <;> omega
        go_enter Tryz.func22, Tryz.ntmps22
        go_wp2_with fail
        rw [HW.out]
        go_wp2_with fail
        refine (HN.out _).mono ?_
        rintro e w1 ⟨rfl, rfl⟩
        go_wp2_with fail
        go_ret
        exact ⟨rfl, HB1.out⟩
      | false =>
        have h0 : 8 < l := by
          rcases h15 with ⟨h, _⟩ | h
          · cases h
          · exact h
        go_enter Tryz.func22, Tryz.ntmps22
        go_wp2_with fail
        rw [HW.out]
        go_wp2_with fail
        refine (HN.out _).mono ?_
        rintro e w1 ⟨rfl, rfl⟩
        go_wp2_with fail
        go_ret
        exact ⟨rfl, HB1.out⟩
    · rw [if_neg (by decide), if_neg h15]
      have h8 : l ≤ 8 := by omega
      cases c with
      | true =>
        have h0 : l = 0 := by
          by_cases e : 0 < l
          · exact absurd (.inl ⟨rfl, e⟩) h15
          · omega
        subst h0
        have hks : ks = [] := List.length_eq_zero_iff.1 HL.out
        subst hks
        go_enter Tryz.func22, Tryz.ntmps22
        go_wp2_with fail
        rw [HW.out]
        go_wp2_with fail
        refine (HN.out _).mono ?_
        rintro e w1 ⟨rfl, rfl⟩
        go_wp2_with fail
        go_loopw [27] (fun i wr => i = .int .i64 0 ∧ wr = w1) (fun _ _ => 0)
        case atStart => exact ⟨rfl, rfl⟩
        case round =>
          obtain ⟨rfl, rfl⟩ := hrel
          go_wp2_with fail
          go_ret
          exact ⟨rfl, HB1.out⟩
      | false =>
        clear h15
        go_enter Tryz.func22, Tryz.ntmps22
        go_wp2_with fail
        rw [HW.out]
        go_wp2_with fail
        refine (HN.out _).mono ?_
        rintro e w1 ⟨rfl, rfl⟩
        go_wp2_with fail
        clear c0 c1 c2
        go_loopw [27] (fun i wr => ∃ k : Nat, k ≤ l ∧ i = .int .i64 k ∧ Below w1.heap.size w1 wr ∧ keysE [] ks = keysE (ks.take k) (ks.drop k)) (fun i _ => l - (Go.RowKit.intOf i).toNat)
        case atStart => exact ⟨0, Nat.zero_le _, rfl, Below.refl _ _, rfl⟩
        case round =>
          obtain ⟨k, hkl, rfl, hb, hrec⟩ := hrel
          by_cases hlt : k < l
          · obtain ⟨n0, x0, hp⟩ : ∃ n0 x0, ks[k]? = some (n0, x0) := ⟨_, _, List.getElem?_eq_getElem (by rw [HL.out]; exact hlt)⟩
            have hkr := HK.out.below hb
            have hlt1 := (Array.getElem?_eq_some_iff.1 HB.out).1
            have hBr := block_below HB.out hb hlt1
            obtain ⟨A', p', hv, hc, hj⟩ := id hkr
            obtain ⟨b, off, rfl, hbl, hj⟩ := hj (by rw [HL.out]; omega)
            cases hv
            obtain ⟨c0, c1⟩ := hj k _ hp
            have hsz := HS.out _ (List.mem_of_getElem? hp)
            obtain ⟨W2, hW2⟩ : ∃ W2, wr.alloc (.cells #[.string ⟨n0.toArray⟩, .string ⟨x0.toArray⟩] 54) = W2 := ⟨_, rfl⟩
            have hb2 : Below wr.heap.size wr W2 := by rw [← hW2]; exact (Below.refl _ wr).alloc (Nat.le_refl _) _
            have hn2 : W2.heap[wr.heap.size]? = some (.cells #[.string ⟨n0.toArray⟩, .string ⟨x0.toArray⟩] 54 (0, 0)) := by rw [← hW2]; exact block_new _ _
            have hB2 := block_below hBr hb2 (Nat.lt_of_lt_of_le hlt1 hb.size)
            have hck := checkKey_any (keys_take (k := k) (hkr.below (below_drewN hb2 1)) (by rw [HL.out]; omega)) (by rw [List.length_take]; omega) n0 x0 hsz.1 hsz.2
            have hst := keysE_step ks k _ hp
            rw [← hrec] at hst
            have HCK := Lib.hid hck
            have HST := Lib.hid hst
            have HW2 := Lib.hid hW2
            have HBB := Lib.hid (hb.trans (hb2.mono hb.size))
            have d0 := cell_of (i := 0) hn2 rfl
            have d1 := cell_of (i := 1) hn2 rfl
            have d2 := cell_of (i := 2) hB2 rfl
            have HRR := Lib.hid hrec
            have hkp : k ≤ p := by omega
            clear hck hst hW2 hb hb2 hn2 hB2 hBr hkr hj hp hsz hrec hbl hlt1
            obtain ⟨z, hz⟩ : ∃ z, keyE (n0, x0) (ks.take k) = z := ⟨_, rfl⟩
            rw [hz] at HCK HST
            clear hz
            have HCK : Hid (Calls Tryz.prog 39 #[.agg #[.string ⟨n0.toArray⟩, .string ⟨x0.toArray⟩], .slice (some ⟨b, off, none⟩) k p] W2.drew fun e w' => e = .returned (.int .i64 (z : Nat)) ∧ Below W2.heap.size W2.drew w') := HCK
            by_cases hz : z = 0
            · subst hz
              rw [if_neg (by simp)] at HST
              go_wp2_with fail
              rw [HW2.out]
              go_still_tail 5, (by kernel_rfl)
              change wpList _ _ _ _ _ W2.drew
              go_wp2_with fail
              refine HCK.out.mono ?_
              rintro e w3 ⟨rfl, hb3⟩
              have HB3 := Lib.hid (HBB.out.trans (((Below.refl _ W2).drew.trans hb3).mono HBB.out.size))
              clear hb3 d0 d1 d2
              go_wp2_with fail
              exact ⟨⟨k + 1, by omega, by go_num, HB3.out, HST.out⟩, by simp only [Go.RowKit.intOf]; omega⟩
            · rw [if_pos hz] at HST
              have hzi : ¬ ((z : Int) = 0) := by omega
              go_wp2_with fail
              rw [HW2.out]
              go_still_tail 5, (by kernel_rfl)
              change wpList _ _ _ _ _ W2.drew
              go_wp2_with fail
              refine HCK.out.mono ?_
              rintro e w3 ⟨rfl, hb3⟩
              have HB3 := Lib.hid (HBB.out.trans (((Below.refl _ W2).drew.trans hb3).mono HBB.out.size))
              clear hb3 d0 d1 d2
              go_wp2_with fail
              go_ret
              exact ⟨by rw [HST.out]; rfl, HB1.out.trans (HB3.out.mono HB1.out.size)⟩
          · have hkl' : k = l := by omega
            subst hkl'
            have hz : keysE [] ks = 0 := by rw [hrec, ← HL.out]; exact keysE_end ks
            have HZ := Lib.hid hz
            have HBB := Lib.hid hb
            clear hrec hz hb
            go_wp2_with fail
            go_ret
            exact ⟨by rw [HZ.out]; rfl, HB1.out.trans (HBB.out.mono HB1.out.size)⟩
end Go.Proofs.YtjablaidbccnbaaGreatDoor
