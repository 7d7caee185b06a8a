/-
  WALKS over the library, for package markup: strings.IndexRune and strings.IndexAny at the three bytes that end a raw value, whatever the string is.
-/
import Derived.Test.YtjablaidbccnbaaGreatDoorMkS
import Derived.LoopTactic
import Derived.Deep.LoopGhost
import Derived.WalkMore
namespace Go.Proofs.YtjablaidbccnbaaGreatDoor
open Go.RowKit Go.Shelf Go.Lib

abbrev endS : ByteArray := ⟨#[34, 60, 62]⟩
theorem enc_high (c : Nat) (h : 128 ≤ c) : ∃ (pre : Bs) (y : UInt8), (Utf8.encode (c : Int)).data.toList = pre ++ [y] ∧ 1 ≤ pre.length ∧ pre.length ≤ 3 ∧ 128 ≤ y.toNat := by
  have key : ∀ d : Nat, 128 ≤ (UInt8.ofNat (0x80 + d % 64)).toNat := by intro d; simp; omega
  generalize hE : Utf8.encode (c : Int) = E
  unfold Utf8.encode at hE
  dsimp only at hE
  obtain ⟨d, hd, h2⟩ : ∃ d, (if Utf8.valid (c : Int) = true then (c : Int).toNat else Utf8.runeError) = d ∧ 128 ≤ d := by
    refine ⟨_, rfl, ?_⟩
    split
    · simpa using h
    · decide
  rw [hd, if_neg (by omega)] at hE
  by_cases h3 : d < 0x800
  · rw [if_pos h3] at hE
    subst hE
    exact ⟨[_], _, rfl, by simp, by simp, key d⟩
  · rw [if_neg h3] at hE
    by_cases h4 : d < 0x10000
    · rw [if_pos h4] at hE
      subst hE
      exact ⟨[_, _], _, rfl, by simp, by simp, key d⟩
    · rw [if_neg h4] at hE
      subst hE
      exact ⟨[_, _, _], _, rfl, by simp, by simp, key d⟩

set_option maxRecDepth 100000 in
set_option maxHeartbeats 1000000 in
theorem indexRune_error (w : World) :
    Calls Tryz.prog 100 #[.string endS, .int .i32 65533] w fun e w' => e = .returned (.int .i64 (-1)) ∧ Below w.heap.size w w' := by
  go_enter Tryz.func100, Tryz.ntmps100
  go_wp2_with fail
  go_loopg [5, 6] 3 (fun gf _ _ wx => ∃ pos : Nat, pos + gf = 3 ∧ wx.heap[w.heap.size]? = some (.stringIter endS pos) ∧ Below w.heap.size w wx)
  case atStart => exact ⟨0, rfl, World.iter_heap w endS 0, (Below.refl _ w).alloc (Nat.le_refl _) _⟩
  case round =>
    obtain ⟨pos, hpg, hit, hbw⟩ := hrel
    cases gk with
    | zero =>
      obtain rfl : pos = 3 := by omega
      have hnx : ∀ ty, (Instr.next (.pointer (some ⟨w.heap.size, 0, none⟩)) true ty).run Tryz.prog wr = _ := fun ty => Lib.run_next_end_at wr w.heap.size endS 3 ty hit (by decide)
      have HB := Lib.hid hbw
      clear hit hbw
      go_wp2_with fail
      go_ret
      exact ⟨rfl, HB.out⟩
    | succ g =>
      have hps : pos < endS.size := by show pos < 3; omega
      obtain ⟨R, hR, hR2⟩ : ∃ R, (endS[pos]'hps).toNat = R ∧ R < 128 := by
        refine ⟨_, rfl, ?_⟩
        have : pos = 0 ∨ pos = 1 ∨ pos = 2 := by omega
        rcases this with rfl | rfl | rfl
        · show (34 : UInt8).toNat < 128; decide
        · show (60 : UInt8).toNat < 128; decide
        · show (62 : UInt8).toNat < 128; decide
      have hnx : ∀ ty, (Instr.next (.pointer (some ⟨w.heap.size, 0, none⟩)) true ty).run Tryz.prog wr = _ := fun ty => Lib.run_next_ascii_at wr w.heap.size endS pos ty hit hps (by rw [hR]; exact hR2)
      rw [hR] at hnx
      have hit2 := Lib.iterAt_heap wr w.heap.size endS pos (pos + 1) hit
      have hbw2 := Lib.below_iterAt hbw (k := w.heap.size) (Nat.le_refl _) endS (pos + 1)
      obtain ⟨W, hWd⟩ : ∃ W, wr.iterAt w.heap.size endS (pos + 1) = W := ⟨_, rfl⟩
      rw [hWd] at hnx hit2 hbw2
      have hne : ((R : Int) == 65533) = false := by simp; omega
      have HB := Lib.hid (And.intro hit2 hbw2)
      clear hit hbw hit2 hbw2 hWd
      go_wp2_with fail
      go_roundg g
      case measure => omega
      case rel => exact ⟨pos + 1, by omega, HB.out.1, HB.out.2⟩
set_option maxRecDepth 100000 in
set_option maxHeartbeats 1000000 in
theorem indexRune_high (c : Nat) (h : 128 ≤ c) (h2 : c ≤ 1114111) (hv : Lib.validRune (c : Int) = true) (hne : c ≠ 65533) (w : World) :
    Calls Tryz.prog 100 #[.string endS, .int .i32 (c : Int)] w fun e w' => e = .returned (.int .i64 (-1)) ∧ Below w.heap.size w w' := by
  obtain ⟨pre, y, he, hp1, hp3, hy⟩ := enc_high c h
  obtain ⟨E, hE⟩ : ∃ E, Utf8.encode (c : Int) = E := ⟨_, rfl⟩
  rw [hE] at he
  have hsz : E.size = pre.length + 1 := by rw [Lib.size_eq, he]; simp
  have hV := Tryz.utf8_ValidRune (c : Int)
  rw [hv] at hV
  have HV := Lib.hid hV
  have hne' : ((c : Int) == 65533) = false := by simp; omega
  have c1 : ¬ ((c : Int) < 128) := by omega
  obtain ⟨m, hm⟩ : ∃ m, pre.length = m := ⟨_, rfl⟩
  rw [hm] at hsz hp1 hp3
  have hEm : m < E.size := by omega
  have hEy : (E[m]'hEm) = y := by
    have h' : m < E.data.toList.length := by rw [← Lib.size_eq]; exact hEm
    have e1 : E.data.toList[m]'h' = y := by
      simp only [he]
      rw [List.getElem_append_right (by omega)]
      simp [hm]
    rw [← e1]
    rfl
  obtain ⟨M, hM⟩ : ∃ M : Int, (m : Int) = M := ⟨_, rfl⟩
  have e1 : (E.size : Int) - 1 = M := by omega
  have hw1 : IntKind.i64.wrap M = M := by rw [IntKind.wrap_i64]; omega
  have hix : ∀ (W : World) (K : Int), K = M → (Instr.index 9 (.string E) (.int .i64 K)).run Tryz.prog W = .ok (.int .u8 (y.toNat : Int)) W := by
    rintro W K rfl
    subst hM
    have := run_index_string (P := Tryz.prog) W 9 E .i64 (m : Int) Tryz.underlying9
    rw [this, dif_pos ⟨by omega, by omega⟩]
    simp [hEy]
  have HIX := Lib.hid hix
  have HSZ := Lib.hid hsz
  have HM := Lib.hid hM
  have hy60 : ((60 : Int) != (y.toNat : Int)) = true ∧ ((62 : Int) != (y.toNat : Int)) = true := by simp; omega
  have HYN := Lib.hid hy60
  have hnot : ∀ l : Bs, (∀ x ∈ l, x.toNat < 128) → indexByte l ((y.toNat : Int).toNat.toUInt8) = -1 := by
    intro l hl
    rw [index_upto, if_neg]
    intro hm
    have := hl _ hm
    simp at this
    omega
  have HN := Lib.hid hnot
  clear hV he hv hsz hix hEy hM hnot hy60
  go_enter Tryz.func100, Tryz.ntmps100
  go_wp2_with fail
  refine (HV.out _).mono ?_
  rintro e w1 ⟨rfl, rfl⟩
  go_wp2_with fail
  go_step3
  go_wp2_with fail
  go_loopw [9] (fun i wr => i = .int .i64 M ∧ wr = w1) (fun _ _ => 0)
  case atStart => exact ⟨rfl, rfl⟩
  case round =>
    obtain ⟨rfl, rfl⟩ := hrel
    have hsz3 : (endS.size : Int) = 3 := rfl
    have hm3 := HM.out
    rcases (by omega : M = 1 ∨ M = 2 ∨ M = 3) with rfl | rfl | rfl
    · have hix1 : ∀ W, (Instr.index 9 (.string endS) (.int .i64 1)).run Tryz.prog W = .ok (.int .u8 60) W := fun W => by kernel_rfl
      have hix2 := fun W => HIX.out W 1 rfl
      have hsl : ∀ W, (Instr.slice 9 (.string endS) (some (.int .i64 2)) none none).run Tryz.prog W = .ok (.string ⟨#[62]⟩) W := fun W => by kernel_rfl
      have hwk : IntKind.i64.wrap 2 = 2 := by decide
      have hI := Tryz.strings_IndexByte ⟨#[62]⟩ (y.toNat : Int)
      rw [HN.out _ (by decide)] at hI
      have HI := Lib.hid hI
      clear hI hm3
      go_wp2_with fail
      go_step3
      go_wp2_with fail
      go_quiet (fail)
      rw [HYN.out.1]
      go_wp2_with fail
      obtain ⟨W2, hW2⟩ : ∃ W2, wr.drewN nq = W2 := ⟨_, rfl⟩
      rw [hW2]
      have HW2 : Hid (Below wr.heap.size wr W2) := Lib.hid (by rw [← hW2]; exact below_drewN (Below.refl _ _) nq)
      clear hW2
      go_quiet ((go_at_call 110; exact Calls.quiet_of_same (HI.out _)))
      go_wp2_with fail
      rw [Exit.noGoto_ret]
      simp only [Exit.inBlock]
      change Exit.noGoto (Exit.inBlock 0 _) Exit.ret _ _
      rw [Exit.noGoto_ret]
      simp only [Exit.inBlock, Exit.then]
      rw [Exit.noGoto_ret]
      go_ret
      exact ⟨rfl, below_drewN HW2.out _⟩
    · have hix1 : ∀ W, (Instr.index 9 (.string endS) (.int .i64 2)).run Tryz.prog W = .ok (.int .u8 62) W := fun W => by kernel_rfl
      have hix2 := fun W => HIX.out W 2 rfl
      have hsl : ∀ W, (Instr.slice 9 (.string endS) (some (.int .i64 3)) none none).run Tryz.prog W = .ok (.string ⟨#[]⟩) W := fun W => by kernel_rfl
      have hwk : IntKind.i64.wrap 3 = 3 := by decide
      have hI := Tryz.strings_IndexByte ⟨#[]⟩ (y.toNat : Int)
      rw [HN.out _ (by decide)] at hI
      have HI := Lib.hid hI
      clear hI hm3
      go_wp2_with fail
      go_step3
      go_wp2_with fail
      go_quiet (fail)
      rw [HYN.out.2]
      go_wp2_with fail
      obtain ⟨W2, hW2⟩ : ∃ W2, wr.drewN nq = W2 := ⟨_, rfl⟩
      rw [hW2]
      have HW2 : Hid (Below wr.heap.size wr W2) := Lib.hid (by rw [← hW2]; exact below_drewN (Below.refl _ _) nq)
      clear hW2
      go_quiet ((go_at_call 110; exact Calls.quiet_of_same (HI.out _)))
      go_wp2_with fail
      rw [Exit.noGoto_ret]
      simp only [Exit.inBlock]
      change Exit.noGoto (Exit.inBlock 0 _) Exit.ret _ _
      rw [Exit.noGoto_ret]
      simp only [Exit.inBlock, Exit.then]
      rw [Exit.noGoto_ret]
      go_ret
      exact ⟨rfl, below_drewN HW2.out _⟩
    · clear hm3
      go_wp2_with fail
      rw [Exit.noGoto_ret]
      go_ret
      exact ⟨rfl, Below.refl _ _⟩

/-- IndexRune at any rune that the library decodes. -/
theorem dec_rune (l : Bs) : (decodeL l).1 ≤ 1114111 ∧ Lib.validRune ((decodeL l).1 : Int) = true := by
  have h := decodeL_c_le l
  refine ⟨h.1, ?_⟩
  have hs : (decodeL l).1 < 55296 ∨ (57344 ≤ (decodeL l).1 ∧ (decodeL l).1 ≤ 1114111) := by
    rw [decodeL_N]
    rcases decodeN_shape l.length (l.getD 0 0).toNat (l.getD 1 0).toNat (l.getD 2 0).toNat (l.getD 3 0).toNat with ⟨c, e⟩ | ⟨c1, c2, c3, cv, e⟩ | ⟨c1, c2, c3, c4, cv, cs, e⟩ | ⟨c1, c2, c3, c4, c5, cv, cw, e⟩ | e <;> rw [e] <;> simp only <;> omega
  unfold Lib.validRune
  simp
  omega
theorem indexRune_any (c : Nat) (h : 128 ≤ c) (h2 : c ≤ 1114111) (hv : Lib.validRune (c : Int) = true) (w : World) :
    Calls Tryz.prog 100 #[.string endS, .int .i32 (c : Int)] w fun e w' => e = .returned (.int .i64 (-1)) ∧ Below w.heap.size w w' := by
  by_cases hc : c = 65533
  · subst hc
    exact indexRune_error w
  · exact indexRune_high c h h2 hv hc w
theorem not_end {b : UInt8} (h : 128 ≤ b.toNat) : ([34, 60, 62] : Bs).contains b = false := by
  rw [Bool.eq_false_iff]
  simp
  refine ⟨?_, ?_, ?_⟩ <;> (intro e; subst e; revert h; decide)

set_option maxRecDepth 100000 in
set_option maxHeartbeats 2000000 in
theorem indexAny_short (s : ByteArray) (w : World) (h8 : s.size ≤ 8) :
    Calls Tryz.prog 85 #[.string s, .string endS] w fun e w' => e = .returned (.int .i64 (Lib.indexAny s.data.toList [34, 60, 62])) ∧ Below w.heap.size w w' := by
  have hU := Tryz.strings_shouldUseASCIISet (s.size : Int)
  have h8z : decide ((8 : Int) < (s.size : Int)) = false := decide_eq_false (by omega)
  rw [h8z] at hU
  have HU := Lib.hid hU
  clear hU h8z
  have hs3 : (endS.size : Int) = 3 := rfl
  go_enter Tryz.func85, Tryz.ntmps85
  go_wp2_with fail
  refine (HU.out _).mono ?_
  rintro e w1 ⟨rfl, rfl⟩
  go_wp2_with fail
  go_loopg [9, 10] s.size (fun gf _ _ wx => ∃ i : Nat, i ≤ s.size ∧ s.size ≤ i + gf ∧ wx.heap[w1.heap.size]? = some (.stringIter s i) ∧ Below w1.heap.size w1 wx ∧ Lib.NoAny s.data.toList [34, 60, 62] i)
  case atStart => exact ⟨0, Nat.zero_le _, by omega, World.iter_heap w1 s 0, (Below.refl _ w1).alloc (Nat.le_refl _) _, Lib.NoAny.zero _ _⟩
  case round =>
    obtain ⟨i, hi, hig, hit, hbw, hno⟩ := hrel
    by_cases hps : i < s.size
    · obtain ⟨g', rfl⟩ : ∃ g', gk = g' + 1 := ⟨gk - 1, by omega⟩
      have hnx : ∀ ty, (Instr.next (.pointer (some ⟨w1.heap.size, 0, none⟩)) true ty).run Tryz.prog wr = _ := fun ty => Lib.run_next_any_at wr w1.heap.size s i ty hit hps
      have hlt' : i < s.data.toList.length := by rw [← Lib.size_eq]; exact hps
      have hne : s.data.toList.drop i ≠ [] := by rw [List.drop_eq_getElem_cons hlt']; simp
      have hle := decodeL_le _ hne
      rw [List.length_drop, ← Lib.size_eq] at hle
      have hdd := Lib.decodeL_drop s i
      have hwd := Lib.decodeL_width (s.data.toList.drop i)
      have hru := dec_rune (s.data.toList.drop i)
      have hg0 : (s.data.toList.drop i).getD 0 0 = s.data.toList[i] := by rw [List.drop_eq_getElem_cons hlt']; rfl
      have hgi : ∀ j, (s.data.toList.drop i).getD j 0 = s.data.toList.getD (i + j) 0 := fun j => by simp [List.getD_eq_getElem?_getD, List.getElem?_drop]
      rcases dec_shape _ hne with ⟨hx, hd⟩ | ⟨hx, hc, hcont⟩
      · rw [hg0] at hx hd
        obtain ⟨x, hxx⟩ : ∃ x, s.data.toList[i] = x := ⟨_, rfl⟩
        rw [hxx] at hx hd
        have hxl : s.data.toList[i]? = some x := by rw [List.getElem?_eq_getElem hlt', hxx]
        rw [← hdd, hd] at hnx
        have hit2 := Lib.iterAt_heap wr w1.heap.size s i (i + 1) hit
        have hbw2 := Lib.below_iterAt hbw (k := w1.heap.size) (Nat.le_refl _) s (i + 1)
        have hback : ((x.toNat : Int)).toNat.toUInt8 = x := by simp
        have hcn := Lib.contains_iff_indexByte [34, 60, 62] x
        have hI : ∀ W, Calls Tryz.prog 100 #[.string endS, .int .i32 (x.toNat : Int)] W fun e w' => e = .returned (.int .i64 (indexByte [34, 60, 62] x)) ∧ w' = W := by
          intro W
          have h := Tryz.strings_IndexRune_ascii endS (x.toNat : Int) W (by omega) (by omega)
          rw [hback] at h
          exact h
        obtain ⟨q, hq⟩ : ∃ q, indexByte [34, 60, 62] x = q := ⟨_, rfl⟩
        rw [hq] at hI hcn
        obtain ⟨W, hWd⟩ : ∃ W, wr.iterAt w1.heap.size s (i + 1) = W := ⟨_, rfl⟩
        simp only [hWd] at hnx hit2 hbw2
        have HI := Lib.hid hI
        have HB := Lib.hid (And.intro hit2 hbw2)
        cases hin : ([34, 60, 62] : Bs).contains x with
        | false =>
          rw [hin] at hcn
          have hlt : decide (0 ≤ q) = false := hcn.symm
          have HN := Lib.hid (hno.succ hxl hin)
          clear hit hbw hno hlt' hne hle hdd hwd hru hg0 hgi hx hd hxx hxl hit2 hbw2 hI hback hcn hq hWd hin
          go_wp2_with fail
          refine (HI.out _).mono ?_
          rintro e w2 ⟨rfl, rfl⟩
          go_wp2_with fail
          go_roundg g'
          case measure => omega
          case rel => exact ⟨i + 1, by omega, by omega, HB.out.1, HB.out.2, HN.out⟩
        | true =>
          rw [hin] at hcn
          have hlt : decide (0 ≤ q) = true := hcn.symm
          have HN := Lib.hid (Lib.indexAny_hit hno hxl hin)
          clear hit hbw hno hlt' hne hle hdd hwd hru hg0 hgi hx hd hxx hxl hit2 hbw2 hI hback hcn hq hWd hin
          go_wp2_with fail
          refine (HI.out _).mono ?_
          rintro e w2 ⟨rfl, rfl⟩
          go_wp2_with fail
          go_ret
          exact ⟨by rw [HN.out]; rfl, HB.out.2⟩
      · obtain ⟨R, hR⟩ : ∃ R, (decodeL (s.data.toList.drop i)).1 = R := ⟨_, rfl⟩
        obtain ⟨K, hK⟩ : ∃ K, (decodeL (s.data.toList.drop i)).2 = K := ⟨_, rfl⟩
        rw [← hdd, hR, hK] at hnx
        rw [hR] at hru hc
        rw [hK] at hle hwd hcont
        have hnoK : Lib.NoAny s.data.toList [34, 60, 62] (i + K) := by
          intro j b hj hb
          by_cases hji : j < i
          · exact hno j b hji hb
          · apply not_end
            have hjb : s.data.toList.getD j 0 = b := by rw [List.getD_eq_getElem?_getD, hb]; rfl
            by_cases hj0 : j = i
            · subst hj0
              have := hgi 0
              rw [Nat.add_zero] at this
              rw [this, hjb] at hx
              exact hx
            · have := hcont (j - i) (by omega) (by omega)
              rw [hgi, show i + (j - i) = j by omega, hjb] at this
              exact this
        have hit2 := Lib.iterAt_heap wr w1.heap.size s i (i + K) hit
        have hbw2 := Lib.below_iterAt hbw (k := w1.heap.size) (Nat.le_refl _) s (i + K)
        obtain ⟨W, hWd⟩ : ∃ W, wr.iterAt w1.heap.size s (i + K) = W := ⟨_, rfl⟩
        simp only [hWd] at hnx hit2 hbw2
        have HI := Lib.hid (fun W => indexRune_any R hc hru.1 hru.2 W)
        have HB := Lib.hid (And.intro hit2 hbw2)
        have HN := Lib.hid hnoK
        clear hit hbw hno hlt' hne hdd hru hg0 hgi hx hR hK hc hcont hit2 hbw2 hWd hnoK
        go_wp2_with fail
        refine (HI.out _).mono ?_
        rintro e w2 ⟨rfl, hb2⟩
        have HB2 := Lib.hid (And.intro ((hb2.block w1.heap.size (by have := (Array.getElem?_eq_some_iff.1 HB.out.1).1; exact this)).trans HB.out.1) (HB.out.2.trans (hb2.mono HB.out.2.size)))
        clear hb2
        go_wp2_with fail
        go_roundg g'
        case measure => omega
        case rel => exact ⟨i + K, by omega, by omega, HB2.out.1, HB2.out.2, HN.out⟩
    · have hnx : ∀ ty, (Instr.next (.pointer (some ⟨w1.heap.size, 0, none⟩)) true ty).run Tryz.prog wr = _ := fun ty => Lib.run_next_end_at wr w1.heap.size s i ty hit hps
      obtain rfl : i = s.size := by omega
      have HN := Lib.hid (Lib.indexAny_none (by rw [← Lib.size_eq]; exact hno))
      have HB := Lib.hid hbw
      clear hit hbw hno
      go_wp2_with fail
      go_ret
      exact ⟨by rw [HN.out]; rfl, HB.out⟩
theorem indexAny_any (s : ByteArray) (hs : s.size ≤ 1000000) (w : World) :
    Calls Tryz.prog 85 #[.string s, .string endS] w fun e w' => e = .returned (.int .i64 (Lib.indexAny s.data.toList [34, 60, 62])) ∧ Below w.heap.size w w' := by
  by_cases h8 : s.size ≤ 8
  · exact indexAny_short s w h8
  · refine (Tryz.strings_IndexAny_long (fun w => by kernel_rfl) s endS w (by decide) (by omega) (by omega) (by decide) ?_).mono ?_
    · intro j b hb
      have : b ∈ ([34, 60, 62] : Bs) := List.mem_of_getElem? hb
      simp at this
      rcases this with rfl | rfl | rfl <;> decide
    · rintro e w' ⟨rfl, rfl⟩
      exact ⟨rfl, ((Below.refl _ w).alloc (Nat.le_refl _) _).alloc (by simp) _⟩
end Go.Proofs.YtjablaidbccnbaaGreatDoor
