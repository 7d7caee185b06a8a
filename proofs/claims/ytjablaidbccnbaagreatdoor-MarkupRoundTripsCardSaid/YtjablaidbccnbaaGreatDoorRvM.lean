/-
  WALKS over the reference of markup: the reader's value.
-/
import Derived.Test.YtjablaidbccnbaaGreatDoorRnM
import Derived.Test.YtjablaidbccnbaaGreatDoorMkR
import Derived.Test.YtjablaidbccnbaaGreatDoorMrB
import Derived.Test.YtjablaidbccnbaaGreatDoorMrE
namespace Go.Proofs.YtjablaidbccnbaaGreatDoor
open Go.RowKit Go.Shelf Go.Lib

/-- A value, from the byte behind its first quote on. -/
def pVal (L : Bs) (i : Nat) : PR Bs :=
  if L[i + rawN L i]? = some 34 then
    match unesc (rawT L i) with
    | .error a => .err (i + a) 3
    | .ok v => if valE v = 0 then .ok v (i + rawN L i + 1) else .err i (valE v)
  else .err (i + rawN L i) 3
theorem pValue_eq (L : Bs) (i : Nat) : pValue L i = if L[i]? = some 34 then pVal L (i + 1) else .err i 3 := rfl
theorem refValue_all (s : ByteArray) (hs : s.size ≤ 1000000) (w : World) :
    Calls Tryz.prog 28 #[.string s] w fun e w' => e = .returned (.int .i64 (valE s.data.toList : Nat)) ∧ Below w.heap.size w w' := by
  by_cases h4 : s.size ≤ 400
  · exact refValue_any s h4 w
  · have hE : valE s.data.toList = 2 := by
      unfold valE
      rw [if_pos (by rw [← Lib.size_eq]; omega)]
    rw [hE]
    have h1 : (120 : Int) < (s.size : Int) := by omega
    clear hE
    go_enter Tryz.func28, Tryz.ntmps28
    go_wp2_with fail
    go_ret
    exact ⟨rfl, Below.refl _ _⟩
theorem rawB_false {y : UInt8} (h : y.toNat = 34 ∨ y.toNat = 60 ∨ y.toNat = 62) : rawB y = false := by
  have : y = 34 ∨ y = 60 ∨ y = 62 := by
    rcases h with h | h | h
    · exact .inl (UInt8.toNat_inj.1 h)
    · exact .inr (.inl (UInt8.toNat_inj.1 h))
    · exact .inr (.inr (UInt8.toNat_inj.1 h))
  rcases this with rfl | rfl | rfl <;> decide
theorem rawB_true {y : UInt8} (h1 : y.toNat ≠ 34) (h2 : y.toNat ≠ 60) (h3 : y.toNat ≠ 62) : rawB y = true := by
  unfold rawB
  simp only [List.contains_cons, List.contains_nil, Bool.or_false, Bool.not_eq_true', Bool.or_eq_false_iff, beq_eq_false_iff_ne]
  exact ⟨fun e => h1 (by rw [e]; rfl), fun e => h2 (by rw [e]; rfl), fun e => h3 (by rw [e]; rfl)⟩

set_option maxRecDepth 100000 in
set_option maxHeartbeats 2000000 in
theorem rvalue_live {w : World} {b : Nat} {s nm : ByteArray} {i : Nat} {c : Bool} {kv : Value} (h : RB w b s i c nm kv 0 0 false) (hi : i ≤ s.size) (hs : s.size ≤ 1000000) :
    Calls Tryz.prog 19 #[.pointer (some ⟨b, 0, none⟩)] w fun en w' => StandsS b s c nm kv (pVal s.data.toList i) w en w' := by
  have hsz : s.data.toList.length = s.size := (Lib.size_eq s).symm
  obtain ⟨R, hR⟩ : ∃ R, pVal s.data.toList i = R := ⟨_, rfl⟩
  rw [hR]
  have HRR := Lib.hid hR
  have k1 := h.k1
  have hrl := raw_le s.data.toList i
  rw [hsz] at hrl
  obtain ⟨n, hn⟩ : ∃ n, rawN s.data.toList i = n := ⟨_, rfl⟩
  rw [hn] at hrl
  have HN := Lib.hid hn
  have H := Lib.hid h
  clear h hR hn
  go_enter Tryz.func19, Tryz.ntmps19
  go_wp2_with fail
  clear k1
  go_loopg [] (s.size + 1) (fun f wr => ∃ j : Nat, RB wr b s j c nm kv 0 0 false ∧ i ≤ j ∧ j ≤ s.size ∧ But b w wr ∧ s.size < j + f ∧ j + ((s.data.toList.drop j).takeWhile rawB).length = i + n)
  case atStart => exact ⟨i, H.out, Nat.le_refl _, hi, but_refl _ _, by omega, by rw [← HN.out]; rfl⟩
  case round =>
    obtain ⟨j, hB, hij, hj, hbut, hf, hrel⟩ := hrel
    obtain ⟨g, rfl⟩ : ∃ g, gk = g + 1 := ⟨gk - 1, by omega⟩
    have k0 := hB.k0
    have k1 := hB.k1
    have f1 := hB.fz 1
    have HB := Lib.hid hB
    have HU := Lib.hid hbut
    clear hB hbut
    by_cases hlj : j < s.size
    · have hlj' : j < s.data.toList.length := by rw [hsz]; exact hlj
      have hdr : s.data.toList.drop j = s.data.toList[j] :: s.data.toList.drop (j + 1) := List.drop_eq_getElem_cons hlj'
      have hd : (s[j]'hlj).toNat = (s.data.toList[j]).toNat := rfl
      have hget : s.data.toList[j]? = some s.data.toList[j] := List.getElem?_eq_getElem hlj'
      obtain ⟨y, hy⟩ : ∃ y, s.data.toList[j] = y := ⟨_, rfl⟩
      rw [hy] at hdr hd hget
      rw [hdr, List.takeWhile_cons] at hrel
      obtain ⟨d, hdd⟩ : ∃ d, y.toNat = d := ⟨_, rfl⟩
      rw [hdd] at hd
      have hli2 : (j : Int) < (s.size : Int) := by omega
      by_cases h34 : d = 34
      · subst h34
        rw [rawB_false (.inl hdd)] at hrel
        simp only [Bool.false_eq_true, if_false, List.length_nil, Nat.add_zero] at hrel
        have HJ := Lib.hid hrel
        have hy34 : y = 34 := UInt8.toNat_inj.1 hdd
        rw [hy34] at hget
        have HG := Lib.hid hget
        clear hrel hget hy34 hdd hdr hy hlj'
        go_wp2_with fail
        go_quiet (fail)
        clear hd
        obtain ⟨wq, hwq⟩ : ∃ wq, wr.drewN nq = wq := ⟨_, rfl⟩
        have hBq : RB wq b s (j : Int) c nm kv 0 0 false := by rw [← hwq]; exact HB.out.drewN nq
        have hbq : But b w wq := by rw [← hwq]; exact but_trans HU.out (grown_drew' b wr nq)
        rw [hwq]
        clear k0 k1 f1 hwq hli2
        have k1 := hBq.k1
        have hwt := rwant_live hBq hj hs ⟨#[34]⟩ (by decide)
        have hw34 : pWant s.data.toList j (⟨#[34]⟩ : ByteArray).data.toList = if s.data.toList[j]? = some 34 then .ok () (j + 1) else .err j 3 := rfl
        rw [hw34, if_pos HG.out] at hwt
        have HWT := Lib.hid hwt
        have HBQ := Lib.hid hbq
        have hT : (s.extract i j).data.toList = rawT s.data.toList i := by
          have := extract_mid s i n
          rw [← HJ.out] at this
          rw [this]
          unfold rawT
          rw [HN.out]
        obtain ⟨T, hTT⟩ : ∃ T, rawT s.data.toList i = T := ⟨_, rfl⟩
        rw [hTT] at hT
        obtain ⟨S, hS⟩ : ∃ S, s.extract i j = S := ⟨_, rfl⟩
        rw [hS] at hT
        have HSX := Lib.hid hS
        have hTl : T.length ≤ s.size := by rw [← hTT]; unfold rawT; rw [List.length_take, List.length_drop, hsz]; omega
        have hSz : S.size ≤ 1000000 := by rw [Lib.size_eq, hT]; omega
        have HUN := Lib.hid (fun W => refUnescape_any S hSz W)
        rw [hT] at HUN
        have HP : Hid (R = match unesc T with
            | .error a => .err (i + a) 3
            | .ok v => if valE v = 0 then .ok v (j + 1) else .err i (valE v)) := Lib.hid (by
          have e : i + rawN s.data.toList i = j := by rw [HN.out]; exact HJ.out.symm
          rw [← HRR.out]
          unfold pVal
          rw [e, if_pos HG.out, hTT])
        have hijc : (i : Int) ≤ (j : Int) := by omega
        clear hwt hw34 hBq hbq hS hT hTT hSz
        go_wp2_with fail
        clear k1
        refine HWT.out.mono ?_
        rintro en w1 ⟨rfl, hb1, hB1, hj1⟩
        have k7 := hB1.k7
        have k0 := hB1.k0
        have HB1 := Lib.hid (And.intro (but_trans HBQ.out hb1) (And.intro hB1 hj1))
        clear hb1 hB1 hj1
        cases hu : unesc T with
        | error a =>
          have ha := unesc_err T.length T a (Nat.le_refl _) hu
          have hal : a ≤ 1000000 := by omega
          have HUN : Hid (∀ W, Calls Tryz.prog 37 #[.string S] W fun e w' => e = .returned (.tuple #[.string ⟨#[]⟩, .int .i64 (a : Int), .int .i64 3]) ∧ Below W.heap.size W w') := Lib.hid (fun W => by have := HUN.out W; rw [hu] at this; exact this)
          have HP : Hid (R = .err (i + a) 3) := Lib.hid (by rw [HP.out, hu])
          clear hu ha
          go_wp2_with fail
          rw [HSX.out]
          refine (HUN.out _).mono ?_
          rintro en w2 ⟨rfl, hb2⟩
          have HF := Lib.hid (fun (x y : Int) => rfail_live (HB1.out.2.1.below hb2) x y)
          have HB2 := Lib.hid (but_trans HB1.out.1 (but_below hb2))
          clear hb2 k7 k0
          go_wp2_with fail
          refine (HF.out _ _).mono ?_
          rintro en w3 ⟨rfl, hB3, hb3⟩
          have HB3 := Lib.hid (And.intro (but_trans HB2.out hb3) hB3)
          clear hb3 hB3
          go_wp2_with fail
          go_ret
          rw [HP.out]
          exact ⟨HB3.out.1, _, _, rfl, by exact_mod_cast HB3.out.2⟩
        | ok v =>
          have hvl := unesc_len T.length T v (Nat.le_refl _) hu
          have hvs : (⟨v.toArray⟩ : ByteArray).size ≤ 1000000 := by rw [Lib.size_mk]; omega
          have hval := fun W => refValue_all ⟨v.toArray⟩ hvs W
          have HUN : Hid (∀ W, Calls Tryz.prog 37 #[.string S] W fun e w' => e = .returned (.tuple #[.string ⟨v.toArray⟩, .int .i64 0, .int .i64 0]) ∧ Below W.heap.size W w') := Lib.hid (fun W => by have := HUN.out W; rw [hu] at this; exact this)
          have HP : Hid (R = if valE v = 0 then .ok v (j + 1) else .err i (valE v)) := Lib.hid (by rw [HP.out, hu])
          obtain ⟨V, hV⟩ : ∃ V : ByteArray, (⟨v.toArray⟩ : ByteArray) = V := ⟨_, rfl⟩
          have hVd : V.data.toList = v := by rw [← hV]
          rw [hV] at hval HUN
          rw [hVd] at hval
          have HVV := Lib.hid hV
          obtain ⟨E, hE⟩ : ∃ E, valE v = E := ⟨_, rfl⟩
          rw [hE] at hval
          have HVAL := Lib.hid hval
          have HEE := Lib.hid hE
          clear hu hvl hvs hval hV hVd hE
          by_cases h0 : E = 0
          · subst h0
            have HP : Hid (R = .ok v (j + 1)) := Lib.hid (by rw [HP.out, if_pos HEE.out])
            go_wp2_with fail
            rw [HSX.out]
            refine (HUN.out _).mono ?_
            rintro en w2 ⟨rfl, hb2⟩
            have HB2 := Lib.hid (And.intro (but_trans HB1.out.1 (but_below hb2)) (HB1.out.2.1.below hb2))
            clear hb2 k7 k0
            go_wp2_with fail
            refine (HVAL.out _).mono ?_
            rintro en w3 ⟨rfl, hb3⟩
            have HB3 := Lib.hid (And.intro (but_trans HB2.out.1 (but_below hb3)) (HB2.out.2.below hb3))
            clear hb3
            go_wp2_with fail
            go_ret
            rw [HP.out]
            exact ⟨HB3.out.1, by rw [HVV.out]; rfl, HB3.out.2, HB1.out.2.2⟩
          · have HP : Hid (R = .err i E) := Lib.hid (by rw [HP.out, HEE.out, if_neg h0])
            have e1 : ((E : Int) != 0) = true := by simp; omega
            have e2 : ((E : Int) == 0) = false := by simp; omega
            go_wp2_with fail
            rw [HSX.out]
            refine (HUN.out _).mono ?_
            rintro en w2 ⟨rfl, hb2⟩
            have HB2 := Lib.hid (And.intro (but_trans HB1.out.1 (but_below hb2)) (HB1.out.2.1.below hb2))
            clear hb2 k7 k0
            go_wp2_with fail
            refine (HVAL.out _).mono ?_
            rintro en w3 ⟨rfl, hb3⟩
            have HB3 := Lib.hid (And.intro (but_trans HB2.out.1 (but_below hb3)) (HB2.out.2.below hb3))
            have HF := Lib.hid (fun (x y : Int) => rfail_live (HB2.out.2.below hb3) x y)
            clear hb3
            go_wp2_with fail
            refine (HF.out _ _).mono ?_
            rintro en w4 ⟨rfl, hB4, hb4⟩
            have HB4 := Lib.hid (And.intro (but_trans HB3.out.1 hb4) hB4)
            clear hb4 hB4
            go_wp2_with fail
            go_ret
            rw [HP.out]
            exact ⟨HB4.out.1, _, _, rfl, HB4.out.2⟩
      · by_cases h60 : d = 60
        · subst h60
          rw [rawB_false (.inr (.inl hdd))] at hrel
          simp only [Bool.false_eq_true, if_false, List.length_nil, Nat.add_zero] at hrel
          have HJ := Lib.hid hrel
          have HG : Hid (¬ s.data.toList[j]? = some 34) := Lib.hid (by rw [hget]; intro e; rw [Option.some.inj e] at hdd; revert hdd; decide)
          clear hrel hget hdd hdr hy hlj'
          go_wp2_with fail
          go_quiet (fail)
          clear hd
          obtain ⟨wq, hwq⟩ : ∃ wq, wr.drewN nq = wq := ⟨_, rfl⟩
          have hBq : RB wq b s (j : Int) c nm kv 0 0 false := by rw [← hwq]; exact HB.out.drewN nq
          have hbq : But b w wq := by rw [← hwq]; exact but_trans HU.out (grown_drew' b wr nq)
          rw [hwq]
          clear k0 k1 f1 hwq hli2
          have k1 := hBq.k1
          have hwt := rwant_live hBq hj hs ⟨#[34]⟩ (by decide)
          have hw34 : pWant s.data.toList j (⟨#[34]⟩ : ByteArray).data.toList = if s.data.toList[j]? = some 34 then .ok () (j + 1) else .err j 3 := rfl
          rw [hw34, if_neg HG.out] at hwt
          have HWT := Lib.hid hwt
          have HBQ := Lib.hid hbq
          have HP : Hid (R = .err j 3) := Lib.hid (by
            have e : i + rawN s.data.toList i = j := by rw [HN.out]; exact HJ.out.symm
            rw [← HRR.out]
            unfold pVal
            rw [e, if_neg HG.out])
          clear hwt hw34 hBq hbq
          go_wp2_with fail
          clear k1
          refine HWT.out.mono ?_
          rintro en w1 ⟨rfl, hb1, j1, hB1⟩
          have k7 := hB1.k7
          have HB1 := Lib.hid (And.intro (but_trans HBQ.out hb1) hB1)
          clear hb1 hB1
          go_wp2_with fail
          go_ret
          rw [HP.out]
          exact ⟨HB1.out.1, _, _, rfl, HB1.out.2⟩
        · by_cases h62 : d = 62
          · subst h62
            rw [rawB_false (.inr (.inr hdd))] at hrel
            simp only [Bool.false_eq_true, if_false, List.length_nil, Nat.add_zero] at hrel
            have HJ := Lib.hid hrel
            have HG : Hid (¬ s.data.toList[j]? = some 34) := Lib.hid (by rw [hget]; intro e; rw [Option.some.inj e] at hdd; revert hdd; decide)
            clear hrel hget hdd hdr hy hlj'
            go_wp2_with fail
            go_quiet (fail)
            clear hd
            obtain ⟨wq, hwq⟩ : ∃ wq, wr.drewN nq = wq := ⟨_, rfl⟩
            have hBq : RB wq b s (j : Int) c nm kv 0 0 false := by rw [← hwq]; exact HB.out.drewN nq
            have hbq : But b w wq := by rw [← hwq]; exact but_trans HU.out (grown_drew' b wr nq)
            rw [hwq]
            clear k0 k1 f1 hwq hli2
            have k1 := hBq.k1
            have hwt := rwant_live hBq hj hs ⟨#[34]⟩ (by decide)
            have hw34 : pWant s.data.toList j (⟨#[34]⟩ : ByteArray).data.toList = if s.data.toList[j]? = some 34 then .ok () (j + 1) else .err j 3 := rfl
            rw [hw34, if_neg HG.out] at hwt
            have HWT := Lib.hid hwt
            have HBQ := Lib.hid hbq
            have HP : Hid (R = .err j 3) := Lib.hid (by
              have e : i + rawN s.data.toList i = j := by rw [HN.out]; exact HJ.out.symm
              rw [← HRR.out]
              unfold pVal
              rw [e, if_neg HG.out])
            clear hwt hw34 hBq hbq
            go_wp2_with fail
            clear k1
            refine HWT.out.mono ?_
            rintro en w1 ⟨rfl, hb1, j1, hB1⟩
            have k7 := hB1.k7
            have HB1 := Lib.hid (And.intro (but_trans HBQ.out hb1) hB1)
            clear hb1 hB1
            go_wp2_with fail
            go_ret
            rw [HP.out]
            exact ⟨HB1.out.1, _, _, rfl, HB1.out.2⟩
          · rw [rawB_true (by rw [hdd]; exact h34) (by rw [hdd]; exact h60) (by rw [hdd]; exact h62)] at hrel
            simp only [if_true, List.length_cons] at hrel
            have HJ := Lib.hid hrel
            have n1 : ((d : Int) != 34) = true := by simp; omega
            have n2 : ((d : Int) != 60) = true := by simp; omega
            have n3 : ((d : Int) != 62) = true := by simp; omega
            have m1 : ((d : Int) == 34) = false := by simp; omega
            have m2 : ((d : Int) == 60) = false := by simp; omega
            have m3 : ((d : Int) == 62) = false := by simp; omega
            clear hrel hget hdd hdr hy hlj'
            go_wp2_with fail
            go_quiet (fail)
            clear hd n1 n2 n3 m1 m2 m3
            have k1' : (wr.drewN nq).cell? ⟨b, 1, none⟩ = some (.int .i64 (j : Int)) := k1
            go_wp2_with fail
            go_roundg g
            case measure => omega
            case rel =>
              exact ⟨j + 1, by have := (HB.out.drewN nq).move ((j : Int) + 1); exact_mod_cast this, by omega, by omega, but_trans HU.out (but_trans (grown_drew' b wr nq) (but_set b 1 _ _)), by omega, by have := HJ.out; omega⟩
    · have hfin : s.data.toList.drop j = [] := List.drop_eq_nil_of_le (by rw [hsz]; omega)
      rw [hfin] at hrel
      simp only [List.takeWhile_nil, List.length_nil, Nat.add_zero] at hrel
      have HJ := Lib.hid hrel
      have HG : Hid (¬ s.data.toList[j]? = some 34) := Lib.hid (by rw [List.getElem?_eq_none (by rw [hsz]; omega)]; simp)
      have hli1 : decide ((j : Int) < (s.size : Int)) = false := decide_eq_false (by omega)
      have hli2 : ¬ (j : Int) < (s.size : Int) := by omega
      clear hfin hrel
      go_wp2_with fail
      go_quiet (fail)
      obtain ⟨wq, hwq⟩ : ∃ wq, wr.drewN nq = wq := ⟨_, rfl⟩
      have hBq : RB wq b s (j : Int) c nm kv 0 0 false := by rw [← hwq]; exact HB.out.drewN nq
      have hbq : But b w wq := by rw [← hwq]; exact but_trans HU.out (grown_drew' b wr nq)
      rw [hwq]
      clear k0 k1 f1 hwq hli2
      have k1 := hBq.k1
      have hwt := rwant_live hBq hj hs ⟨#[34]⟩ (by decide)
      have hw34 : pWant s.data.toList j (⟨#[34]⟩ : ByteArray).data.toList = if s.data.toList[j]? = some 34 then .ok () (j + 1) else .err j 3 := rfl
      rw [hw34, if_neg HG.out] at hwt
      have HWT := Lib.hid hwt
      have HBQ := Lib.hid hbq
      have HP : Hid (R = .err j 3) := Lib.hid (by
        have e : i + rawN s.data.toList i = j := by rw [HN.out]; exact HJ.out.symm
        rw [← HRR.out]
        unfold pVal
        rw [e, if_neg HG.out])
      clear hwt hw34 hBq hbq
      go_wp2_with fail
      clear k1
      refine HWT.out.mono ?_
      rintro en w1 ⟨rfl, hb1, j1, hB1⟩
      have k7 := hB1.k7
      have HB1 := Lib.hid (And.intro (but_trans HBQ.out hb1) hB1)
      clear hb1 hB1
      go_wp2_with fail
      go_ret
      rw [HP.out]
      exact ⟨HB1.out.1, _, _, rfl, HB1.out.2⟩
end Go.Proofs.YtjablaidbccnbaaGreatDoor
