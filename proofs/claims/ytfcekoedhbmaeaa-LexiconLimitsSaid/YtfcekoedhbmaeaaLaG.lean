/-
  LexiconLimits is proved: for every number and every number the call of the law returns true, and each argument reads afterwards as it read before. It has no condition.
-/
import Derived.Test.YtfcekoedhbmaeaaRows
import Derived.Test.YtfcekoedhbmaeaaLzO
import Derived.Test.YtfcekoedhbmaeaaLzP
import Derived.Test.YtfcekoedhbmaeaaLxL
import Derived.Test.YtfcekoedhbmaeaaLzT
import Derived.Test.YtfcekoedhbmaeaaLyL
import Derived.ProofKit
import Derived.OpenShut
import Derived.Carry
namespace Go.Proofs.Ytfcekoedhbmaeaa.lexiconLimits
open Go.ChangeShapes Go.WideShapes Go.ChangeAt Go.RowKit Go.Shelf Go.Lib
set_option linter.unusedVariables false

/-- append of one string to a row of the call's own. -/
theorem wpList_pushS {w : World} {ops : Array Oper} {rest : List Oper} {o : Oper} {a : Act} {Q : Exit → Act → World → Prop} (hgd : o.guard = none) (s x : Operand)
    (ho : o.op = .call { callee := .builtin .append, args := #[s, x], argTypes := #[22, 22] })
    (base : Nat) (v : Value) (n : Nat) (l : List Value) (p : ByteArray) (hs : a.eval s = v) (hx : a.eval x = .slice (some ⟨w.heap.size, 0, none⟩) 1 1)
    (hown : w.ownsRow base 9 1 v n l) (hn : n ≤ 1000000) (hbase : base ≤ w.heap.size)
    (h : ∀ v' w', Hid (w'.ownsRow base 9 1 v' (n + 1) (l ++ [.string p])) → Hid (∀ B W, Below B W w → B ≤ base → Below B W w') → wpList Try.prog ops Q rest (a.put o.dst v') w') :
    wpList Try.prog ops Q (o :: rest) a (w.alloc (.cells #[.string p] 9)) := by
  obtain ⟨i0, hi, hz0, hz1, hz2⟩ := info_parts' Try.infoStr2
  refine wpList_append_own _ hgd s x 22 ho base 9 i0 _ 1 16 Try.underlying22 hi hz0 hz1 hz2 rfl (by decide) v n _ hs (hown.alloc _) _ 1 1 [.string p] hx rfl (news_at w [.string p] 9) (by simp [Value.oneCell']) (by unfold maxLen; omega) (by omega) (by simp; omega) ?_
  intro v' w' h1 h2 _
  have hlow := own_low hown
  refine h v' w' (Lib.hid h1) (Lib.hid fun B W hb hB => ?_)
  exact (hb.alloc (Nat.le_trans hB hbase) _).grown h2 (by simp; omega) (fun k e => Nat.le_trans hB (hlow k e).1)
/-- The law's list under way. -/
structure OwnL (w wr : World) (N : Nat) (v : Value) (l : List Wd) : Prop where
  own : wr.ownsRow N 9 1 v l.length (sv l)
  below : Below w.heap.size w wr
set_option maxRecDepth 100000 in
set_option maxHeartbeats 8000000 in
theorem walk {w : World} (a : Int) (ha1 : -9223372036854775808 ≤ a) (ha2 : a ≤ 9223372036854775807) (b : Int) (hb1 : -9223372036854775808 ≤ b) (hb2 : b ≤ 9223372036854775807) :
    Calls Try.prog 4 #[.int .i64 a, .int .i64 b] w fun e w1 => e = .returned (.bool true) ∧ Below w.heap.size w w1 := by
  have HA := Lib.hid (fun (W : World) => awake_any W)
  by_cases h1 : a < 0
  · go_enter Try.func4, Try.ntmps4
    go_wp2_with fail
    go_ret
    exact ⟨rfl, Below.refl _ _⟩
  · by_cases h2 : 1025 < a
    · go_enter Try.func4, Try.ntmps4
      go_wp2_with fail
      go_ret
      exact ⟨rfl, Below.refl _ _⟩
    · by_cases h3 : b < 0
      · go_enter Try.func4, Try.ntmps4
        go_wp2_with fail
        go_ret
        exact ⟨rfl, Below.refl _ _⟩
      · by_cases h4 : 4097 < b
        · go_enter Try.func4, Try.ntmps4
          go_wp2_with fail
          go_ret
          exact ⟨rfl, Below.refl _ _⟩
        · have hsum : IntKind.i64.wrap (a + b) = a + b := by rw [IntKind.wrap_i64]; omega
          by_cases h5 : 4097 < a + b
          · go_enter Try.func4, Try.ntmps4
            go_wp2_with fail
            go_ret
            exact ⟨rfl, Below.refl _ _⟩
          · obtain ⟨A, rfl⟩ := Int.eq_ofNat_of_zero_le (show 0 ≤ a by omega)
            obtain ⟨B, rfl⟩ := Int.eq_ofNat_of_zero_le (show 0 ≤ b by omega)
            obtain ⟨T, hT⟩ : ∃ T, A + B = T := ⟨_, rfl⟩
            have hadd : IntKind.i64.wrap ((A : Int) + (B : Int)) = (T : Int) := by rw [hsum]; omega
            have hT4 : T ≤ 4097 := by omega
            have hA4 : A ≤ 1025 := by omega
            have hTI : ¬ (4097 : Int) < (T : Int) := by omega
            have HT := Lib.hid hT
            obtain ⟨N, hN⟩ : ∃ N, w.heap.size = N := ⟨_, rfl⟩
            have HN := Lib.hid hN
            have HST0 := Lib.hid (show OwnL w w N (.slice none 0 0) (limL A 0) from ⟨World.ownsRow_nil _ _ _ _, Below.refl _ _⟩)
            clear hsum h5 hT hN
            go_enter Try.func4, Try.ntmps4
            go_wp2_with fail
            go_loopg [5, 6] T (fun gg av sv' wr => ∃ (k : Nat) (v : Value), k ≤ T ∧ T - k ≤ gg ∧ v = av ∧ sv' = .int .i64 k ∧ Hid (OwnL w wr N v (limL A k)))
            case atStart => exact ⟨0, _, Nat.zero_le _, Nat.le_refl _, rfl, rfl, HST0⟩
            case round =>
              clear HST0
              obtain ⟨k, v, hkT, hkg, rfl, rfl, HR⟩ := hrel
              by_cases hlt : k < T
              · have hlti : (k : Int) < (T : Int) := by omega
                have HNB := Lib.hid (show N ≤ wr.heap.size by rw [← HN.out]; exact HR.out.below.size)
                have hown := HR.out.own
                rw [limL_len] at hown
                have HOWN := Lib.hid hown
                have hal : k ≤ 1000000 := by omega
                have HBB := Lib.hid HR.out.below
                have HJ := Lib.hid (And.intro hlt hkg)
                by_cases hge : A ≤ k
                · have hgeI : (A : Int) ≤ (k : Int) := by omega
                  clear hown HR hlt hkg
                  go_wp2_with (at_builtin; refine wpList_pushS rfl (.tmp 42) (.tmp 61) rfl N v k _ _ rfl rfl HOWN.out hal HNB.out ?_; intro v' w4 ho hg)
                  have HNX := Lib.hid (show OwnL w w4 N v' (limL A (k + 1)) from ⟨by
                    have := ho.out
                    rw [wd_zero] at this
                    rw [limL_len, limL_succ, show idx A k = 0 from if_pos hge]
                    simpa [sv] using this, hg.out _ _ HBB.out (by rw [HN.out]; exact Nat.le_refl _)⟩)
                  clear ho hg
                  go_wp2_with fail
                  go_roundg (T - (k + 1))
                  case measure => have := HJ.out; omega
                  case rel => exact ⟨k + 1, v', by have := HJ.out; omega, Nat.le_refl _, rfl, by go_num, HNX⟩
                · have hgeI : ¬ (A : Int) ≤ (k : Int) := by omega
                  have hk25 : k < 1025 := by omega
                  have hr : (k : Int).tmod 16 = ((k % 16 : Nat) : Int) := (Int.ofNat_tmod _ _).symm
                  have hq : (k : Int).tdiv 16 = ((k / 16 : Nat) : Int) := (Int.ofNat_tdiv _ _).symm
                  have hr' : ((k / 16 : Nat) : Int).tmod 16 = ((k / 16 % 16 : Nat) : Int) := (Int.ofNat_tmod _ _).symm
                  have hq' : (k : Int).tdiv 256 = ((k / 256 : Nat) : Int) := (Int.ofNat_tdiv _ _).symm
                  obtain ⟨r1, hr1⟩ : ∃ r, k % 16 = r := ⟨_, rfl⟩
                  obtain ⟨e1, he1⟩ : ∃ r, k / 16 = r := ⟨_, rfl⟩
                  obtain ⟨r2, hr2⟩ : ∃ r, e1 % 16 = r := ⟨_, rfl⟩
                  obtain ⟨e2, he2⟩ : ∃ r, k / 256 = r := ⟨_, rfl⟩
                  rw [hr1] at hr
                  rw [he1] at hq
                  rw [he1, hr2] at hr'
                  rw [he2] at hq'
                  have hstr := wd_lit k r1 e1 r2 e2 hr1 he1 hr2 he2 hk25
                  have l1 : r1 < 16 := by omega
                  have l2 : r2 < 16 := by omega
                  have l3 : e2 < 5 := by omega
                  have l4 : e1 < 80 := by omega
                  have c1 := enc_lit r1 (by omega)
                  have c2 := enc_lit r2 (by omega)
                  have c3 := enc_lit e2 (by omega)
                  clear hr1 he1 hr2 he2 hk25
                  have b1 : IntKind.i64.wrap (97 + (r1 : Int)) = 97 + (r1 : Int) := by rw [IntKind.wrap_i64]; omega
                  have b2 : IntKind.i64.wrap (97 + (r2 : Int)) = 97 + (r2 : Int) := by rw [IntKind.wrap_i64]; omega
                  have b3 : IntKind.i64.wrap (97 + (e2 : Int)) = 97 + (e2 : Int) := by rw [IntKind.wrap_i64]; omega
                  have i1 : IntKind.i32.wrap (97 + (r1 : Int)) = 97 + (r1 : Int) := by rw [IntKind.wrap_i32]; omega
                  have i2 : IntKind.i32.wrap (97 + (r2 : Int)) = 97 + (r2 : Int) := by rw [IntKind.wrap_i32]; omega
                  have i3 : IntKind.i32.wrap (97 + (e2 : Int)) = 97 + (e2 : Int) := by rw [IntKind.wrap_i32]; omega
                  have q1 : wrap64 (r1 : Int) = (r1 : Int) := by unfold wrap64; omega
                  have q2 : wrap64 (r2 : Int) = (r2 : Int) := by unfold wrap64; omega
                  have q3 : wrap64 (e1 : Int) = (e1 : Int) := by unfold wrap64; omega
                  have q4 : wrap64 (e2 : Int) = (e2 : Int) := by unfold wrap64; omega
                  obtain ⟨B1, hB1⟩ : ∃ y : ByteArray, y = ⟨#[UInt8.ofNat (97 + r1)]⟩ := ⟨_, rfl⟩
                  obtain ⟨B2, hB2⟩ : ∃ y : ByteArray, y = ⟨#[UInt8.ofNat (97 + r2)]⟩ := ⟨_, rfl⟩
                  obtain ⟨B3, hB3⟩ : ∃ y : ByteArray, y = ⟨#[UInt8.ofNat (97 + e2)]⟩ := ⟨_, rfl⟩
                  have n1 : B1.size = 1 := by rw [hB1]; rfl
                  have n2 : B2.size = 1 := by rw [hB2]; rfl
                  have n3 : B3.size = 1 := by rw [hB3]; rfl
                  rw [← hB1] at c1
                  rw [← hB2] at c2
                  rw [← hB3] at c3
                  rw [← hB1, ← hB2, ← hB3] at hstr
                  have z1 : ¬ (9223372036854775807 < B1.size + B2.size) := by omega
                  have n12 : (B1 ++ B2).size = 2 := by rw [ByteArray.size_append]; omega
                  have z2 : ¬ (9223372036854775807 < (B1 ++ B2).size + B3.size) := by omega
                  have z3 : ¬ (9223372036854775807 < B1.size + B2.size + B3.size) := by omega
                  have HSTR := Lib.hid hstr
                  have HIDX := Lib.hid (show idx A k = k from if_neg hge)
                  clear hstr hB1 hB2 hB3 n12 hown HR hlt hkg h1 h2 h3 h4 ha1 ha2 hb1 hb2 hT4 hTI n1 n2 n3 l1 l2 l3 l4 hge hA4
                  go_wp2_with (at_builtin; refine wpList_pushS rfl (.tmp 42) (.tmp 61) rfl N v k _ _ rfl rfl HOWN.out hal HNB.out ?_; intro v' w4 ho hg)
                  have HNX := Lib.hid (show OwnL w w4 N v' (limL A (k + 1)) from ⟨by
                    have := ho.out
                    rw [HSTR.out] at this
                    rw [limL_len, limL_succ, HIDX.out]
                    simpa [sv] using this, hg.out _ _ HBB.out (by rw [HN.out]; exact Nat.le_refl _)⟩)
                  clear ho hg
                  go_wp2_with fail
                  go_roundg (T - (k + 1))
                  case measure => have := HJ.out; omega
                  case rel => exact ⟨k + 1, v', by have := HJ.out; omega, Nat.le_refl _, rfl, by go_num, HNX⟩
              · obtain rfl : k = T := by omega
                have hlti : ¬ (k : Int) < (k : Int) := by omega
                have hbu := build_any (rows_sv HR.out.own) (by rw [limL_len]; unfold maxLen; omega) (fun x hx => by
                  unfold limL at hx
                  obtain ⟨i, _, rfl⟩ := List.mem_map.1 hx
                  simp [wd, maxLen])
                obtain ⟨A5, c5, hv5, -, -⟩ := own_form' HR.out.own
                rw [limL_len] at hv5
                subst hv5
                have hlim := lim_err A B hA4 (by rw [HT.out]; exact hT4)
                have hlen := lex_lim A B hA4
                rw [HT.out] at hlim hlen
                have HBU := Lib.hid hbu
                have HBB := Lib.hid HR.out.below
                have HLIM := Lib.hid hlim
                have HLEN := Lib.hid hlen
                clear hbu hlim hlen HR hlt hkg
                go_wp2_with fail
                refine HBU.out.mono ?_
                rintro e w3 ⟨hb3, hans⟩
                have HB3 := Lib.hid (HBB.out.trans (hb3.mono HBB.out.size))
                by_cases hbig : 4096 < k ∨ 1024 < A
                · have hz : buildE (limL A k) = 2 := by rw [HLIM.out, if_pos hbig]
                  rcases hans with ⟨_, rfl⟩ | ⟨h0, _⟩
                  · rw [hz]
                    clear hb3 hz HBU
                    by_cases hk4 : 4096 < k
                    · have hkI : (4096 : Int) < (k : Int) := by omega
                      go_wp2_with fail
                      refine (HA.out w3).mono ?_
                      rintro e w4 ⟨rfl, hb4⟩
                      have HB4 := Lib.hid (HB3.out.trans (hb4.mono HB3.out.size))
                      clear hb4
                      go_wp2_with fail
                      go_ret
                      exact ⟨rfl, HB4.out⟩
                    · have hkI : ¬ (4096 : Int) < (k : Int) := by omega
                      have hAI : (1024 : Int) < (A : Int) := by omega
                      go_wp2_with fail
                      refine (HA.out w3).mono ?_
                      rintro e w4 ⟨rfl, hb4⟩
                      have HB4 := Lib.hid (HB3.out.trans (hb4.mono HB3.out.size))
                      clear hb4
                      go_wp2_with fail
                      go_ret
                      exact ⟨rfl, HB4.out⟩
                  · exact absurd (hz.symm.trans h0) (by decide)
                · have hz : buildE (limL A k) = 0 := by rw [HLIM.out, if_neg hbig]
                  rcases hans with ⟨hne, _⟩ | ⟨_, p, v5, rfl, hL, hr5⟩
                  · exact absurd hz hne
                  · have hsz := size_any hL
                    rw [HLEN.out] at hsz
                    obtain ⟨A6, c6, rfl, -⟩ := hr5.form
                    have hil : (intsN (numW (limL A k))).length = k := by rw [List.length_map, show (numW (limL A k)).length = (limL A k).length by simp [numW], limL_len]
                    rw [hil]
                    have hkI : ¬ (4096 : Int) < (k : Int) := by omega
                    have hAI : ¬ (1024 : Int) < (A : Int) := by omega
                    clear hb3 hz HBU hL hr5 hil hbig
                    by_cases hA0 : A = 0
                    · by_cases hB0 : B = 0
                      · have hd : diffN A B = A := by rw [hA0, hB0]; rfl
                        rw [hd] at hsz
                        have HSZ := Lib.hid hsz
                        clear hsz hd
                        go_wp2_with fail
                        refine HSZ.out.mono ?_
                        rintro e w4 ⟨rfl, rfl⟩
                        go_wp2_with fail
                        refine (HA.out _).mono ?_
                        rintro e w5 ⟨rfl, hb5⟩
                        have HB5 := Lib.hid (HB3.out.trans (hb5.mono HB3.out.size))
                        clear hb5
                        go_wp2_with fail
                        go_ret
                        exact ⟨rfl, HB5.out⟩
                      · have hd : diffN A B = 1 := by unfold diffN; rw [if_pos hA0, if_neg hB0]
                        rw [hd] at hsz
                        have HSZ := Lib.hid hsz
                        subst hA0
                        have hBI : (0 : Int) < (B : Int) := by omega
                        have hBD : decide (0 < B) = true := decide_eq_true (by omega)
                        clear hsz hd
                        go_wp2_with fail
                        refine HSZ.out.mono ?_
                        rintro e w4 ⟨rfl, rfl⟩
                        go_wp2_with fail
                        refine HSZ.out.mono ?_
                        rintro e w4 ⟨rfl, rfl⟩
                        go_wp2_with fail
                        refine (HA.out _).mono ?_
                        rintro e w5 ⟨rfl, hb5⟩
                        have HB5 := Lib.hid (HB3.out.trans (hb5.mono HB3.out.size))
                        clear hb5
                        go_wp2_with fail
                        go_ret
                        exact ⟨rfl, HB5.out⟩
                    · have hd : diffN A B = A := by unfold diffN; rw [if_neg hA0]
                      rw [hd] at hsz
                      have HSZ := Lib.hid hsz
                      clear hsz hd
                      go_wp2_with fail
                      refine HSZ.out.mono ?_
                      rintro e w4 ⟨rfl, rfl⟩
                      go_wp2_with fail
                      refine (HA.out _).mono ?_
                      rintro e w5 ⟨rfl, hb5⟩
                      have HB5 := Lib.hid (HB3.out.trans (hb5.mono HB3.out.size))
                      clear hb5
                      go_wp2_with fail
                      go_ret
                      exact ⟨rfl, HB5.out⟩

theorem own : ownKnob Try.prog.godebug = none := by kernel_rfl

set_option maxRecDepth 100000 in
theorem lifted (os : Os) (started : os.Started) (H : Type) (enc : TypeId × Value → H) :
    ReturnsInHanded {} Try.checked os 4 .any (Rows.lexiconLimitsSpec.pre6 enc Try.prog Try.f4 Rows.lexiconLimitsRow.domain false) (Rows.lexiconLimitsSpec.post enc Try.prog Try.f4 false true false false) := by
  refine returnsInHanded_of_change (C := Try.checked) own started (by kernel_rfl) Try.func4
    (ChangeSpec.witness6 (enc := enc) (C := Try.checked) false ⟨#[], #[.int .i64 0, .int .i64 0], []⟩ 8 (by kernel_rfl) (by kernel_rfl) (by kernel_rfl) (by kernel_rfl)) ?_
  intro W base args ds gs before hval0 hW hcnd _
  have hval : ∀ (j : Nat) t v, Try.f4.params[j]? = some t → args[j]? = some v → Value.okWide Try.prog W .any base t v := hval0
  have hW' := hW
  have hplt : ∀ x ∈ before, x.block < W.heap.size := fun x hx => hW.lt x hx
  obtain ⟨p, q, hA0, hV, rfl, hfz, hnd⟩ := hW
  have hA : DataW.TrodAll enc Try.prog W 0 (fun _ => true) true Try.f4.params.toList args.toList ds p := hA0
  rw [Try.params4] at hA hval
  obtain ⟨v0, vs0, d0, ds0, p0, q0, hargs, rfl, rfl, h0, r0⟩ := trodAll_cons hA
  obtain ⟨v1, vs1, d1, ds1, p1, q1, rfl, rfl, rfl, h1, r1⟩ := trodAll_cons r0
  obtain ⟨rfl, rfl, rfl⟩ := trodAll_nil r1
  obtain rfl : args = #[v0, v1] := by cases args; simp_all
  obtain ⟨rfl, rfl⟩ := trodVars_none hV
  obtain ⟨x0, rfl, m0, n0⟩ := open_i64 (hval 0 3 v0 rfl rfl) h0
  obtain ⟨x1, rfl, m1, n1⟩ := open_i64 (hval 1 3 v1 rfl rfl) h1
  clear hA0 hval0
  refine (walk x0 m0 n0 x1 m1 n1).mono fun e W' ⟨he, bel⟩ => ?_
  subst he
  exact ⟨_, rfl, _, _, _, [], _, [], hW', trodAll_mk1 (shut_bool Try.underlying4 _), (trodAll_cons_mk (Below.trod Try.laidOut (by kernel_rfl) (of_decide_eq_true (by kernel_rfl)) h0 bel (fun x hx => hplt x (by simp [hx]))) (trodAll_cons_mk (Below.trod Try.laidOut (by kernel_rfl) (of_decide_eq_true (by kernel_rfl)) h1 bel (fun x hx => hplt x (by simp [hx]))) trodAll_mk0)), rfl, World.keptBut_mono (fun x hx => ⟨hx, Or.inr (by simpa using hx)⟩) (bel.frame (· ∈ _)), fun h => by cases h⟩

theorem over : Rows.lexiconLimitsRow.holds Try.pinned (OpenSpec.ofChange Rows.lexiconLimitsSpec) :=
  OpenClaim.holds_of_wide 4 Try.f4 rfl rfl rfl rfl rfl rfl rfl ⟨rfl, rfl, rfl, rfl, rfl⟩ rfl rfl rfl rfl rfl (by kernel_rfl) Try.func4 (by kernel_rfl)
    (of_decide_eq_true (by kernel_rfl)) (by unfold Func.isWrapper; first | (rw [if_pos (by decide +kernel)]; kernel_rfl) | (rw [if_neg (by decide +kernel)]; exact ⟨rfl, rfl⟩))
    (fun os started H enc _ => lifted os started H enc)

/-- THE STATEMENT. -/
theorem proved : Rows.LexiconLimitsSaid := over
end Go.Proofs.Ytfcekoedhbmaeaa.lexiconLimits
