/-
  WALKS over package markup, sixth part: Unescape.
-/
import Derived.Test.YtjablaidbccnbaaGreatDoorMkE
namespace Go.Proofs.YtjablaidbccnbaaGreatDoor
open Go.RowKit Go.Shelf Go.Lib

def unV : Except Nat Bs → Value
  | .ok t => .tuple #[.string ⟨t.toArray⟩, .int .i64 0, .int .i64 0]
  | .error a => .tuple #[.string ⟨#[]⟩, .int .i64 (a : Int), .int .i64 3]

/-- What one round knows. -/
theorem round_split {L P : Bs} {k : Nat} (h : unesc L = behind P k (unesc (L.drop k))) (hk : k ≤ L.length) :
    k + (upto 38 (L.drop k)).length ≤ L.length ∧
    (38 ∉ L.drop k → unesc L = .ok (P ++ upto 38 (L.drop k))) ∧
    (38 ∈ L.drop k → (lead (L.drop (k + (upto 38 (L.drop k)).length)) = none → unesc L = .error (k + (upto 38 (L.drop k)).length)) ∧
      ∀ x n, lead (L.drop (k + (upto 38 (L.drop k)).length)) = some (x, n) → n ≠ 0 ∧ k + (upto 38 (L.drop k)).length + n ≤ L.length ∧ x.length ≤ n ∧
        unesc L = behind (P ++ upto 38 (L.drop k) ++ x) (k + (upto 38 (L.drop k)).length + n) (unesc (L.drop (k + (upto 38 (L.drop k)).length + n)))) := by
  have hul := upto_le 38 (L.drop k)
  rw [List.length_drop] at hul
  have hr := unesc_run (L.drop k)
  rw [List.drop_drop] at hr
  rw [hr, behind_behind] at h
  refine ⟨by omega, fun hn => ?_, fun hm => ?_⟩
  · rcases upto_drop 38 (L.drop k) with ⟨hm, _⟩ | ⟨_, hd⟩
    · exact absurd hm hn
    · rw [List.drop_drop] at hd
      rw [hd, unesc_nil] at h
      simpa [behind] using h
  · rcases upto_drop 38 (L.drop k) with ⟨_, r, hd⟩ | ⟨hn, _⟩
    · rw [List.drop_drop] at hd
      have hh : (L.drop (k + (upto 38 (L.drop k)).length)).head? = some 38 := by rw [hd]; rfl
      refine ⟨fun hl => ?_, fun x n hl => ?_⟩
      · rw [unesc_bad hh hl] at h
        simpa [behind] using h
      · obtain ⟨h1, h2, h3⟩ := lead_len hl
        rw [List.length_drop] at h2
        rw [unesc_lead hh hl, behind_behind, List.drop_drop] at h
        exact ⟨by omega, by omega, by omega, h⟩
    · exact absurd hm hn

set_option maxRecDepth 100000 in
set_option maxHeartbeats 2000000 in
theorem unescape_any (s : ByteArray) (hs : s.size ≤ 1000000) (w : World) (hM : Mem w) :
    Calls Tryz.prog 64 #[.string s] w fun e w' => e = .returned (unV (unesc s.data.toList)) ∧ Below w.heap.size w w' := by
  have hsl : s.size = s.data.toList.length := Lib.size_eq s
  obtain ⟨L, hL⟩ : ∃ L, s.data.toList = L := ⟨_, rfl⟩
  have hexs : ∀ k : Nat, s.extract k s.size = ⟨(L.drop k).toArray⟩ := fun k => by rw [Lib.extract_from, hL]
  rw [hL] at hsl ⊢
  have HX := Lib.hid hexs
  have HSL := Lib.hid hsl
  have HM := Lib.hid hM
  clear hexs hL hM hsl
  go_enter Tryz.func64, Tryz.ntmps64
  go_wp2_with fail
  have hb0 := Lib.hid (And.intro (bd_new w) ((Below.refl _ w).alloc (Nat.le_refl _) (Obj.cells #[Value.pointer none, Value.slice none 0 0] 60)))
  go_loopw [6] (fun i wr => ∃ (k : Nat) (P : Bs), k ≤ s.size ∧ i = .int .i64 k ∧ P.length ≤ k ∧ Bd w.heap.size P wr ∧ Below w.heap.size w wr ∧ unesc L = behind P k (unesc (L.drop k))) (fun i _ => s.size - (Go.RowKit.intOf i).toNat)
  case atStart => exact ⟨0, [], Nat.zero_le _, rfl, Nat.le_refl _, hb0.out.1, hb0.out.2, by simp only [List.drop_zero]; cases unesc L <;> rfl⟩
  case round =>
    obtain ⟨k, P, hk, rfl, hPk, bd, hb, hrel⟩ := hrel
    obtain ⟨r1, r2, r3⟩ := round_split hrel (by rw [← HSL.out]; exact hk)
    obtain ⟨R, hex⟩ : ∃ R, s.extract k s.size = R := ⟨_, rfl⟩
    have hR : R = ⟨(L.drop k).toArray⟩ := by rw [← hex, HX.out]
    have hC := cut_any R (by rw [hR, Lib.size_mk, List.length_drop, ← HSL.out]; omega) 38 wr
    have hdl : R.data.toList = L.drop k := by rw [hR]
    rw [hdl] at hC
    obtain ⟨U, hU⟩ : ∃ U, upto 38 (L.drop k) = U := ⟨_, rfl⟩
    obtain ⟨fb, hfb⟩ : ∃ b, decide (38 ∈ L.drop k) = b := ⟨_, rfl⟩
    rw [hU] at r1 r2 r3 hC
    rw [hfb] at hC
    rw [← HSL.out] at r1
    obtain ⟨u, hu⟩ : ∃ u, U.length = u := ⟨_, rfl⟩
    have hus : (⟨U.toArray⟩ : ByteArray).size = u := by rw [Lib.size_mk, hu]
    have HCC := Lib.hid hC
    have HUU := Lib.hid hu
    have hw1 := fun (w1 : World) (hb1 : Below wr.heap.size wr w1) => write_bd (bd_below bd hb1) U (by omega)
    obtain ⟨US, hUS⟩ : ∃ S : ByteArray, (⟨U.toArray⟩ : ByteArray) = S := ⟨_, rfl⟩
    rw [hUS] at hus HCC
    simp only [hUS] at hw1
    have HW := Lib.hid hw1
    have HB := Lib.hid hb
    have HMr := Lib.hid (HM.out.below hb (Nat.le_refl _))
    rw [hu] at r1 r3
    clear hC hw1 bd hb hdl hU hUS hu hrel hR
    cases fb with
    | false =>
      have hfin := r2 (by simpa using hfb)
      have HF := Lib.hid hfin
      clear r2 r3 hfb hfin
      go_wp2_with fail
      refine HCC.out.mono ?_
      rintro e w1 ⟨⟨v1, rfl⟩, hb1⟩
      have HB1 := Lib.hid hb1
      have HW1 := Lib.hid (HW.out w1 hb1)
      clear hb1
      go_wp2_with fail
      refine HW1.out.mono ?_
      rintro e w2 ⟨rfl, bd2, hb2, _⟩
      have HB2 := Lib.hid ((HB.out.trans (HB1.out.mono HB.out.size)).trans hb2)
      have HS := Lib.hid (string_any w.heap.size w.heap.size (P ++ U) w2 bd2 (by have := HB2.out.size; omega))
      clear bd2 hb2
      go_wp2_with fail
      refine HS.out.mono ?_
      rintro e w3 ⟨rfl, _, hb3, _⟩
      have HB3 := Lib.hid (HB2.out.trans hb3)
      clear hb3
      go_wp2_with fail
      go_ret3
      exact ⟨by rw [HF.out]; rfl, HB3.out⟩
    | true =>
      obtain ⟨r4, r5⟩ := r3 (by simpa using hfb)
      obtain ⟨R2, hex2⟩ : ∃ R, s.extract (k + u) s.size = R := ⟨_, rfl⟩
      have hR2 : R2 = ⟨(L.drop (k + u)).toArray⟩ := by rw [← hex2, HX.out]
      have hk2 := fun (W : World) (hW : Mem W) => leading_any R2 (by rw [hR2, Lib.size_mk, List.length_drop, ← HSL.out]; omega) W hW
      have hdl2 : R2.data.toList = L.drop (k + u) := by rw [hR2]
      rw [hdl2] at hk2
      obtain ⟨V, hV⟩ : ∃ V, lead (L.drop (k + u)) = V := ⟨_, rfl⟩
      rw [hV] at r4 r5 hk2
      cases V with
      | none =>
        have HF := Lib.hid (r4 rfl)
        simp only [leadV] at hk2
        have HK := Lib.hid hk2
        clear r2 r3 r4 r5 hfb hk2 hdl2 hV hR2
        go_wp2_with fail
        refine HCC.out.mono ?_
        rintro e w1 ⟨⟨v1, rfl⟩, hb1⟩
        have HB1 := Lib.hid hb1
        have HW1 := Lib.hid (HW.out w1 hb1)
        clear hb1
        go_wp2_with fail
        refine HW1.out.mono ?_
        rintro e w2 ⟨rfl, bd2, hb2, _⟩
        have HB2 := Lib.hid ((HB.out.trans (HB1.out.mono HB.out.size)).trans hb2)
        clear bd2 hb2
        go_wp2_with fail
        refine (HK.out _ (HM.out.below HB2.out (Nat.le_refl _))).mono ?_
        rintro e w3 ⟨rfl, hb3⟩
        have HB3 := Lib.hid (HB2.out.trans (hb3.mono HB2.out.size))
        clear hb3
        go_wp2_with fail
        go_ret3
        exact ⟨by rw [HF.out]; simp [unV], HB3.out⟩
      | some q =>
        obtain ⟨x, n⟩ := q
        obtain ⟨q1, q2, q3, q4⟩ := r5 x n rfl
        rw [← HSL.out] at q2
        simp only [leadV] at hk2
        have hn0 : ((n : Int) == 0) = false := by simp; omega
        have HK := Lib.hid hk2
        have HF := Lib.hid (And.intro q3 q4)
        clear r2 r3 r4 r5 hfb hk2 hdl2 hV hR2 q3 q4
        go_wp2_with fail
        refine HCC.out.mono ?_
        rintro e w1 ⟨⟨v1, rfl⟩, hb1⟩
        have HB1 := Lib.hid hb1
        have HW1 := Lib.hid (HW.out w1 hb1)
        clear hb1
        go_wp2_with fail
        refine HW1.out.mono ?_
        rintro e w2 ⟨rfl, bd2, hb2, _⟩
        have HB2 := Lib.hid ((HB.out.trans (HB1.out.mono HB.out.size)).trans hb2)
        have HD2 := Lib.hid bd2
        clear bd2 hb2
        go_wp2_with fail
        refine (HK.out _ (HM.out.below HB2.out (Nat.le_refl _))).mono ?_
        rintro e w3 ⟨rfl, hb3⟩
        have HB3 := Lib.hid (HB2.out.trans (hb3.mono HB2.out.size))
        have HW3 := Lib.hid (write_bd (bd_below HD2.out hb3) x (by rw [List.length_append, HUU.out]; have := HF.out.1; omega))
        clear hb3
        go_wp2_with fail
        refine HW3.out.mono ?_
        rintro e w4 ⟨rfl, bd4, hb4, _⟩
        have HB4 := Lib.hid (And.intro bd4 (HB3.out.trans hb4))
        clear bd4 hb4
        go_wp2_with fail
        go_round
        case rel => exact ⟨k + u + n, P ++ U ++ x, by omega, by go_num, by rw [List.length_append, List.length_append, HUU.out]; have := HF.out.1; omega, HB4.out.1, HB4.out.2, HF.out.2⟩
        case measure => simp [Go.RowKit.intOf]; omega
end Go.Proofs.YtjablaidbccnbaaGreatDoor
