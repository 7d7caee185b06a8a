/-
  WALK over the reference of stab: Decode.
-/
import Derived.Test.YtifdencdbpdbfaaDoorZdE
import Derived.Test.YtifdencdbpdbfaaDoorBiG
import Derived.Test.YtifdencdbpdbfaaDoorZaA
namespace Go.Proofs.YtifdencdbpdbfaaDoor
open Go.RowKit Go.Shelf Go.Lib
set_option linter.unusedVariables false
set_option linter.unusedSimpArgs false

theorem sliceB_from (A : Option Addr) (n cap k : Nat) (hk : k ≤ n) (w : World) : (Instr.slice 29 (.slice A n cap) (some (.int .i64 (k : Int))) none none).run Tryd.prog w = .ok (sliced A k n cap 1) w := by
  rw [run_slice_l w 29 _ _ _ (by kernel_rfl) .i64 k (by omega) (by omega)]
  have hz1 : (sizeOf (Tryd.prog.elem 29)).run Tryd.prog w = .ok 1 w := by kernel_rfl
  rw [hz1]
  simp [Result.andThen]
theorem sees_sliced {w : World} {B n cap k : Nat} {A : Option Addr} {L : List UInt8} (h : Sees w B (.slice A n cap) L) (hk : k ≤ n) : Sees w B (sliced A k n cap 1) (L.drop k) := by
  rcases h with ⟨rfl, hv⟩ | ⟨ad, c, hv, hc, hb, hj⟩
  · cases hv
    have : k = 0 := by omega
    subst this
    exact .inl ⟨rfl, by simp [sliced]⟩
  · cases hv
    by_cases hck : cap = k
    · exact .inr ⟨ad, cap - k, by unfold sliced; rw [if_pos hck, List.length_drop], by rw [List.length_drop]; omega, fun h0 => absurd h0 (by rw [List.length_drop]; omega), fun j hj2 => absurd hj2 (by rw [List.length_drop]; omega)⟩
    · refine .inr ⟨ad.add (k * 1), cap - k, by unfold sliced; rw [if_neg hck, List.length_drop]; rfl, by rw [List.length_drop]; omega, fun h0 => ?_, fun j hj2 => ?_⟩
      · rw [block_add]
        exact hb (by rw [List.length_drop] at h0; omega)
      · rw [List.length_drop] at hj2
        rw [Addr.add_add, Nat.mul_one, hj (k + j) (by omega), List.getElem_drop]
/-- What a round of decoding knows. -/
def DI (n : Nat) (P : List UInt8) (pre : List Sp) (R : List UInt8) : Prop := P = bytesN (n :: flatN pre) ++ R ∧ (∀ x ∈ pre, 0 ≤ x.1 ∧ x.1 < x.2) ∧ B64 (n :: flatN pre)
theorem di_start {n : Nat} {P R : List UInt8} (h : P = enc n ++ R) (hn : n < 18446744073709551616) : DI n P [] R :=
  ⟨by rw [show flatN [] = [] from rfl, bytesN_cons, bytesN_nil, List.append_nil]; exact h, by simp, fun v hv => by
    rw [show flatN [] = [] from rfl, List.mem_singleton] at hv
    omega⟩
theorem di_next {n a b : Nat} {P R R2 : List UInt8} {pre : List Sp} (h : DI n P pre R) (hR : R = enc a ++ (enc b ++ R2)) (ha : a ≤ 2147483648) (hb : b ≤ 2147483648) : DI n P (pre ++ [((a : Int), (a : Int) + (b : Int) + 1)]) R2 := by
  obtain ⟨h1, h2, h3⟩ := h
  have hf : flatN (pre ++ [((a : Int), (a : Int) + (b : Int) + 1)]) = flatN pre ++ [a, b] := by
    rw [flatN_app]
    congr 1
    have e1 : ((a : Int) + (b : Int) + 1 - (a : Int) - 1).toNat = b := by omega
    simp only [flatN, List.flatMap_cons, List.flatMap_nil, List.append_nil, e1, Int.toNat_natCast]
  unfold DI
  rw [hf, ← List.cons_append]
  refine ⟨?_, fun x hx => ?_, fun v hv => ?_⟩
  · rw [bytesN_app, bytesN_cons a, bytesN_cons b, bytesN_nil, List.append_nil, h1, hR, List.append_assoc, List.append_assoc]
  · rcases List.mem_append.1 hx with hx | hx
    · exact h2 x hx
    · rw [List.mem_singleton.1 hx]
      simp only
      omega
  · rcases List.mem_append.1 hv with hv | hv
    · exact h3 v hv
    · simp at hv
      omega
theorem di_rest {n : Nat} {P R : List UInt8} {pre l : List Sp} (h : DI n P pre R) (hc : chkT l = 0) (he : payL l = P) : ∃ ns', l.length = n ∧ flatN l = flatN pre ++ ns' ∧ R = bytesN ns' := by
  obtain ⟨ns', h1, h2⟩ := bytes_cancel (n :: flatN pre) (numsN l) R h.2.2 (nums_b64 hc) (by rw [← h.1, ← he]; rfl)
  unfold numsN at h1
  rw [List.cons_append] at h1
  exact ⟨ns', (List.cons.inj h1).1, (List.cons.inj h1).2, h2⟩
theorem di_goal {n : Nat} {P R : List UInt8} {pre l : List Sp} (h : DI n P pre R) (hc : chkT l = 0) (he : payL l = P) (hk : pre.length < n) : ∃ (a b : Nat) (R2 : List UInt8), R = enc a ++ (enc b ++ R2) ∧ a ≤ 2147483647 ∧ b ≤ 2147483647 := by
  obtain ⟨ns', h1, h2, h3⟩ := di_rest h hc he
  have hl := congrArg List.length h2
  rw [List.length_append, flatN_len, flatN_len] at hl
  have hm : ∀ v ∈ ns', v ≤ 2147483647 := fun v hv => nums_small hc v (by unfold numsN; rw [h2]; exact List.mem_cons_of_mem _ (List.mem_append_right _ hv))
  match ns', hl, h3, hm with
  | [], hl, _, _ => simp at hl; omega
  | [x], hl, _, _ => simp at hl; omega
  | a :: b :: r, _, h3, hm => exact ⟨a, b, bytesN r, by rw [h3, bytesN_cons, bytesN_cons], hm a (by simp), hm b (by simp)⟩
theorem di_end {n : Nat} {P R : List UInt8} {pre l : List Sp} (h : DI n P pre R) (hc : chkT l = 0) (he : payL l = P) (hk : pre.length = n) : R = [] ∧ l = pre := by
  obtain ⟨ns', h1, h2, h3⟩ := di_rest h hc he
  have hl := congrArg List.length h2
  rw [List.length_append, flatN_len, flatN_len] at hl
  have h0 : ns' = [] := List.length_eq_zero_iff.1 (by omega)
  subst h0
  rw [List.append_nil] at h2
  exact ⟨by rw [h3]; rfl, flat_inj l pre (chkT_pos hc) h.2.1 h2⟩
theorem di_bad {n : Nat} {P R : List UInt8} {pre : List Sp} (h : DI n P pre R) (hk : pre.length < n)
    (hb : (tk R 0 0).2.2 ≠ 0 ∨ 2147483648 < (tk R 0 0).1 ∨ (tk (R.drop (tk R 0 0).2.1) 0 0).2.2 ≠ 0 ∨ 2147483648 < (tk (R.drop (tk R 0 0).2.1) 0 0).1) : ¬ ∃ l, chkT l = 0 ∧ payL l = P := by
  rintro ⟨l, hc, he⟩
  obtain ⟨a, b, R2, hR, ha, hb2⟩ := di_goal h hc he hk
  have h1 : tk R 0 0 = (a, (enc a).length, 0) := by rw [hR]; exact tk_enc (by omega) _
  have h2 : R.drop (enc a).length = enc b ++ R2 := by rw [hR, List.drop_left' rfl]
  have h3 : tk (enc b ++ R2) 0 0 = (b, (enc b).length, 0) := tk_enc (by omega) _
  rw [h1] at hb
  simp only at hb
  rw [h2, h3] at hb
  simp only at hb
  omega
theorem di_bad0 {P : List UInt8} (hb : (tk P 0 0).2.2 ≠ 0 ∨ 4096 < (tk P 0 0).1) : ¬ ∃ l, chkT l = 0 ∧ payL l = P := by
  rintro ⟨l, hc, rfl⟩
  have hl := (chkT_ok hc).1
  have h1 : payL l = enc l.length ++ bytesN (flatN l) := by unfold payL numsN; rw [bytesN_cons]
  have h2 : tk (payL l) 0 0 = (l.length, (enc l.length).length, 0) := by rw [h1]; exact tk_enc (by omega) _
  rw [h2] at hb
  simp only at hb
  omega
/-- What the reference's Decode answers. -/
def RDecV (w : World) (L : List UInt8) (e : Ending) (w' : World) : Prop :=
  ((∃ l, chkT l = 0 ∧ encL l = L ∧ ∃ v, e = .returned (.tuple #[v, .bool true]) ∧ Rows 2 ESp w' v l) ∨ ((¬ ∃ l, chkT l = 0 ∧ encL l = L) ∧ ∃ v, e = .returned (.tuple #[v, .bool false]))) ∧ Below w.heap.size w w'

set_option maxRecDepth 100000 in
set_option maxHeartbeats 8000000 in
theorem refDecode_any {w : World} {v : Value} {L : List UInt8} (hs : Sees w w.heap.size v L) (hL : L.length ≤ 100000) : Calls Tryd.prog 14 #[v] w (RDecV w L) := by
  by_cases h4 : L.length < 4
  · have HU := Lib.hid (refUnseal_short hs h4)
    have HNO := Lib.hid (no_short h4)
    obtain ⟨sp, cp, rfl, -⟩ := hs.form2
    obtain ⟨n, hn⟩ : ∃ n, L.length = n := ⟨_, rfl⟩
    rw [hn] at HU ⊢
    clear hs h4 hL hn
    go_enter Tryd.func14, Tryd.ntmps14
    go_wp2_with fail
    refine HU.out.mono ?_
    rintro e w2 ⟨rfl, rfl⟩
    go_wp2_with fail
    go_ret2
    exact ⟨.inr ⟨HNO.out, _, rfl⟩, Below.refl _ _⟩
  · obtain ⟨m, hm⟩ : ∃ m, L.length = m + 4 := ⟨L.length - 4, by omega⟩
    have HU := Lib.hid (refUnseal_long hs m hm (by omega))
    by_cases hd : sealL (L.take m) = L
    · rw [decide_eq_true hd] at HU
      have HD := Lib.hid hd
      obtain ⟨P, hP⟩ : ∃ P, L.take m = P := ⟨_, rfl⟩
      have hPl : P.length ≤ 100000 := by rw [← hP, List.length_take]; omega
      have HNO : Hid ((¬ ∃ l, chkT l = 0 ∧ payL l = P) → ∀ (W : World) (u : Value), Below w.heap.size w W → RDecV w L (.returned (.tuple #[u, .bool false])) W) := Lib.hid (fun h W u hb => ⟨.inr ⟨fun ⟨l, hc, he⟩ => h ⟨l, hc, by rw [← hP]; exact (enc_take hm he).1.symm⟩, u, rfl⟩, hb⟩)
      obtain ⟨sp, cp, rfl, -⟩ := hs.form2
      obtain ⟨n, hn⟩ : ∃ n, L.length = n := ⟨_, rfl⟩
      rw [hP] at HU HD
      rw [hn] at HU ⊢
      have HPL := Lib.hid hPl
      clear hs h4 hL hn hP hm hd hPl
      go_enter Tryd.func14, Tryd.ntmps14
      go_wp2_with fail
      refine HU.out.mono ?_
      rintro e w1 ⟨v1, rfl, hs1, hb1⟩
      have HB1 := Lib.hid hb1
      have HS1 := Lib.hid hs1
      have HT1 := Lib.hid (take_any hs1 (by have := HPL.out; omega))
      obtain ⟨sp1, cp1, rfl, hc1, -⟩ := hs1.form2
      obtain ⟨pn, hpn⟩ : ∃ n, P.length = n := ⟨_, rfl⟩
      obtain ⟨⟨V, s, er⟩, ht⟩ : ∃ t, tk P 0 0 = t := ⟨_, rfl⟩
      have hbad := @di_bad0 P
      rw [ht] at HT1 hbad
      unfold tkV at HT1
      simp only at HT1 hbad
      rw [hpn] at HT1 HS1 ⊢
      have HBAD := Lib.hid hbad
      clear hs1 hb1 hbad hc1
      by_cases he : er = 0
      · subst he
        by_cases hbig : 4096 < V
        · have hV : (4096 : Int) < (V : Int) := by omega
          have HN := Lib.hid (HBAD.out (.inr hbig))
          clear ht hpn hbig
          go_wp2_with fail
          refine HT1.out.mono ?_
          rintro e w2 ⟨rfl, rfl⟩
          go_wp2_with fail
          go_ret2
          exact HNO.out HN.out _ _ HB1.out
        · obtain ⟨R0, hR0, hsl, hV64⟩ := tk_can ht
          have hsn : s ≤ pn := by rw [← hpn, hR0, hsl, List.length_append]; omega
          have hV : ¬ (4096 : Int) < (V : Int) := by omega
          have hV2 : V ≤ 4096 := by omega
          have hdr : P.drop s = R0 := by rw [hR0, hsl, List.drop_left' rfl]
          have hD0 := Lib.hid (di_start hR0 hV64)
          have hf := sees_sliced HS1.out hsn
          have hsl1 := sliceB_from sp1 pn cp1 s hsn
          rw [hdr] at hf
          obtain ⟨q0, hq0⟩ : ∃ q, sliced sp1 s pn cp1 1 = q := ⟨_, rfl⟩
          rw [hq0] at hf hsl1
          obtain ⟨N1, hN1⟩ : ∃ N, w1.heap.size = N := ⟨_, rfl⟩
          rw [hN1] at hf
          have HF := Lib.hid hf
          have HN1 := Lib.hid hN1
          have HR0 := Lib.hid (show R0.length ≤ 100000 by rw [← hdr, List.length_drop]; have := HPL.out; omega)
          have HV2 := Lib.hid hV2
          have HPN := Lib.hid hpn
          clear ht hpn hbig hR0 hsl hV64 hsn hdr hf hq0 hN1 hV2 HBAD HS1
          go_wp2_with fail
          refine HT1.out.mono ?_
          rintro e w2 ⟨rfl, rfl⟩
          go_wp2_with fail
          clear hsl1
          go_loopw [4, 9, 10] (fun pv lv iv wr => ∃ (k : Nat) (pre : List Sp) (R : List UInt8) (pw lw : Value), pw = pv ∧ lw = lv ∧ iv = .int .u64 k ∧ pre.length = k ∧ k ≤ V ∧ Hid (DI V P pre R) ∧ Hid (R.length ≤ 100000) ∧ Hid (Sees wr N1 pw R) ∧ Hid (wr.ownsRow N1 24 2 lw k (pre.flatMap spV)) ∧ Hid (Below N1 w1 wr)) (fun _ _ iv _ => V - (Go.RowKit.intOf iv).toNat)
          case atStart => exact ⟨0, [], R0, _, _, rfl, rfl, rfl, rfl, Nat.zero_le _, hD0, HR0, HF, Lib.hid (World.ownsRow_nil _ _ _ _), Lib.hid (Below.refl _ _)⟩
          case round =>
            obtain ⟨k, pre, R, pv, lv, hpv, hlv, rfl, hpk, hkV, HI, HRL, HS, HO, HB⟩ := hrel
            subst hpv hlv
            have HBW := Lib.hid (show Below w.heap.size w wr from HB1.out.trans (HB.out.mono (by rw [← HN1.out]; exact HB1.out.size)))
            have hRl : R.length ≤ 1000000 := by have := HRL.out; omega
            have HTA := Lib.hid (take_any HS.out hRl)
            obtain ⟨spR, cR, rfl, -, -⟩ := HS.out.form2
            obtain ⟨n, hn⟩ : ∃ n, R.length = n := ⟨_, rfl⟩
            by_cases hlt : k < V
            · have hbad := di_bad HI.out (by omega)
              obtain ⟨⟨x, s2, e2⟩, ht2⟩ : ∃ t, tk R 0 0 = t := ⟨_, rfl⟩
              rw [ht2] at HTA hbad
              unfold tkV at HTA
              simp only at HTA hbad
              rw [hn] at HTA HS ⊢
              have hltI : (k : Int) < (V : Int) := by omega
              by_cases he2 : e2 = 0
              · subst he2
                obtain ⟨rest, hR, hs2, hx64⟩ := tk_can ht2
                have hs2n : s2 ≤ n := by rw [← hn, hR, hs2, List.length_append]; omega
                have hdr : R.drop s2 = rest := by rw [hR, hs2, List.drop_left' rfl]
                have hf2 := sees_sliced HS.out hs2n
                have hsl2 := sliceB_from spR n cR s2 hs2n
                rw [hdr] at hf2 hbad
                obtain ⟨q1, hq1⟩ : ∃ q, sliced spR s2 n cR 1 = q := ⟨_, rfl⟩
                rw [hq1] at hf2 hsl2
                have hrl : rest.length ≤ 1000000 := by rw [← hdr, List.length_drop]; omega
                have HTB := Lib.hid (take_any hf2 hrl)
                obtain ⟨⟨y, s3, e3⟩, ht3⟩ : ∃ t, tk rest 0 0 = t := ⟨_, rfl⟩
                rw [ht3] at HTB hbad
                unfold tkV at HTB
                simp only at HTB hbad
                by_cases hx : 2147483648 < x
                · have HN := Lib.hid (hbad (.inr (.inl hx)))
                  have hxI : (2147483648 : Int) < (x : Int) := by omega
                  by_cases he3 : e3 = 0
                  · subst he3
                    clear hbad ht2 ht3 hR hs2 hs2n hdr hf2 hrl hq1 hn hRl HS HI HO hx
                    go_wp2_with fail
                    refine HTA.out.mono ?_
                    rintro e w3 ⟨rfl, rfl⟩
                    go_wp2_with fail
                    refine HTB.out.mono ?_
                    rintro e w3 ⟨rfl, rfl⟩
                    go_wp2_with fail
                    go_ret2
                    exact HNO.out HN.out _ _ HBW.out
                  · have heb : ((e3 : Int) != 0) = true := by simp; omega
                    clear hbad ht2 ht3 hR hs2 hs2n hdr hf2 hrl hq1 hn hRl HS HI HO hx he3
                    go_wp2_with fail
                    refine HTA.out.mono ?_
                    rintro e w3 ⟨rfl, rfl⟩
                    go_wp2_with fail
                    refine HTB.out.mono ?_
                    rintro e w3 ⟨rfl, rfl⟩
                    go_wp2_with fail
                    go_ret2
                    exact HNO.out HN.out _ _ HBW.out
                · have hxI : ¬ (2147483648 : Int) < (x : Int) := by omega
                  by_cases he3 : e3 = 0
                  · subst he3
                    by_cases hy : 2147483648 < y
                    · have HN := Lib.hid (hbad (.inr (.inr (.inr hy))))
                      have hyI : (2147483648 : Int) < (y : Int) := by omega
                      clear hbad ht2 ht3 hR hs2 hs2n hdr hf2 hrl hq1 hn hRl HS HI HO hx hy
                      go_wp2_with fail
                      refine HTA.out.mono ?_
                      rintro e w3 ⟨rfl, rfl⟩
                      go_wp2_with fail
                      refine HTB.out.mono ?_
                      rintro e w3 ⟨rfl, rfl⟩
                      go_wp2_with fail
                      go_ret2
                      exact HNO.out HN.out _ _ HBW.out
                    · have hyI : ¬ (2147483648 : Int) < (y : Int) := by omega
                      obtain ⟨R2, hR2, hs3, hy64⟩ := tk_can ht3
                      have HI2 := Lib.hid (di_next HI.out (by rw [hR, hR2]) (by omega : x ≤ 2147483648) (by omega : y ≤ 2147483648))
                      obtain ⟨u, hu⟩ : ∃ u, s2 + s3 = u := ⟨_, rfl⟩
                      have hRe : R.length = s2 + s3 + R2.length := by rw [hR, hR2, hs2, hs3, List.length_append, List.length_append]; omega
                      have hun : u ≤ n := by rw [← hn, ← hu, hRe]; omega
                      have hadd : IntKind.i64.wrap ((s2 : Int) + (s3 : Int)) = (u : Int) := by rw [IntKind.wrap_i64]; omega
                      have hdr2 : R.drop u = R2 := by rw [← hu, ← List.drop_drop, hdr, hR2, hs3, List.drop_left' rfl]
                      have hf3 := sees_sliced HS.out hun
                      have hsl3 := sliceB_from spR n cR u hun
                      rw [hdr2] at hf3
                      obtain ⟨q2, hq2⟩ : ∃ q, sliced spR u n cR 1 = q := ⟨_, rfl⟩
                      rw [hq2] at hf3 hsl3
                      have HF3 := Lib.hid hf3
                      have HR2 := Lib.hid (show R2.length ≤ 100000 by have := HRL.out; omega)
                      have hw1 : IntKind.i64.wrap (x : Int) = (x : Int) := by rw [IntKind.wrap_i64]; omega
                      have hw2 : IntKind.u64.wrap ((x : Int) + (y : Int)) = (x : Int) + (y : Int) := by rw [IntKind.wrap_u64]; omega
                      have hw3 : IntKind.u64.wrap ((x : Int) + (y : Int) + 1) = (x : Int) + (y : Int) + 1 := by rw [IntKind.wrap_u64]; omega
                      have hw4 : IntKind.i64.wrap ((x : Int) + (y : Int) + 1) = (x : Int) + (y : Int) + 1 := by rw [IntKind.wrap_i64]; omega
                      have hw5 : IntKind.u64.wrap ((k : Int) + 1) = ((k + 1 : Nat) : Int) := by rw [IntKind.wrap_u64]; omega
                      have hk6 : k ≤ 1000000 := by have := HV2.out; omega
                      have hN : N1 ≤ wr.heap.size := by rw [← HN1.out]; exact HB.out.size
                      have HN := Lib.hid hN
                      have HPK := Lib.hid hpk
                      clear hbad ht2 ht3 hR hs2 hs2n hdr hf2 hrl hq1 hn hRl HS HI hx hy hR2 hs3 hy64 hx64 hu hRe hun hdr2 hf3 hq2 hN
                      go_wp2_with fail
                      refine HTA.out.mono ?_
                      rintro e w3 ⟨rfl, rfl⟩
                      go_wp2_with fail
                      refine HTB.out.mono ?_
                      rintro e w3 ⟨rfl, rfl⟩
                      go_wp2_with (at_builtin; refine wpList_pushSp rfl (.tmp 74) (.tmp 83) rfl N1 _ _ _ (x : Int) ((x : Int) + (y : Int) + 1) rfl rfl HO.out hk6 HN.out ?_; intro v' w' HO3 HG3)
                      have hb3 : Below N1 wr w' := below_of_grown (grown_trans (World.grownBy_alloc wr _ _) HG3.out) HN.out (fun j hj => (own_low HO.out j hj).1)
                      refine ⟨⟨k + 1, pre ++ [((x : Int), (x : Int) + (y : Int) + 1)], R2, _, _, rfl, rfl, rfl, by rw [List.length_append, HPK.out]; rfl, by omega, HI2, HR2, Lib.hid (HF3.out.below hb3), Lib.hid ?_, Lib.hid (HB.out.trans hb3)⟩, ?_⟩
                      · rw [List.flatMap_append]
                        exact HO3.out
                      · simp only [Go.RowKit.intOf]
                        omega
                  · have HN := Lib.hid (hbad (.inr (.inr (.inl he3))))
                    have heb : ((e3 : Int) != 0) = true := by simp; omega
                    clear hbad ht2 ht3 hR hs2 hs2n hdr hf2 hrl hq1 hn hRl HS HI HO hx he3
                    go_wp2_with fail
                    refine HTA.out.mono ?_
                    rintro e w3 ⟨rfl, rfl⟩
                    go_wp2_with fail
                    refine HTB.out.mono ?_
                    rintro e w3 ⟨rfl, rfl⟩
                    go_wp2_with fail
                    go_ret2
                    exact HNO.out HN.out _ _ HBW.out
              · have HN := Lib.hid (hbad (.inl he2))
                have heb : ((e2 : Int) != 0) = true := by simp; omega
                clear hbad ht2 hn hRl HS HI HO he2
                go_wp2_with fail
                refine HTA.out.mono ?_
                rintro e w3 ⟨rfl, rfl⟩
                go_wp2_with fail
                go_ret2
                exact HNO.out HN.out _ _ HBW.out
            · have hkk : ¬ (k : Int) < (V : Int) := by omega
              have hend : ∀ l, chkT l = 0 → payL l = P → R = [] ∧ l = pre := fun l h1 h2 => di_end HI.out h1 h2 (by omega)
              have hrow : Rows 2 ESp wr lv pre := own_sp (by rw [hpk]; exact HO.out)
              rw [hn]
              by_cases hn0 : n = 0
              · have hR0 : R = [] := List.length_eq_zero_iff.1 (by omega)
                have hpay : payL pre = P := by
                  have := HI.out.1
                  rw [hR0, List.append_nil] at this
                  rw [this]
                  unfold payL numsN
                  rw [show pre.length = V by omega]
                have HPAY := Lib.hid (show encL pre = L by unfold encL; rw [hpay]; exact HD.out)
                have HCK := Lib.hid (refCheckT_any hrow)
                unfold IntV at HCK
                have HROW := Lib.hid hrow
                have HEND := Lib.hid hend
                obtain ⟨z, hz⟩ : ∃ z, chkT pre = z := ⟨_, rfl⟩
                rw [hz] at HCK
                have HZ := Lib.hid hz
                clear hR0 hpay hrow hend hn hRl HS HI HO HTA hz hpk
                subst hn0
                by_cases hz0 : z = 0
                · subst hz0
                  go_wp2_with fail
                  refine HCK.out.mono ?_
                  rintro e w4 ⟨rfl, hb4⟩
                  have HE := Lib.hid (show RDecV w L (.returned (.tuple #[lv, .bool true])) w4 from ⟨.inl ⟨pre, HZ.out, HPAY.out, lv, rfl, HROW.out.below stays_sp hb4⟩, HBW.out.trans (hb4.mono HBW.out.size)⟩)
                  clear hb4
                  go_wp2_with fail
                  go_ret2
                  exact HE.out
                · have HN := Lib.hid (show ¬ ∃ l, chkT l = 0 ∧ payL l = P from fun ⟨l, h1, h2⟩ => hz0 (by rw [← HZ.out, ← (HEND.out l h1 h2).2]; exact h1))
                  have hzb : (z == 0) = false := by simp [hz0]
                  clear hz0
                  go_wp2_with fail
                  refine HCK.out.mono ?_
                  rintro e w4 ⟨rfl, hb4⟩
                  have HB4 := Lib.hid (HBW.out.trans (hb4.mono HBW.out.size))
                  clear hb4
                  go_wp2_with fail
                  go_ret2
                  exact HNO.out HN.out _ _ HB4.out
              · have HN := Lib.hid (show ¬ ∃ l, chkT l = 0 ∧ payL l = P from fun ⟨l, h1, h2⟩ => hn0 (by rw [← hn, (hend l h1 h2).1]; rfl))
                have hnb : ((n : Int) == 0) = false := by simp [hn0]
                have hnp : (0 : Int) < (n : Int) := by omega
                clear hrow hend hn hRl HS HI HO HTA hpk hn0
                go_wp2_with fail
                go_ret2
                exact HNO.out HN.out _ _ HBW.out
      · have HN := Lib.hid (HBAD.out (.inl he))
        have heb : ((er : Int) != 0) = true := by simp; omega
        clear ht hpn HBAD he HS1
        go_wp2_with fail
        refine HT1.out.mono ?_
        rintro e w2 ⟨rfl, rfl⟩
        go_wp2_with fail
        go_ret2
        exact HNO.out HN.out _ _ HB1.out
    · rw [decide_eq_false hd] at HU
      have HNO := Lib.hid (show ¬ ∃ l, chkT l = 0 ∧ encL l = L from fun ⟨l', hc', he'⟩ => hd (enc_take hm he').2)
      obtain ⟨sp, cp, rfl, -⟩ := hs.form2
      obtain ⟨n, hn⟩ : ∃ n, L.length = n := ⟨_, rfl⟩
      rw [hn] at HU ⊢
      clear hs h4 hL hn hm hd
      go_enter Tryd.func14, Tryd.ntmps14
      go_wp2_with fail
      refine HU.out.mono ?_
      rintro e w2 ⟨v2, rfl, hs2, hb2⟩
      have HB2 := Lib.hid hb2
      clear hb2 hs2
      go_wp2_with fail
      go_ret2
      exact ⟨.inr ⟨HNO.out, _, rfl⟩, HB2.out⟩
end Go.Proofs.YtifdencdbpdbfaaDoor
