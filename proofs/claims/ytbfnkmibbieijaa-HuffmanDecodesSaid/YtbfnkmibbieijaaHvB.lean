/-
  WALKS over the reference of package huffman: Decode.
-/
import Derived.Test.YtbfnkmibbieijaaHzA
import Derived.Test.YtbfnkmibbieijaaBjD
namespace Go.Proofs.Ytbfnkmibbieijaa
open Go.RowKit Go.Shelf Go.Lib
set_option linter.unusedVariables false
set_option linter.unusedSimpArgs false

def slenV : Value → Nat | .slice _ n _ => n | _ => 0
/-- Inside one symbol: n bits have been read, their word is v. -/
def MdR (L : List Nat) (l : List Bool) (T : Nat × Nat × Nat) (f : Int) (v n p : Nat) : Prop :=
  (f = -1 ∧ ∃ m, 1 ≤ m ∧ m + n = 15 ∧ endN L n ≤ v ∧ v < 2 ^ n ∧ rdS L l m n v p = T) ∨ (∃ s : Nat, f = (s : Int) ∧ T = (s, p, 0))
/-- Among the first s codes. -/
def InR (L : List Nat) (q x s : Nat) (f : Int) (al : Bool) : Prop :=
  ((f = -1 ∧ ∀ i, i < s → ¬ (L[i]? = some q ∧ codeN L i = x)) ∨ (∃ i, i < s ∧ L[i]? = some q ∧ codeN L i = x ∧ f = (i : Int))) ∧
  (al = true ↔ ∃ i k, i < s ∧ L[i]? = some k ∧ q ≤ k ∧ codeN L i / 2 ^ (k - q) = x)
theorem InR.zero (L : List Nat) (q x : Nat) : InR L q x 0 (-1) false := ⟨.inl ⟨rfl, fun i h => absurd h (Nat.not_lt_zero i)⟩, fun h => (by cases h), fun ⟨i, k, h, _⟩ => absurd h (Nat.not_lt_zero i)⟩
theorem InR.step {L : List Nat} {q x s k : Nat} {f : Int} {al : Bool} (h : InR L q x s f al) (hk : L[s]? = some k) (hq : 1 ≤ q) {f' : Int} {al' : Bool}
    (hf : (k = q ∧ codeN L s = x ∧ f' = (s : Int)) ∨ (¬ (k = q ∧ codeN L s = x) ∧ f' = f)) (ha : al' = (al || decide (q ≤ k ∧ codeN L s / 2 ^ (k - q) = x))) : InR L q x (s + 1) f' al' := by
  refine ⟨?_, ?_⟩
  · rcases hf with ⟨rfl, h1, h2⟩ | ⟨h1, rfl⟩
    · exact .inr ⟨s, Nat.lt_succ_self s, hk, h1, h2⟩
    · rcases h.1 with ⟨h2, h3⟩ | ⟨i, h2, h3⟩
      · refine .inl ⟨h2, fun i hi hc => ?_⟩
        rcases Nat.lt_or_ge i s with h4 | h4
        · exact h3 i h4 hc
        · obtain rfl : i = s := by omega
          rw [hk] at hc
          exact h1 ⟨Option.some.inj hc.1, hc.2⟩
      · exact .inr ⟨i, by omega, h3⟩
  · rw [ha, Bool.or_eq_true, h.2, decide_eq_true_eq]
    constructor
    · rintro (⟨i, k', h1, h2⟩ | ⟨h1, h2⟩)
      · exact ⟨i, k', by omega, h2⟩
      · exact ⟨s, k, Nat.lt_succ_self s, hk, h1, h2⟩
    · rintro ⟨i, k', h1, h2, h3⟩
      rcases Nat.lt_or_ge i s with h4 | h4
      · exact .inl ⟨i, k', h4, h2, h3⟩
      · obtain rfl : i = s := by omega
        rw [hk] at h2
        obtain rfl := Option.some.inj h2
        exact .inr h3
/-- What all codes say of a word of q bits. -/
theorem InR.done {L : List Nat} (hL : okLens L) {l : List Bool} {q x m p : Nat} {f : Int} {al : Bool} (h : InR L q x L.length f al) (hq : 1 ≤ q) (hm : m + q = 15) (hx : firstN L q ≤ x) :
    (x < endN L q → f = (((symsOf L q).getD (x - firstN L q) 0 : Nat) : Int) ∧ al = true) ∧ (¬ x < endN L q → f = -1 ∧ (al = true ↔ ¬ endN L 15 ≤ x * 2 ^ m)) := by
  constructor
  · intro hlt
    rw [endN_eq L hq] at hlt
    have hi : x - firstN L q < (symsOf L q).length := by rw [symsOf_len]; omega
    obtain ⟨s, hs⟩ : ∃ s, (symsOf L q)[x - firstN L q]? = some s := ⟨_, List.getElem?_eq_getElem hi⟩
    obtain ⟨h1, h2⟩ := symsOf_back hs
    have hc : codeN L s = x := by rw [codeN_at h1 hq, h2]; omega
    have hsl := (List.getElem?_eq_some_iff.1 h1).1
    have hg : (symsOf L q).getD (x - firstN L q) 0 = s := by rw [List.getD_eq_getElem?_getD, hs]; rfl
    rw [hg]
    refine ⟨?_, h.2.2 ⟨s, q, hsl, h1, Nat.le_refl _, by rw [Nat.sub_self, Nat.pow_zero, Nat.div_one]; exact hc⟩⟩
    rcases h.1 with ⟨_, h3⟩ | ⟨i, _, h3, h4, h5⟩
    · exact absurd ⟨h1, hc⟩ (h3 s hsl)
    · rw [h5, code_inj h3 h1 hq (h4.trans hc.symm)]
  · intro hge
    have hno : ∀ i, ¬ (L[i]? = some q ∧ codeN L i = x) := fun i ⟨h1, h2⟩ => hge (by rw [← h2]; exact codeN_lt h1 hq)
    refine ⟨?_, ?_⟩
    · rcases h.1 with ⟨h3, _⟩ | ⟨i, _, h3, h4, _⟩
      · exact h3
      · exact absurd ⟨h3, h4⟩ (hno i)
    · have ha := alive_iff hL (n := q) (v := x) (by omega) (by omega)
      rw [show 15 - q = m by omega] at ha
      rw [h.2]
      constructor
      · rintro ⟨i, k, h1, h2, h3, h4⟩
        have : q ≠ k := fun e => by
          subst e
          rw [Nat.sub_self, Nat.pow_zero, Nat.div_one] at h4
          exact hno i ⟨h2, h4⟩
        have := ha.1 ⟨i, k, h2, by omega, h4⟩
        omega
      · intro h1
        obtain ⟨i, k, h2, h3, h4⟩ := ha.2 (by omega)
        exact ⟨i, k, (List.getElem?_eq_some_iff.1 h2).1, h2, by omega, h4⟩
/-- Between two symbols of the reference's Decode. -/
structure DdAt (w3 : World) (N : Nat) (L : List Nat) (l : List Bool) (R : List Nat × Nat × Nat) (m : Nat) (acc : List Nat) (p : Nat) (sv : Value) (wr : World) : Prop where
  b : Below N w3 wr
  o : wr.ownsRow N 3 1 sv acc.length (idxV acc)
  e : dcA L l (m - acc.length) p acc = R
theorem rdS_step {L : List Nat} {l : List Bool} {m n v p x q : Nat} {b : Bool} (h : l[p]? = some b) (hx : 2 * v + b.toNat = x) (hq : n + 1 = q) : rdS L l (m + 1) n v p = if x < endN L q then ((symsOf L q).getD (x - firstN L q) 0, p + 1, 0) else if endN L 15 ≤ x * 2 ^ m then (0, p + 1, 9) else rdS L l m q x (p + 1) := by
  conv => lhs; unfold rdS
  rw [h]
  simp only
  rw [hx, hq]

theorem bit_facts {v y x b nq q m' : Nat} (hvlt : v < 2 ^ nq) (hy : 2 * v = y) (hx : y + b = x) (hb : b ≤ 1) (hq : nq + 1 = q) (hmq : m' + 1 + nq = 15) : x < 2 ^ q ∧ m' + q = 15 ∧ 1 ≤ q ∧ x ≤ 32768 := by
  have h1 : 2 ^ q = 2 ^ nq * 2 := by rw [← hq, Nat.pow_succ]
  have h2 : 2 ^ q ≤ 2 ^ 15 := Nat.pow_le_pow_right (by omega) (by omega)
  have h3 : (2 : Nat) ^ 15 = 32768 := by decide
  rw [h3] at h2
  obtain ⟨P, hP⟩ : ∃ P, 2 ^ nq = P := ⟨_, rfl⟩
  obtain ⟨R, hR⟩ : ∃ R, 2 ^ q = R := ⟨_, rfl⟩
  rw [hP] at h1 hvlt
  rw [hR] at h1 h2 ⊢
  omega
theorem first_le {L : List Nat} {v y x b nq q : Nat} (hge : endN L nq ≤ v) (hy : 2 * v = y) (hx : y + b = x) (hq : nq + 1 = q) : firstN L q ≤ x := by
  unfold firstN
  rw [show q - 1 = nq by omega]
  obtain ⟨E, hE⟩ : ∃ E, endN L nq = E := ⟨_, rfl⟩
  rw [hE] at hge ⊢
  omega

set_option maxRecDepth 100000 in
set_option maxHeartbeats 8000000 in
theorem refDecode_any {w : World} {vc vb : Value} {cs : List Int} {bs : List UInt8} (hv : Rows 1 EInt w vc cs) (hlen : cs.length ≤ maxLen) (hs : Sees w w.heap.size vb bs) (hbs : bs.length ≤ 12500)
    (bits count : Int) (h0 : -9223372036854775808 ≤ bits) (h1 : bits ≤ 9223372036854775807) (h2 : -9223372036854775808 ≤ count) (h3 : count ≤ 9223372036854775807) :
    Calls Try.prog 29 #[vc, vb, .int .i64 bits, .int .i64 count] w (DecV w (decF cs bs bits count)) := by
  have HCD := Lib.hid (refCodes_any hv hlen)
  have HSB := Lib.hid hs
  have HV := Lib.hid (fun W (hb : Below w.heap.size w W) => hv.below stays_int hb)
  obtain ⟨A, cap, rfl, -⟩ := hv.form
  obtain ⟨Ab, capb, rfl, -⟩ := hs.form
  obtain ⟨n, hn⟩ : ∃ n, cs.length = n := ⟨_, rfl⟩
  obtain ⟨mb, hmb⟩ : ∃ n, bs.length = n := ⟨_, rfl⟩
  rw [hn] at HCD HV hlen ⊢
  rw [hmb] at HSB hbs ⊢
  have HN := Lib.hid hn
  have HMB := Lib.hid hmb
  unfold maxLen at hlen
  obtain ⟨F, hF⟩ : ∃ F, decF cs bs bits count = F := ⟨_, rfl⟩
  rw [hF]
  have HF := Lib.hid hF
  clear hv hs hn hmb hF
  go_enter Try.func29, Try.ntmps29
  go_wp2_with fail
  refine HCD.out.mono ?_
  rintro e w2 ⟨hb, h | h⟩
  · obtain ⟨hno, rfl⟩ := h
    have hFF : F = ([], 1) := by rw [← HF.out]; unfold decF; rw [if_pos hno]
    have HE : Hid (DecV w F (.returned (.tuple #[.slice none 0 0, .int .i64 1])) w2) := Lib.hid (by rw [hFF]; exact decV_nil 1 hb 1 rfl)
    clear hb hno HCD HF HSB hFF HV
    go_wp2_with fail
    go_ret2
    exact HE.out
  · obtain ⟨hok, vd, rfl, hr2⟩ := h
    obtain ⟨A2, c2, rfl, -⟩ := hr2.form
    have hcl : (cdF (natLs cs)).length = n := by rw [cdF_len]; unfold natLs; rw [List.length_map, HN.out]
    rw [hcl] at hr2
    have HCL := Lib.hid hcl
    rw [hcl]
    have HOK := Lib.hid hok
    have HB2 := Lib.hid hb
    have hs2 := (HSB.out.below hb).mono hb.size
    have HS2 := Lib.hid hs2
    have HRC := Lib.hid (fun W (hbW : Below w2.heap.size w2 W) => And.intro (HV.out W (hb.trans (hbW.mono hb.size))) (hr2.below stays_u hbW))
    have n8 : wrap64 (8 * (mb : Int)) = 8 * (mb : Int) := by unfold wrap64; omega
    have HBAD : Hid ((bits < 0 ∨ 8 * (mb : Int) < bits ∨ count < 0 ∨ 4096 < count) → DecV w F (.returned (.tuple #[.slice none 0 0, .int .i64 1])) w2) := Lib.hid (fun hc => by
      have hFF : F = ([], 1) := by rw [← HF.out]; unfold decF; rw [if_neg (not_not_intro hok), HMB.out, if_pos hc]
      rw [hFF]; exact decV_nil 1 hb 1 rfl)
    clear hb hok hr2 hcl hs2 HCD HSB HV
    by_cases c1 : bits < 0
    · have HE := Lib.hid (HBAD.out (.inl c1))
      clear HBAD HF
      go_wp2_with fail
      go_ret2
      exact HE.out
    · by_cases c2 : 8 * (mb : Int) < bits
      · have HE := Lib.hid (HBAD.out (.inr (.inl c2)))
        clear HBAD HF
        go_wp2_with fail
        go_ret2
        exact HE.out
      · by_cases c3 : count < 0
        · have HE := Lib.hid (HBAD.out (.inr (.inr (.inl c3))))
          clear HBAD HF
          go_wp2_with fail
          go_ret2
          exact HE.out
        · by_cases c4 : 4096 < count
          · have HE := Lib.hid (HBAD.out (.inr (.inr (.inr c4))))
            clear HBAD HF
            go_wp2_with fail
            go_ret2
            exact HE.out
          · obtain ⟨k, rfl⟩ : ∃ k : Nat, bits = k := ⟨bits.toNat, by omega⟩
            obtain ⟨m, rfl⟩ : ∃ k : Nat, count = k := ⟨count.toNat, by omega⟩
            have hk8 : k ≤ 8 * mb := by omega
            have hm1 : m ≤ 4096 := by omega
            have HU := Lib.hid (unpack_any HS2.out (by rw [HMB.out]; exact hbs) k (by rw [HMB.out]; exact hk8))
            clear HBAD
            go_wp2_with fail
            refine HU.out.mono ?_
            rintro e w3 ⟨v3, rfl, ho3, hb3⟩
            obtain ⟨A3, cap3, rfl, -⟩ := own_formI ho3
            obtain ⟨N, hN⟩ : ∃ N, w3.heap.size = N := ⟨_, rfl⟩
            obtain ⟨L, hL⟩ : ∃ L, natLs cs = L := ⟨_, rfl⟩
            obtain ⟨l, hl⟩ : ∃ l, unpack bs k = l := ⟨_, rfl⟩
            have hll : l.length = k := by rw [← hl]; exact unpack_len _ _
            obtain ⟨R, hR⟩ : ∃ R, dcA L l m 0 [] = R := ⟨_, rfl⟩
            have hFF : F = if R.2.2 ≠ 0 then ([], R.2.2) else if R.2.1 < k then ([], 9) else (R.1, 0) := by
              rw [← HF.out]; unfold decF
              rw [if_neg (not_not_intro HOK.out), HMB.out, if_neg (by omega), Int.toNat_natCast, Int.toNat_natCast, hL, hl, hR]
            rw [hl] at ho3
            have hsl := (seesC_own ho3).1
            rw [hN] at hsl
            have HBL := Lib.hid (fun W (h : Below N w3 W) => hsl.below h)
            have hb32 : w2.heap.size ≤ N := by rw [← hN]; exact hb3.size
            have hrc := HRC.out
            have HCD := Lib.hid (show cdF (natLs cs) = cdF L by rw [hL])
            have HRW := Lib.hid (fun W (h : Below N w3 W) => hrc W (hb3.trans (h.mono hb32)))
            have HW := Lib.hid (show ∀ W, Below N w3 W → Below w.heap.size w W from fun W h => HB2.out.trans ((hb3.trans (h.mono hb32)).mono HB2.out.size))
            have HST0 : Hid (DdAt w3 N L l R m [] 0 (.slice none 0 0) w3) := Lib.hid ⟨Below.refl _ _, World.ownsRow_nil _ _ _ 1, hR⟩
            have HLO := Lib.hid (show okLens L by rw [← hL]; exact HOK.out.lens)
            have HLL := Lib.hid (show L.length = n by rw [← hL]; unfold natLs; rw [List.length_map, HN.out])
            have HCS := Lib.hid (show castN' L = cs by rw [← hL]; exact nat_cast fun c hc => (HOK.out.2.1 c hc).1)
            have HFF := Lib.hid hFF
            have HKL := Lib.hid hll
            have HNN := Lib.hid hN
            clear ho3 hb3 hN hL hl hll hR hFF hsl hb32 hrc HU HF HRC HB2 HS2 HOK HMB HN HCL
            go_wp2_with fail
            go_loopw [13, 14] (fun pv sv wr => ∃ (acc : List Nat) (p : Nat), acc.length ≤ m ∧ pv = .int .i64 p ∧ Hid (DdAt w3 N L l R m acc p sv wr)) (fun _ sv _ => m - slenV sv)
            case atStart => exact ⟨[], 0, Nat.zero_le _, rfl, HST0⟩
            case round =>
              clear HST0
              obtain ⟨acc, p, hal, rfl, HS⟩ := hrel
              obtain ⟨i, hi⟩ : ∃ i, acc.length = i := ⟨_, rfl⟩
              obtain ⟨As, caps, rfl, -⟩ := own_formI HS.out.o
              have HI := Lib.hid hi
              rw [hi] at hal ⊢
              by_cases hlt : i < m
              · have hlti : (i : Int) < (m : Int) := by omega
                obtain ⟨T, hT⟩ : ∃ T, rdB L l p = T := ⟨_, rfl⟩
                have hstep := HS.out.e
                rw [hi, show m - i = (m - (i + 1)) + 1 by omega, dcA_step hT] at hstep
                have HSTEP := Lib.hid hstep
                have HM0 : Hid (MdR L l T (-1) 0 0 p) := Lib.hid (.inl ⟨rfl, 15, by decide, rfl, Nat.le_refl _, by decide, hT⟩)
                clear hstep hT hi
                go_wp2_with fail
                obtain ⟨wo, rfl⟩ : ∃ wo, wo = wr := ⟨_, rfl⟩
                go_loopw [13, 15, 16, 17] (fun pv vv nv fv wx => ∃ (p v n : Nat) (f : Int), pv = .int .i64 p ∧ vv = .int .u64 v ∧ nv = .int .i64 n ∧ fv = .int .i64 f ∧ n ≤ 15 ∧ wx = wo ∧ Hid (MdR L l T f v n p)) (fun _ _ nv _ _ => 20 - (Go.RowKit.intOf nv).toNat)
                case atStart => exact ⟨p, 0, 0, -1, rfl, rfl, rfl, rfl, by omega, rfl, HM0⟩
                case round =>
                  clear HM0
                  obtain ⟨p, v, nq, f, rfl, rfl, rfl, rfl, hn15, hwx, HM⟩ := hrel
                  subst hwx
                  rcases HM.out with ⟨rfl, mm, hm1', hmq, hge, hvlt, hrd⟩ | ⟨s, rfl, hTs⟩
                  · by_cases hpl : p < k
                    · have hpli : ¬ (k : Int) ≤ (p : Int) := by omega
                      obtain ⟨b, hb⟩ : ∃ b, l[p]? = some b := ⟨_, List.getElem?_eq_getElem (by rw [HKL.out]; exact hpl)⟩
                      obtain ⟨Ax, capx, he, -, hpos⟩ := (HBL.out _ HS.out.b).form
                      rw [boolCells_length, HKL.out] at he hpos
                      cases he
                      obtain ⟨b5, o5, rfl, -, hj⟩ := hpos (by omega)
                      have u0 := hj p (.bool b) (by unfold boolCells; rw [List.getElem?_map, hb]; rfl)
                      obtain ⟨m', rfl⟩ : ∃ m', mm = m' + 1 := ⟨mm - 1, by omega⟩
                      obtain ⟨y, hy⟩ : ∃ y, 2 * v = y := ⟨_, rfl⟩
                      obtain ⟨x, hx⟩ : ∃ x, y + b.toNat = x := ⟨_, rfl⟩
                      obtain ⟨q, hq⟩ : ∃ q, nq + 1 = q := ⟨_, rfl⟩
                      obtain ⟨p1, hp1⟩ : ∃ p1, p + 1 = p1 := ⟨_, rfl⟩
                      have hst := rdS_step (L := L) (m := m') hb (x := x) (by rw [hy]; exact hx) hq
                      rw [hrd, hp1] at hst
                      have hst := hst.symm
                      have hb1 : b.toNat ≤ 1 := by cases b <;> decide
                      have hv14 : v < 2 ^ 14 := Nat.lt_of_lt_of_le hvlt (Nat.pow_le_pow_right (by omega) (by omega))
                      have hp1k : p1 ≤ 100000 := by omega
                      have hv14 : v < 16384 := hv14
                      have n1 : IntKind.u64.wrap ((v : Int) * 2) = (y : Int) := by rw [show IntKind.u64.wrap ((v : Int) * 2) = ((v : Int) * 2) % 18446744073709551616 from rfl]; omega
                      have n2 : wrap64 ((p : Int) + 1) = (p1 : Int) := by unfold wrap64; omega
                      have n3 : wrap64 ((nq : Int) + 1) = (q : Int) := by unfold wrap64; omega
                      have n1p : (v : Int) * 2 = (y : Int) := by omega
                      have n2p : (p : Int) + 1 = (p1 : Int) := by omega
                      have n3p : (nq : Int) + 1 = (q : Int) := by omega
                      obtain ⟨hxb, hmq', hq1, hxs⟩ := bit_facts hvlt hy hx hb1 hq hmq
                      have hfx := first_le hge hy hx hq
                      have HSTT := Lib.hid hst
                      have HFX := Lib.hid hfx
                      have HXB := Lib.hid hxb
                      clear hj hpos hb hpl hrd hmq hge hvlt HM hv14 hm1' hst hfx hxb hp1 hq hy hb1
                      obtain ⟨wp, rfl⟩ : ∃ wp, wp = wr := ⟨_, rfl⟩
                      cases b
                      · have hxy : x = y := Eq.symm (by simpa using hx)
                        subst hxy
                        clear hx
                        clear n1 n2 n3
                        go_wp2_with fail
                        go_loopw [17, 18, 74] (fun fv av sv wy => ∃ (f : Int) (al : Bool) (s : Nat), fv = .int .i64 f ∧ av = .bool al ∧ sv = .int .i64 s ∧ s ≤ n ∧ wy = wp ∧ Hid (InR L q x s f al)) (fun _ _ sv _ => n - (Go.RowKit.intOf sv).toNat)
                        case atStart => exact ⟨-1, false, 0, rfl, rfl, rfl, Nat.zero_le _, rfl, Lib.hid (InR.zero L q x)⟩
                        case round =>
                          obtain ⟨f, al, s, rfl, rfl, rfl, hsn, hwy, HIN⟩ := hrel
                          subst hwy
                          by_cases hlt2 : s < n
                          · have hlt2i : (s : Int) < (n : Int) := by omega
                            obtain ⟨kk, hkk⟩ : ∃ kk, L[s]? = some kk := ⟨_, List.getElem?_eq_getElem (by rw [HLL.out]; exact hlt2)⟩
                            obtain ⟨r1, r2⟩ := HRW.out _ HS.out.b
                            obtain ⟨ba, oa, rfl, -, hj1⟩ := at_int r1 (by rw [← HCS.out, castN'_len, HLL.out]; omega)
                            obtain ⟨bb, ob, rfl, -, hj2⟩ := at_u r2 (by rw [HCD.out, cdF_len, HLL.out]; omega)
                            have u1 := hj1 s (kk : Int) (by rw [← HCS.out]; unfold castN'; rw [List.getElem?_map, hkk]; rfl)
                            have u2 := hj2 s (codeN L s) (by rw [HCD.out]; exact cdF_at hkk)
                            have hkk15 := HLO.out.2.1 kk (List.mem_of_getElem? hkk)
                            have hcb := codeN_le HLO.out s
                            have HST := Lib.hid (fun (f' : Int) (al' : Bool) => InR.step (f' := f') (al' := al') HIN.out hkk (by omega))
                            obtain ⟨c, hc⟩ : ∃ c, codeN L s = c := ⟨_, rfl⟩
                            rw [hc] at u2 hcb HST
                            clear hj1 hj2 r1 r2 hkk hc HIN
                            rcases Nat.lt_trichotomy kk q with hk | hk | hk
                            · have g1 : ((kk : Int) == (q : Int)) = false := by simp; omega
                              have g2 : decide ((kk : Int) ≥ (q : Int)) = false := decide_eq_false (by omega)
                              have g3 : decide (q ≤ kk) = false := decide_eq_false (by omega)
                              have HNX := Lib.hid (HST.out f al (.inr ⟨fun h => by omega, rfl⟩) (by rw [decide_eq_false (fun h => by omega)]; simp))
                              clear HST
                              cases al
                              · go_wp2_with fail
                                exact ⟨⟨f, false, s + 1, rfl, rfl, by go_num, by omega, trivial, HNX⟩, by simp only [Go.RowKit.intOf]; omega⟩
                              · go_wp2_with fail
                                exact ⟨⟨f, true, s + 1, rfl, rfl, by go_num, by omega, trivial, HNX⟩, by simp only [Go.RowKit.intOf]; omega⟩
                            · have g2 : decide ((kk : Int) ≥ (q : Int)) = true := decide_eq_true (by omega)
                              obtain ⟨d, hd⟩ : ∃ d, kk - q = d := ⟨_, rfl⟩
                              have m1 : (kk : Int) - (q : Int) = (d : Int) := by omega
                              have m2 : wrap64 ((kk : Int) - (q : Int)) = (d : Int) := by unfold wrap64; omega
                              have m3 : IntKind.u64.wrap (d : Int) = (d : Int) := by rw [show IntKind.u64.wrap (d : Int) = (d : Int) % 18446744073709551616 from rfl]; omega
                              have m4 : IntKind.i64.wrap ((kk : Int) - (q : Int)) = (d : Int) := by rw [IntKind.wrap_i64]; omega
                              have hmin : min d 64 = d := by omega
                              have hd64 : (d : Int) ≤ 64 := by omega
                              obtain ⟨y, hy⟩ : ∃ y, c / 2 ^ d = y := ⟨_, rfl⟩
                              have m5 : (c : Int) / 2 ^ d = (y : Int) := by rw [← hy]; simp
                              have hP : (q ≤ kk ∧ c / 2 ^ (kk - q) = x) ↔ y = x := by
                                rw [hd, hy]
                                exact ⟨fun h => h.2, fun h => ⟨by omega, h⟩⟩
                              have g1 : ((kk : Int) == (q : Int)) = true := by simp; omega
                              have hd0 : d = 0 := by omega
                              have hyc : y = c := by rw [← hy, hd0, Nat.pow_zero, Nat.div_one]
                              by_cases hyx : y = x
                              · have g3 : ((c : Int) == (x : Int)) = true := by simp; omega
                                have g4 : ((y : Int) == (x : Int)) = true := by simp; omega
                                have HNX := Lib.hid (HST.out (s : Int) true (.inl ⟨hk, by omega, rfl⟩) (by rw [decide_eq_true (hP.2 hyx)]; simp))
                                clear hP HST hd hy hk hyx hyc hd0
                                cases al
                                · go_wp2_with fail
                                  exact ⟨⟨(s : Int), true, s + 1, rfl, rfl, by go_num, by omega, trivial, HNX⟩, by simp only [Go.RowKit.intOf]; omega⟩
                                · go_wp2_with fail
                                  exact ⟨⟨(s : Int), true, s + 1, rfl, rfl, by go_num, by omega, trivial, HNX⟩, by simp only [Go.RowKit.intOf]; omega⟩
                              · have g3 : ((c : Int) == (x : Int)) = false := by simp; omega
                                have g4 : ((y : Int) == (x : Int)) = false := by simp; omega
                                have HNX := Lib.hid (HST.out f al (.inr ⟨fun h => hyx (hyc.trans h.2), rfl⟩) (by rw [decide_eq_false (fun h => hyx (hP.1 h))]; simp))
                                clear hP HST hd hy hk hyx hyc hd0
                                cases al
                                · go_wp2_with fail
                                  exact ⟨⟨f, false, s + 1, rfl, rfl, by go_num, by omega, trivial, HNX⟩, by simp only [Go.RowKit.intOf]; omega⟩
                                · go_wp2_with fail
                                  exact ⟨⟨f, true, s + 1, rfl, rfl, by go_num, by omega, trivial, HNX⟩, by simp only [Go.RowKit.intOf]; omega⟩
                            · have g2 : decide ((kk : Int) ≥ (q : Int)) = true := decide_eq_true (by omega)
                              obtain ⟨d, hd⟩ : ∃ d, kk - q = d := ⟨_, rfl⟩
                              have m1 : (kk : Int) - (q : Int) = (d : Int) := by omega
                              have m2 : wrap64 ((kk : Int) - (q : Int)) = (d : Int) := by unfold wrap64; omega
                              have m3 : IntKind.u64.wrap (d : Int) = (d : Int) := by rw [show IntKind.u64.wrap (d : Int) = (d : Int) % 18446744073709551616 from rfl]; omega
                              have m4 : IntKind.i64.wrap ((kk : Int) - (q : Int)) = (d : Int) := by rw [IntKind.wrap_i64]; omega
                              have hmin : min d 64 = d := by omega
                              have hd64 : (d : Int) ≤ 64 := by omega
                              obtain ⟨y, hy⟩ : ∃ y, c / 2 ^ d = y := ⟨_, rfl⟩
                              have m5 : (c : Int) / 2 ^ d = (y : Int) := by rw [← hy]; simp
                              have hP : (q ≤ kk ∧ c / 2 ^ (kk - q) = x) ↔ y = x := by
                                rw [hd, hy]
                                exact ⟨fun h => h.2, fun h => ⟨by omega, h⟩⟩
                              have g1 : ((kk : Int) == (q : Int)) = false := by simp; omega
                              by_cases hyx : y = x
                              · have g4 : ((y : Int) == (x : Int)) = true := by simp; omega
                                have HNX := Lib.hid (HST.out f true (.inr ⟨fun h => by omega, rfl⟩) (by rw [decide_eq_true (hP.2 hyx)]; simp))
                                clear hP HST hd hy hk hyx
                                cases al
                                · go_wp2_with fail
                                  exact ⟨⟨f, true, s + 1, rfl, rfl, by go_num, by omega, trivial, HNX⟩, by simp only [Go.RowKit.intOf]; omega⟩
                                · go_wp2_with fail
                                  exact ⟨⟨f, true, s + 1, rfl, rfl, by go_num, by omega, trivial, HNX⟩, by simp only [Go.RowKit.intOf]; omega⟩
                              · have g4 : ((y : Int) == (x : Int)) = false := by simp; omega
                                have HNX := Lib.hid (HST.out f al (.inr ⟨fun h => by omega, rfl⟩) (by rw [decide_eq_false (fun h => hyx (hP.1 h))]; simp))
                                clear hP HST hd hy hk hyx
                                cases al
                                · go_wp2_with fail
                                  exact ⟨⟨f, false, s + 1, rfl, rfl, by go_num, by omega, trivial, HNX⟩, by simp only [Go.RowKit.intOf]; omega⟩
                                · go_wp2_with fail
                                  exact ⟨⟨f, true, s + 1, rfl, rfl, by go_num, by omega, trivial, HNX⟩, by simp only [Go.RowKit.intOf]; omega⟩
                          · obtain rfl : s = n := by omega
                            have hlt2i : ¬ (s : Int) < (s : Int) := by omega
                            have hin := HIN.out
                            rw [show s = L.length from HLL.out.symm] at hin
                            obtain ⟨d1, d2⟩ := hin.done HLO.out (l := l) (p := p1) (by omega) hmq' HFX.out
                            by_cases hxe : x < endN L q
                            · obtain ⟨rfl, rfl⟩ := d1 hxe
                              have HNX : Hid (MdR L l T _ x q p1) := Lib.hid (.inr ⟨_, rfl, by rw [← HSTT.out, if_pos hxe]⟩)
                              clear HIN hin d1 d2 hxe
                              go_wp2_with fail
                              exact ⟨⟨p1, x, q, _, rfl, rfl, rfl, rfl, by omega, trivial, HNX⟩, by simp only [Go.RowKit.intOf]; omega⟩
                            · obtain ⟨rfl, hal'⟩ := d2 hxe
                              by_cases hE : endN L 15 ≤ x * 2 ^ m'
                              · have half : al = false := by rw [← Bool.not_eq_true]; intro h; exact hal'.1 h hE
                                subst half
                                have hTT : T = (0, p1, 9) := by rw [← HSTT.out, if_neg hxe, if_pos hE]
                                have hRR : R = ([], p1, 9) := by rw [← HSTEP.out, hTT]; rfl
                                have hF2 : F = ([], 9) := by rw [HFF.out, hRR]; rfl
                                have HE := Lib.hid (show DecV w F (.returned (.tuple #[.slice none 0 0, .int .i64 9])) _ from by rw [hF2]; exact decV_nil 9 (HW.out _ HS.out.b) 9 rfl)
                                clear HIN hin d1 d2 hxe hE hTT hRR hF2 HS HSTEP
                                go_wp2_with fail
                                go_ret2
                                exact HE.out
                              · have halt : al = true := hal'.2 hE
                                subst halt
                                have HNX : Hid (MdR L l T (-1) x q p1) := Lib.hid (.inl ⟨rfl, m', by
                                  rcases Nat.eq_zero_or_pos m' with h | h
                                  · subst h
                                    rw [Nat.pow_zero, Nat.mul_one] at hE
                                    rw [show q = 15 by omega] at hxe
                                    omega
                                  · exact h, hmq', by omega, HXB.out, by rw [← HSTT.out, if_neg hxe, if_neg hE]⟩)
                                clear HIN hin d1 d2 hxe hE
                                go_wp2_with fail
                                exact ⟨⟨p1, x, q, -1, rfl, rfl, rfl, rfl, by omega, trivial, HNX⟩, by simp only [Go.RowKit.intOf]; omega⟩
                      · have n4p : (y : Int) + 1 = (x : Int) := by rw [← hx]; rfl
                        have n4 : IntKind.u64.wrap ((y : Int) + 1) = (x : Int) := by
                          have h := u64_add1 (a := y) (by omega)
                          rw [h, ← hx]; rfl
                        clear hx
                        clear n1 n2 n3 n4
                        go_wp2_with fail
                        go_loopw [17, 18, 74] (fun fv av sv wy => ∃ (f : Int) (al : Bool) (s : Nat), fv = .int .i64 f ∧ av = .bool al ∧ sv = .int .i64 s ∧ s ≤ n ∧ wy = wp ∧ Hid (InR L q x s f al)) (fun _ _ sv _ => n - (Go.RowKit.intOf sv).toNat)
                        case atStart => exact ⟨-1, false, 0, rfl, rfl, rfl, Nat.zero_le _, rfl, Lib.hid (InR.zero L q x)⟩
                        case round =>
                          obtain ⟨f, al, s, rfl, rfl, rfl, hsn, hwy, HIN⟩ := hrel
                          subst hwy
                          by_cases hlt2 : s < n
                          · have hlt2i : (s : Int) < (n : Int) := by omega
                            obtain ⟨kk, hkk⟩ : ∃ kk, L[s]? = some kk := ⟨_, List.getElem?_eq_getElem (by rw [HLL.out]; exact hlt2)⟩
                            obtain ⟨r1, r2⟩ := HRW.out _ HS.out.b
                            obtain ⟨ba, oa, rfl, -, hj1⟩ := at_int r1 (by rw [← HCS.out, castN'_len, HLL.out]; omega)
                            obtain ⟨bb, ob, rfl, -, hj2⟩ := at_u r2 (by rw [HCD.out, cdF_len, HLL.out]; omega)
                            have u1 := hj1 s (kk : Int) (by rw [← HCS.out]; unfold castN'; rw [List.getElem?_map, hkk]; rfl)
                            have u2 := hj2 s (codeN L s) (by rw [HCD.out]; exact cdF_at hkk)
                            have hkk15 := HLO.out.2.1 kk (List.mem_of_getElem? hkk)
                            have hcb := codeN_le HLO.out s
                            have HST := Lib.hid (fun (f' : Int) (al' : Bool) => InR.step (f' := f') (al' := al') HIN.out hkk (by omega))
                            obtain ⟨c, hc⟩ : ∃ c, codeN L s = c := ⟨_, rfl⟩
                            rw [hc] at u2 hcb HST
                            clear hj1 hj2 r1 r2 hkk hc HIN
                            rcases Nat.lt_trichotomy kk q with hk | hk | hk
                            · have g1 : ((kk : Int) == (q : Int)) = false := by simp; omega
                              have g2 : decide ((kk : Int) ≥ (q : Int)) = false := decide_eq_false (by omega)
                              have g3 : decide (q ≤ kk) = false := decide_eq_false (by omega)
                              have HNX := Lib.hid (HST.out f al (.inr ⟨fun h => by omega, rfl⟩) (by rw [decide_eq_false (fun h => by omega)]; simp))
                              clear HST
                              cases al
                              · go_wp2_with fail
                                exact ⟨⟨f, false, s + 1, rfl, rfl, by go_num, by omega, trivial, HNX⟩, by simp only [Go.RowKit.intOf]; omega⟩
                              · go_wp2_with fail
                                exact ⟨⟨f, true, s + 1, rfl, rfl, by go_num, by omega, trivial, HNX⟩, by simp only [Go.RowKit.intOf]; omega⟩
                            · have g2 : decide ((kk : Int) ≥ (q : Int)) = true := decide_eq_true (by omega)
                              obtain ⟨d, hd⟩ : ∃ d, kk - q = d := ⟨_, rfl⟩
                              have m1 : (kk : Int) - (q : Int) = (d : Int) := by omega
                              have m2 : wrap64 ((kk : Int) - (q : Int)) = (d : Int) := by unfold wrap64; omega
                              have m3 : IntKind.u64.wrap (d : Int) = (d : Int) := by rw [show IntKind.u64.wrap (d : Int) = (d : Int) % 18446744073709551616 from rfl]; omega
                              have m4 : IntKind.i64.wrap ((kk : Int) - (q : Int)) = (d : Int) := by rw [IntKind.wrap_i64]; omega
                              have hmin : min d 64 = d := by omega
                              have hd64 : (d : Int) ≤ 64 := by omega
                              obtain ⟨y, hy⟩ : ∃ y, c / 2 ^ d = y := ⟨_, rfl⟩
                              have m5 : (c : Int) / 2 ^ d = (y : Int) := by rw [← hy]; simp
                              have hP : (q ≤ kk ∧ c / 2 ^ (kk - q) = x) ↔ y = x := by
                                rw [hd, hy]
                                exact ⟨fun h => h.2, fun h => ⟨by omega, h⟩⟩
                              have g1 : ((kk : Int) == (q : Int)) = true := by simp; omega
                              have hd0 : d = 0 := by omega
                              have hyc : y = c := by rw [← hy, hd0, Nat.pow_zero, Nat.div_one]
                              by_cases hyx : y = x
                              · have g3 : ((c : Int) == (x : Int)) = true := by simp; omega
                                have g4 : ((y : Int) == (x : Int)) = true := by simp; omega
                                have HNX := Lib.hid (HST.out (s : Int) true (.inl ⟨hk, by omega, rfl⟩) (by rw [decide_eq_true (hP.2 hyx)]; simp))
                                clear hP HST hd hy hk hyx hyc hd0
                                cases al
                                · go_wp2_with fail
                                  exact ⟨⟨(s : Int), true, s + 1, rfl, rfl, by go_num, by omega, trivial, HNX⟩, by simp only [Go.RowKit.intOf]; omega⟩
                                · go_wp2_with fail
                                  exact ⟨⟨(s : Int), true, s + 1, rfl, rfl, by go_num, by omega, trivial, HNX⟩, by simp only [Go.RowKit.intOf]; omega⟩
                              · have g3 : ((c : Int) == (x : Int)) = false := by simp; omega
                                have g4 : ((y : Int) == (x : Int)) = false := by simp; omega
                                have HNX := Lib.hid (HST.out f al (.inr ⟨fun h => hyx (hyc.trans h.2), rfl⟩) (by rw [decide_eq_false (fun h => hyx (hP.1 h))]; simp))
                                clear hP HST hd hy hk hyx hyc hd0
                                cases al
                                · go_wp2_with fail
                                  exact ⟨⟨f, false, s + 1, rfl, rfl, by go_num, by omega, trivial, HNX⟩, by simp only [Go.RowKit.intOf]; omega⟩
                                · go_wp2_with fail
                                  exact ⟨⟨f, true, s + 1, rfl, rfl, by go_num, by omega, trivial, HNX⟩, by simp only [Go.RowKit.intOf]; omega⟩
                            · have g2 : decide ((kk : Int) ≥ (q : Int)) = true := decide_eq_true (by omega)
                              obtain ⟨d, hd⟩ : ∃ d, kk - q = d := ⟨_, rfl⟩
                              have m1 : (kk : Int) - (q : Int) = (d : Int) := by omega
                              have m2 : wrap64 ((kk : Int) - (q : Int)) = (d : Int) := by unfold wrap64; omega
                              have m3 : IntKind.u64.wrap (d : Int) = (d : Int) := by rw [show IntKind.u64.wrap (d : Int) = (d : Int) % 18446744073709551616 from rfl]; omega
                              have m4 : IntKind.i64.wrap ((kk : Int) - (q : Int)) = (d : Int) := by rw [IntKind.wrap_i64]; omega
                              have hmin : min d 64 = d := by omega
                              have hd64 : (d : Int) ≤ 64 := by omega
                              obtain ⟨y, hy⟩ : ∃ y, c / 2 ^ d = y := ⟨_, rfl⟩
                              have m5 : (c : Int) / 2 ^ d = (y : Int) := by rw [← hy]; simp
                              have hP : (q ≤ kk ∧ c / 2 ^ (kk - q) = x) ↔ y = x := by
                                rw [hd, hy]
                                exact ⟨fun h => h.2, fun h => ⟨by omega, h⟩⟩
                              have g1 : ((kk : Int) == (q : Int)) = false := by simp; omega
                              by_cases hyx : y = x
                              · have g4 : ((y : Int) == (x : Int)) = true := by simp; omega
                                have HNX := Lib.hid (HST.out f true (.inr ⟨fun h => by omega, rfl⟩) (by rw [decide_eq_true (hP.2 hyx)]; simp))
                                clear hP HST hd hy hk hyx
                                cases al
                                · go_wp2_with fail
                                  exact ⟨⟨f, true, s + 1, rfl, rfl, by go_num, by omega, trivial, HNX⟩, by simp only [Go.RowKit.intOf]; omega⟩
                                · go_wp2_with fail
                                  exact ⟨⟨f, true, s + 1, rfl, rfl, by go_num, by omega, trivial, HNX⟩, by simp only [Go.RowKit.intOf]; omega⟩
                              · have g4 : ((y : Int) == (x : Int)) = false := by simp; omega
                                have HNX := Lib.hid (HST.out f al (.inr ⟨fun h => by omega, rfl⟩) (by rw [decide_eq_false (fun h => hyx (hP.1 h))]; simp))
                                clear hP HST hd hy hk hyx
                                cases al
                                · go_wp2_with fail
                                  exact ⟨⟨f, false, s + 1, rfl, rfl, by go_num, by omega, trivial, HNX⟩, by simp only [Go.RowKit.intOf]; omega⟩
                                · go_wp2_with fail
                                  exact ⟨⟨f, true, s + 1, rfl, rfl, by go_num, by omega, trivial, HNX⟩, by simp only [Go.RowKit.intOf]; omega⟩
                          · obtain rfl : s = n := by omega
                            have hlt2i : ¬ (s : Int) < (s : Int) := by omega
                            have hin := HIN.out
                            rw [show s = L.length from HLL.out.symm] at hin
                            obtain ⟨d1, d2⟩ := hin.done HLO.out (l := l) (p := p1) (by omega) hmq' HFX.out
                            by_cases hxe : x < endN L q
                            · obtain ⟨rfl, rfl⟩ := d1 hxe
                              have HNX : Hid (MdR L l T _ x q p1) := Lib.hid (.inr ⟨_, rfl, by rw [← HSTT.out, if_pos hxe]⟩)
                              clear HIN hin d1 d2 hxe
                              go_wp2_with fail
                              exact ⟨⟨p1, x, q, _, rfl, rfl, rfl, rfl, by omega, trivial, HNX⟩, by simp only [Go.RowKit.intOf]; omega⟩
                            · obtain ⟨rfl, hal'⟩ := d2 hxe
                              by_cases hE : endN L 15 ≤ x * 2 ^ m'
                              · have half : al = false := by rw [← Bool.not_eq_true]; intro h; exact hal'.1 h hE
                                subst half
                                have hTT : T = (0, p1, 9) := by rw [← HSTT.out, if_neg hxe, if_pos hE]
                                have hRR : R = ([], p1, 9) := by rw [← HSTEP.out, hTT]; rfl
                                have hF2 : F = ([], 9) := by rw [HFF.out, hRR]; rfl
                                have HE := Lib.hid (show DecV w F (.returned (.tuple #[.slice none 0 0, .int .i64 9])) _ from by rw [hF2]; exact decV_nil 9 (HW.out _ HS.out.b) 9 rfl)
                                clear HIN hin d1 d2 hxe hE hTT hRR hF2 HS HSTEP
                                go_wp2_with fail
                                go_ret2
                                exact HE.out
                              · have halt : al = true := hal'.2 hE
                                subst halt
                                have HNX : Hid (MdR L l T (-1) x q p1) := Lib.hid (.inl ⟨rfl, m', by
                                  rcases Nat.eq_zero_or_pos m' with h | h
                                  · subst h
                                    rw [Nat.pow_zero, Nat.mul_one] at hE
                                    rw [show q = 15 by omega] at hxe
                                    omega
                                  · exact h, hmq', by omega, HXB.out, by rw [← HSTT.out, if_neg hxe, if_neg hE]⟩)
                                clear HIN hin d1 d2 hxe hE
                                go_wp2_with fail
                                exact ⟨⟨p1, x, q, -1, rfl, rfl, rfl, rfl, by omega, trivial, HNX⟩, by simp only [Go.RowKit.intOf]; omega⟩
                    · have hpli : (k : Int) ≤ (p : Int) := by omega
                      have hTT : T = (0, p, 10) := by
                        rw [← hrd]
                        obtain ⟨m', rfl⟩ : ∃ m', mm = m' + 1 := ⟨mm - 1, by omega⟩
                        unfold rdS
                        rw [List.getElem?_eq_none (by rw [HKL.out]; omega)]
                      have hRR : R = ([], p, 10) := by rw [← HSTEP.out, hTT]; rfl
                      have hF2 : F = ([], 10) := by rw [HFF.out, hRR]; rfl
                      have HE := Lib.hid (show DecV w F (.returned (.tuple #[.slice none 0 0, .int .i64 10])) _ from by rw [hF2]; exact decV_nil 10 (HW.out _ HS.out.b) 10 rfl)
                      clear HM hrd hTT hRR hF2 HS HSTEP hpl hge hvlt
                      go_wp2_with fail
                      go_ret2
                      exact HE.out
                  · have hsn : ¬ (s : Int) < 0 := by omega
                    have hown := HS.out.o
                    rw [HI.out] at hown
                    have hNw : N ≤ wr.heap.size := by have := HS.out.b.size; rw [HNN.out] at this; exact this
                    have hst : dcA L l (m - (i + 1)) p (acc ++ [s]) = R := by rw [← HSTEP.out, hTs]; rfl
                    have HOWN := Lib.hid hown
                    have HPUSH : Hid (∀ v' w4, w4.ownsRow N 3 1 v' (i + 1) (idxV acc ++ [.int .i64 (s : Int)]) → (wr.alloc (.cells #[.int .i64 (s : Int)] 3)).grownBy w4 (Value.slice As i caps).ownBlock → DdAt w3 N L l R m (acc ++ [s]) p v' w4 ∧ slenV v' = i + 1) := Lib.hid (fun v' w4 h1 h2 => by
                      obtain ⟨A4, c4, rfl, -⟩ := own_formI h1
                      refine ⟨⟨(HS.out.b.alloc hNw _).grown h2 (by rw [alloc_sz]; omega) (fun j e => (own_low hown j e).1), ?_, ?_⟩, rfl⟩
                      · rw [List.length_append, HI.out]
                        have e : idxV (acc ++ [s]) = idxV acc ++ [.int .i64 (s : Int)] := by simp [idxV]
                        rw [e]; exact h1
                      · rw [List.length_append, HI.out]; exact hst)
                    clear hown hst hTs HM HS HSTEP
                    go_wp2_with (at_builtin; refine wpList_pushZ rfl (.tmp 113) (.tmp 115) rfl N (.slice As i caps) i _ (s : Int) rfl rfl HOWN.out (by omega) hNw ?_; intro v' w4 ho hg; have HNX := Lib.hid (HPUSH.out v' w4 ho.out hg.out); clear ho hg HPUSH HOWN)
                    exact ⟨⟨acc ++ [s], p, by rw [List.length_append, HI.out]; show i + 1 ≤ m; omega, rfl, Lib.hid HNX.out.1⟩, by rw [HNX.out.2]; simp only [slenV]; omega⟩
              · obtain rfl : i = m := by omega
                have hlti : ¬ (i : Int) < (i : Int) := by omega
                have hRR : R = (acc, p, 0) := by have h := HS.out.e; rw [hi, Nat.sub_self] at h; exact h.symm
                have hrows := own_int HS.out.o
                rw [hi] at hrows
                have HB := Lib.hid (HW.out _ HS.out.b)
                by_cases hpk : p < k
                · have hpki : (p : Int) < (k : Int) := by omega
                  have hF2 : F = ([], 9) := by rw [HFF.out, hRR, if_neg (by simp), if_pos hpk]
                  have HE := Lib.hid (show DecV w F (.returned (.tuple #[.slice none 0 0, .int .i64 9])) wr from by rw [hF2]; exact decV_nil 9 HB.out 9 rfl)
                  clear hRR hrows HS hF2 hpk
                  go_wp2_with fail
                  go_ret2
                  exact HE.out
                · have hpki : ¬ (p : Int) < (k : Int) := by omega
                  have hF2 : F = (acc, 0) := by rw [HFF.out, hRR, if_neg (by simp), if_neg hpk]
                  have HE := Lib.hid (show DecV w F (.returned (.tuple #[.slice As i caps, .int .i64 0])) wr from by rw [hF2]; exact ⟨HB.out, _, rfl, hrows⟩)
                  clear hRR hrows HS hF2 hpk
                  go_wp2_with fail
                  go_ret2
                  exact HE.out
end Go.Proofs.Ytbfnkmibbieijaa
