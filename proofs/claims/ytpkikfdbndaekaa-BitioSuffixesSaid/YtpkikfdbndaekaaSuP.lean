/-
  BitioSuffixes is proved: for every slice of calls and every slice of calls the call of the law returns true, and each argument reads afterwards as it read before. It has no condition.
-/
import Derived.Test.YtpkikfdbndaekaaRows
import Derived.Test.YtpkikfdbndaekaaBjH
import Derived.Test.YtpkikfdbndaekaaBiU
import Derived.Test.YtpkikfdbndaekaaBiE
import Derived.ProofKit
import Derived.OpenShut
import Derived.Carry
import Derived.Deep.RegionHeld3
import Derived.Deep.DrawnRows
namespace Go.Proofs.Ytpkikfdbndaekaa.bitioSuffixes
open Go.ChangeShapes Go.WideShapes Go.ChangeAt Go.RowKit Go.Shelf Go.Lib
set_option linter.unusedVariables false

/-- Between two rounds of the first loop. -/
def Rel1 (w : World) (n : Nat) (i : Value) (wr : World) : Prop :=
  ∃ (k : Nat) (l : List Bool) (v : Value), k ≤ n ∧ i = .int .i64 k ∧ l.length ≤ 4097 * k ∧ TwoAt wr w.heap.size w.heap.size v l (w.heap.size + 1) (.slice none 0 0) [] ∧ Below w.heap.size w wr
/-- Between two rounds of the second loop. -/
def Rel2 (w : World) (n : Nat) (l : List Bool) (i : Value) (wr : World) : Prop :=
  ∃ (k : Nat) (m : List Bool) (v v2 : Value), k ≤ n ∧ i = .int .i64 k ∧ m.length ≤ 4097 * k ∧ TwoAt wr w.heap.size w.heap.size v (l ++ m) (w.heap.size + 1) v2 m ∧ Below w.heap.size w wr
/-- Between two rounds of the third loop. -/
def Rel3 (w : World) (n1 n2 : Nat) (v1 v2 : Value) (l m : List Bool) (M : Nat) (i : Value) (wr : World) : Prop :=
  ∃ k : Nat, k ≤ M ∧ i = .int .i64 k ∧ wr.ownsRow n1 4 1 v1 (l.length + M) (boolCells (l ++ m)) ∧ wr.ownsRow n2 4 1 v2 M (boolCells m) ∧ Below w.heap.size w wr

set_option maxRecDepth 100000 in
set_option maxHeartbeats 8000000 in
theorem walk (vb : Value) (cb : List CallL) {w : World} (hsb : SeesK w w.heap.size vb cb) (hmb : cb.length ≤ maxLen) (vc : Value) (cc : List CallL) (hsc : SeesK w w.heap.size vc cc) (hmc : cc.length ≤ maxLen) :
    Calls Try.prog 12 #[vb, vc] w fun e w1 => e = .returned (.bool true) ∧ Below w.heap.size w w1 := by
  unfold maxLen at hmb hmc
  obtain ⟨A, capa, hv, hcb⟩ := hsb
  obtain ⟨C, capc, hvc, hcc⟩ := hsc
  obtain ⟨nb, hnb⟩ : ∃ nb, cb.length = nb := ⟨_, rfl⟩
  obtain ⟨nc, hnc⟩ : ∃ nc, cc.length = nc := ⟨_, rfl⟩
  rw [hnb] at hv hmb
  rw [hnc] at hvc hmc
  subst hv hvc
  have HNB := Lib.hid hnb
  have HNC := Lib.hid hnc
  have HCB := Lib.hid hcb
  have HCC := Lib.hid hcc
  have hbz : Below w.heap.size w ((w.alloc (.cells #[.slice none 0 0, .int .i64 0] 67)).alloc (.cells #[.slice none 0 0, .int .i64 0] 67)) := ((Below.refl _ _).alloc (Nat.le_refl _) _).alloc (by simp) _
  have HBZ := Lib.hid hbz
  clear hnb hnc hcb hcc hbz
  by_cases h8 : 8 < nb
  · have h8' : (8 : Int) < nb := by omega
    go_enter Try.func12, Try.ntmps12
    go_wp2_with fail
    refine (newWriter_any _).mono ?_
    rintro e w1 ⟨rfl, rfl⟩
    go_wp2_with fail
    refine (newWriter_any _).mono ?_
    rintro e w1 ⟨rfl, rfl⟩
    go_wp2_with fail
    go_ret
    exact ⟨rfl, HBZ.out⟩
  · by_cases h9 : 8 < nc
    · have h8' : (nb : Int) ≤ 8 := by omega
      have h9' : (8 : Int) < nc := by omega
      go_enter Try.func12, Try.ntmps12
      go_wp2_with fail
      refine (newWriter_any _).mono ?_
      rintro e w1 ⟨rfl, rfl⟩
      go_wp2_with fail
      refine (newWriter_any _).mono ?_
      rintro e w1 ⟨rfl, rfl⟩
      go_wp2_with fail
      go_ret
      exact ⟨rfl, HBZ.out⟩
    · have h8' : (nb : Int) ≤ 8 := by omega
      have h9' : (nc : Int) ≤ 8 := by omega
      have htwo : TwoAt ((w.alloc (.cells #[.slice none 0 0, .int .i64 0] 67)).alloc (.cells #[.slice none 0 0, .int .i64 0] 67)) w.heap.size w.heap.size (.slice none 0 0) [] (w.heap.size + 1) (.slice none 0 0) [] := by
        have h2 := writer_new (w.alloc (.cells #[.slice none 0 0, .int .i64 0] 67))
        rw [World.size_alloc] at h2
        exact ⟨(writer_new w).alloc _, ⟨Nat.le_succ _, h2.2.1, World.ownsRow_nil _ _ _ _⟩, by omega, fun q e => by simp [Value.ownBlock] at e⟩
      have HTWO := Lib.hid htwo
      clear htwo
      go_enter Try.func12, Try.ntmps12
      go_wp2_with fail
      refine (newWriter_any _).mono ?_
      rintro e w1 ⟨rfl, rfl⟩
      go_wp2_with fail
      refine (newWriter_any _).mono ?_
      rintro e w1 ⟨rfl, rfl⟩
      go_wp2_with fail
      go_loopw [35] (fun i wr => Rel1 w nb i wr) (fun i _ => nb - (intOf i).toNat)
      case atStart => exact ⟨0, [], _, Nat.zero_le _, rfl, Nat.le_refl _, HTWO.out, HBZ.out⟩
      case round =>
        obtain ⟨k, l, v, hk, rfl, hl, htw, hb⟩ := hrel
        by_cases hlt : k < nb
        · have hkl : k < cb.length := by rw [HNB.out]; exact hlt
          obtain ⟨bk, off, rfl, hbB, hall⟩ := HCB.out (by omega)
          obtain ⟨hok, g0, g1, g2⟩ := hall k hkl
          obtain ⟨bs, ok, ev, _, hbs, hcase, _, hwr⟩ := call_both (cb[k]'hkl) hok
          have c0 := (hb.cell (p := ⟨bk, off + k * 3, none⟩) hbB).trans g0
          have c1 := (hb.cell (p := ⟨bk, off + k * 3 + 1, none⟩) hbB).trans g1
          have c2 := (hb.cell (p := ⟨bk, off + k * 3 + 2, none⟩) hbB).trans g2
          rw [call_apart] at hwr
          obtain ⟨ck, hck⟩ : ∃ ck, (cb[k]'hkl).kind = ck := ⟨_, rfl⟩
          obtain ⟨cv, hcv⟩ : ∃ cv, (cb[k]'hkl).v = cv := ⟨_, rfl⟩
          obtain ⟨cn, hcn⟩ : ∃ cn, (cb[k]'hkl).n = cn := ⟨_, rfl⟩
          rw [hck] at c0 hwr
          rw [hcv] at c1 hwr
          rw [hcn] at c2 hwr
          have hta := htw.alloc (.cells #[.int .i64 ck, .int .u64 cv, .int .i64 cn] 40)
          have hba : Below w.heap.size w (wr.alloc (.cells #[.int .i64 ck, .int .u64 cv, .int .i64 cn] 40)) := hb.alloc hb.size _
          have hsza : (wr.alloc (.cells #[.int .i64 ck, .int .u64 cv, .int .i64 cn] 40)).heap.size = wr.heap.size + 1 := by simp
          have HTA := Lib.hid hta
          have HBA := Lib.hid hba
          have HWR := Lib.hid hwr
          clear htw hb hall g0 g1 g2 hok hck hcv hcn hta hba hwr hsza hcase
          go_wp2_with fail
          refine (HWR.out _ _ _ _ _ HTA.out.1 HBA.out.size (by omega)).mono ?_
          rintro e w3 ⟨v3, rfl, hw3, hs3⟩
          have ht3 := HTA.out.left hs3 hw3
          have hb3 := HBA.out.trans (HTA.out.1.below hs3 HBA.out.size)
          have HT3 := Lib.hid ht3
          have HB3 := Lib.hid hb3
          clear hw3 hs3 ht3 hb3 c0 c1 c2
          go_wp2_with fail
          go_roundw
          case rel => exact ⟨k + 1, l ++ bs, v3, by omega, by go_num, by rw [List.length_append]; omega, HT3.out, HB3.out⟩
          case measure => simp [intOf]; omega
        · have hkn : k = nb := by omega
          subst hkn
          have hlen := len_any htw.1
          have hl8 : l.length ≤ 32776 := by omega
          have HTW := Lib.hid htw
          have HB := Lib.hid hb
          have HLEN := Lib.hid hlen
          clear htw hb hlen hk hlt hl
          go_wp2_with fail
          refine HLEN.out.mono ?_
          rintro e w2 ⟨rfl, rfl⟩
          clear HLEN
          go_wp2_with fail
          go_loopw [47] (fun i wr => Rel2 w nc l i wr) (fun i _ => nc - (intOf i).toNat)
          case atStart => exact ⟨0, [], v, _, Nat.zero_le _, rfl, Nat.le_refl _, by rw [List.append_nil]; exact HTW.out, HB.out⟩
          case round =>
            clear HTW HB
            obtain ⟨k, m, v, v2, hk, rfl, hm, htw, hb⟩ := hrel
            by_cases hlt : k < nc
            · have hkl : k < cc.length := by rw [HNC.out]; exact hlt
              obtain ⟨bk, off, rfl, hbB, hall⟩ := HCC.out (by omega)
              obtain ⟨hok, g0, g1, g2⟩ := hall k hkl
              obtain ⟨bs, ok, ev, _, hbs, hcase, _, hwr⟩ := call_both (cc[k]'hkl) hok
              have c0 := (hb.cell (p := ⟨bk, off + k * 3, none⟩) hbB).trans g0
              have c1 := (hb.cell (p := ⟨bk, off + k * 3 + 1, none⟩) hbB).trans g1
              have c2 := (hb.cell (p := ⟨bk, off + k * 3 + 2, none⟩) hbB).trans g2
              rw [call_apart] at hwr
              obtain ⟨ck, hck⟩ : ∃ ck, (cc[k]'hkl).kind = ck := ⟨_, rfl⟩
              obtain ⟨cv, hcv⟩ : ∃ cv, (cc[k]'hkl).v = cv := ⟨_, rfl⟩
              obtain ⟨cn, hcn⟩ : ∃ cn, (cc[k]'hkl).n = cn := ⟨_, rfl⟩
              rw [hck] at c0 hwr
              rw [hcv] at c1 hwr
              rw [hcn] at c2 hwr
              have hta := htw.alloc (.cells #[.int .i64 ck, .int .u64 cv, .int .i64 cn] 40)
              have hba : Below w.heap.size w (wr.alloc (.cells #[.int .i64 ck, .int .u64 cv, .int .i64 cn] 40)) := hb.alloc hb.size _
              have hsza : (wr.alloc (.cells #[.int .i64 ck, .int .u64 cv, .int .i64 cn] 40)).heap.size = wr.heap.size + 1 := by simp
              have hbn := block_new wr (.cells #[.int .i64 ck, .int .u64 cv, .int .i64 cn] 40)
              have hcp1 := copy_apart htw.1
              have hcp2 := copy_apart htw.2.1
              obtain ⟨W1, hW1⟩ : ∃ W1, wr.alloc (.cells #[.int .i64 ck, .int .u64 cv, .int .i64 cn] 40) = W1 := ⟨_, rfl⟩
              have HW1 := Lib.hid hW1
              rw [hW1] at hta hba hsza hbn
              have hcall1 := hwr W1.drew _ _ _ _ hta.drew.1 hba.size (by rw [List.length_append]; omega)
              have hcall2 := fun (W : World) (B g : Nat) (v : Value) (h : WAt W B g v m) (hB : B ≤ W.heap.size) => hwr W B g v m h hB (by omega)
              have d0 : W1.cell? ⟨wr.heap.size, 0, none⟩ = some (.int .i64 ck) := cell_of (i := 0) hbn rfl
              have d1 : W1.cell? ⟨wr.heap.size, 1, none⟩ = some (.int .u64 cv) := cell_of (i := 1) hbn rfl
              have d2 : W1.cell? ⟨wr.heap.size, 2, none⟩ = some (.int .i64 cn) := cell_of (i := 2) hbn rfl
              have HTA := Lib.hid hta
              have HBA := Lib.hid hba
              have HC1 := Lib.hid hcall1
              have HC2 := Lib.hid hcall2
              have HBN := Lib.hid hbn
              have HCP1 := Lib.hid hcp1
              have HCP2 := Lib.hid hcp2
              have hev : (ev != ev) = false := by simp
              have HDD : Hid (∀ W : World, W.heap[wr.heap.size]? = some (.cells #[.int .i64 ck, .int .u64 cv, .int .i64 cn] 40 (0, 0)) → W.cell? ⟨wr.heap.size, 0, none⟩ = some (.int .i64 ck) ∧ W.cell? ⟨wr.heap.size, 1, none⟩ = some (.int .u64 cv) ∧ W.cell? ⟨wr.heap.size, 2, none⟩ = some (.int .i64 cn)) := fun W h => ⟨cell_of (i := 0) h rfl, cell_of (i := 1) h rfl, cell_of (i := 2) h rfl⟩
              clear htw hb hall g0 g1 g2 hok hck hcv hcn hta hba hwr hsza hcase hbn hcp1 hcp2 hcall1 hcall2
              go_wp2_with fail
              clear hW1 c0 c1 c2
              go_region_held3 (fun w' => w'.cell? ⟨wr.heap.size, 0, none⟩ = some (.int .i64 ck) ∧ w'.cell? ⟨wr.heap.size, 1, none⟩ = some (.int .u64 cv) ∧ w'.cell? ⟨wr.heap.size, 2, none⟩ = some (.int .i64 cn))
                (first
                  | go_keep
                  | (exact HDD.out _ (stepped_cell hs4 (stepped_cell hs3 HBN.out HCP1.out.1 HCP1.out.2) HCP2.out.1 HCP2.out.2))
                  | (exact HDD.out _ (stepped_cell hs3 HBN.out HCP1.out.1 HCP1.out.2)))
                ((first
                  | (go_at_call 21; refine (HC2.out _ _ _ _ (HTA.out.drew.left hs3 hw3).2.1 (Nat.le_trans HBA.out.size hs3.size)).mono ?_; rintro e w4 ⟨v4, rfl, hw4, hs4⟩)
                  | (go_at_call 21; refine HC1.out.mono ?_; rintro e w3 ⟨v3, rfl, hw3, hs3⟩)))
              have ht3 := HTA.out.drew.left hs3 hw3
              have ht4 := ht3.right hs4 hw4
              rw [List.append_assoc] at ht4
              have hb3 := HBA.out.drew.trans (HTA.out.drew.1.below hs3 HBA.out.size)
              have hb4 := hb3.trans (ht3.2.1.below hs4 hb3.size)
              have HT4 := Lib.hid ht4
              have HB4 := Lib.hid hb4
              clear hw3 hs3 hw4 hs4 ht3 ht4 hb3 hb4 d0 d1 d2
              go_wp2_with fail
              go_roundw
              case rel => exact ⟨k + 1, m ++ bs, v3, v4, by omega, by go_num, by rw [List.length_append]; omega, HT4.out, HB4.out⟩
              case measure => simp [intOf]; omega
            · have hkn : k = nc := by omega
              subst hkn
              have hm8 : m.length ≤ 32776 := by omega
              obtain ⟨N, hN⟩ : ∃ N, (l ++ m).length = N := ⟨_, rfl⟩
              obtain ⟨M, hM⟩ : ∃ M, m.length = M := ⟨_, rfl⟩
              have hNM : N = l.length + M := by rw [← hN, ← hM, List.length_append]
              have hN8 : N ≤ 65552 := by omega
              obtain ⟨P, hP⟩ : ∃ P, pack (l ++ m) = P := ⟨_, rfl⟩
              obtain ⟨Q, hQ⟩ : ∃ Q, pack m = Q := ⟨_, rfl⟩
              have hPL : P.length = (N + 7) / 8 := by rw [← hP, pack_len, hN]
              have hQL : Q.length = (M + 7) / 8 := by rw [← hQ, pack_len, hM]
              have hUP : unpack P N = l ++ m := by rw [← hP, ← hN]; exact unpack_pack _
              have hUQ : unpack Q M = m := by rw [← hQ, ← hM]; exact unpack_pack _
              subst hNM
              have hby := bytes_any htw.1 (by rw [hN]; omega)
              rw [hP] at hby
              have HBY := Lib.hid hby
              have HTW := Lib.hid htw
              have HB := Lib.hid hb
              have HNN := Lib.hid hN
              have HMM := Lib.hid hM
              have HPL := Lib.hid hPL
              have HQL := Lib.hid hQL
              have HUP := Lib.hid hUP
              have HUQ := Lib.hid hUQ
              have HQ := Lib.hid hQ
              clear hk hlt hm htw hb hby hN hM hP hQ hPL hQL hUP hUQ
              go_wp2_with fail
              refine HBY.out.mono ?_
              rintro e w5 ⟨va, rfl, hown5, hb5⟩
              have htw5 := HTW.out.below hb5
              have hby := bytes_any htw5.2.1 (by rw [HMM.out]; omega)
              rw [HQ.out] at hby
              have HBY2 := Lib.hid hby
              have HT5 := Lib.hid htw5
              have HB5 := Lib.hid (HB.out.trans (hb5.mono HB.out.size))
              have HO5 := Lib.hid hown5
              clear htw5 hby hb5 hown5 HTW HB HBY
              go_wp2_with fail
              refine HBY2.out.mono ?_
              rintro e w6 ⟨vb, rfl, hown6, hb6⟩
              have htw6 := HT5.out.below hb6
              have hown5 := own_below HO5.out (fun q e => hb6.block q (own_low HO5.out q e).2)
              obtain ⟨Aa, ca, rfl, hca⟩ := own_form hown5
              obtain ⟨Ab, cb', rfl, hcb'⟩ := own_form hown6
              have hsa := sees_own hown5
              have hsb := sees_own hown6
              have hl1 := len_any htw6.1
              have hl2 := len_any htw6.2.1
              rw [HNN.out] at hl1
              rw [HMM.out] at hl2
              have HT6 := Lib.hid htw6
              have HB6 := Lib.hid (HB5.out.trans (hb6.mono HB5.out.size))
              have HSA := Lib.hid hsa
              have HSB := Lib.hid hsb
              have HL1 := Lib.hid hl1
              have HL2 := Lib.hid hl2
              clear htw6 hsa hsb hl1 hl2 hb6 hown5 hown6 HT5 HB5 HO5 HBY2
              go_wp2_with fail
              refine HL1.out.mono ?_
              rintro e w7 ⟨rfl, rfl⟩
              go_wp2_with fail
              refine HL2.out.mono ?_
              rintro e w7 ⟨rfl, rfl⟩
              go_wp2_with fail
              have hPL := HPL.out
              have hQL := HQL.out
              refine HL1.out.mono ?_
              rintro e w7 ⟨rfl, rfl⟩
              go_wp2_with fail
              refine HL2.out.mono ?_
              rintro e w7 ⟨rfl, rfl⟩
              go_wp2_with fail
              have hua := unpack_any HSA.out (by rw [HPL.out]; omega) (l.length + M) (by rw [HPL.out]; omega)
              rw [HUP.out, HPL.out] at hua
              have HUA := Lib.hid hua
              clear hua hPL hQL
              refine HL1.out.mono ?_
              rintro e w7 ⟨rfl, rfl⟩
              go_wp2_with fail
              refine HUA.out.mono ?_
              rintro e w7 ⟨vl, rfl, hown7, hb7⟩
              have htw7 := HT6.out.below hb7
              have hl2 := len_any htw7.2.1
              rw [HMM.out] at hl2
              have hub := unpack_any ((HSB.out.below hb7).mono hb7.size) (by rw [HQL.out]; omega) M (by rw [HQL.out]; omega)
              rw [HUQ.out, HQL.out] at hub
              have HUB := Lib.hid hub
              have HL2 := Lib.hid hl2
              have HO7 := Lib.hid hown7
              have HB7 := Lib.hid (HB6.out.trans (hb7.mono HB6.out.size))
              clear htw7 hl2 hub hown7 hb7 HUA HT6 HB6
              go_wp2_with fail
              refine HL2.out.mono ?_
              rintro e w8 ⟨rfl, rfl⟩
              go_wp2_with fail
              refine HUB.out.mono ?_
              rintro e w8 ⟨vm, rfl, hown8, hb8⟩
              have hown7 := own_below HO7.out (fun q e => hb8.block q (own_low HO7.out q e).2)
              obtain ⟨Al, cl, rfl, hcl⟩ := own_form hown7
              obtain ⟨Am, cm, rfl, hcm⟩ := own_form hown8
              have HOL := Lib.hid hown7
              have HOM := Lib.hid hown8
              have HB8 := Lib.hid (HB7.out.trans (hb8.mono HB7.out.size))
              clear hown7 hown8 hb8 HUB HO7 HB7
              go_wp2_with fail
              go_loopw [98] (fun i wr => Rel3 w w6.heap.size w7.heap.size (.slice Al (l.length + M) cl) (.slice Am M cm) l m M i wr) (fun i _ => M - (intOf i).toNat)
              case atStart => exact ⟨0, Nat.zero_le _, rfl, HOL.out, HOM.out, HB8.out⟩
              case round =>
                clear HOL HOM HB8
                obtain ⟨k2, hk2, rfl, hol, hom, hb⟩ := hrel
                by_cases hlt2 : k2 < M
                · obtain ⟨hsl, hll⟩ := seesC_own hol
                  obtain ⟨hsm, hml⟩ := seesC_own hom
                  obtain ⟨A1, c1, hv1, _, hpos1⟩ := hsl.form
                  obtain ⟨A2, c2, hv2, _, hpos2⟩ := hsm.form
                  rw [hll] at hv1 hpos1
                  rw [hml] at hv2 hpos2
                  simp only [Value.slice.injEq, true_and] at hv1 hv2
                  obtain ⟨rfl, rfl⟩ := hv1
                  obtain ⟨rfl, rfl⟩ := hv2
                  obtain ⟨b1, off1, rfl, _, hc1⟩ := hpos1 (by omega)
                  obtain ⟨b2, off2, rfl, _, hc2⟩ := hpos2 (by omega)
                  have hkm : k2 < m.length := by rw [HMM.out]; exact hlt2
                  have e1 := hc1 (l.length + k2) (.bool (m[k2]'hkm)) (by simp [boolCells, hkm])
                  have e2 := hc2 k2 (.bool (m[k2]'hkm)) (by simp [boolCells, hkm])
                  obtain ⟨x, hx⟩ : ∃ x, m[k2]'hkm = x := ⟨_, rfl⟩
                  rw [hx] at e1 e2
                  have hsum : IntKind.i64.wrap ((l.length : Int) + (k2 : Int)) = ((l.length + k2 : Nat) : Int) := by rw [IntKind.wrap_i64]; omega
                  have hxx : (x != x) = false := by simp
                  have HOL := Lib.hid hol
                  have HOM := Lib.hid hom
                  have HB := Lib.hid hb
                  clear hsl hll hsm hml hpos1 hpos2 hc1 hc2 hkm hx hol hom hb
                  go_wp2_with fail
                  go_quiet (fail)
                  go_wp2_with fail
                  go_roundw
                  case rel => exact ⟨k2 + 1, by omega, by go_num, own_below HOL.out (fun q e => rfl), own_below HOM.out (fun q e => rfl), below_drewN HB.out _⟩
                  case measure => simp [intOf]; omega
                · have hkM : k2 = M := by omega
                  subst hkM
                  have HB := Lib.hid hb
                  clear hol hom hb hlt2 hk2
                  go_wp2_with fail
                  refine (awake_any _).mono ?_
                  rintro e w9 ⟨rfl, hb9⟩
                  have HB9 := Lib.hid hb9
                  clear hb9
                  go_wp2_with fail
                  go_ret
                  exact ⟨rfl, HB.out.trans (HB9.out.mono HB.out.size)⟩

theorem own : ownKnob Try.prog.godebug = none := by kernel_rfl

set_option maxRecDepth 100000 in
theorem lifted (os : Os) (started : os.Started) (H : Type) (enc : TypeId × Value → H) :
    ReturnsInHanded {} Try.checked os 12 .any (Rows.bitioSuffixesSpec.pre6 enc Try.prog Try.f12 Rows.bitioSuffixesRow.domain false) (Rows.bitioSuffixesSpec.post enc Try.prog Try.f12 false true false false) := by
  refine returnsInHanded_of_change (C := Try.checked) own started (by kernel_rfl) Try.func12
    (ChangeSpec.witness6 (enc := enc) (C := Try.checked) false ⟨#[], #[.slice none 0 0, .slice none 0 0], []⟩ 8 (by kernel_rfl) (by kernel_rfl) (by kernel_rfl) (by kernel_rfl)) ?_
  intro W base args ds gs before hval0 hW hcnd _
  have hval : ∀ (j : Nat) t v, Try.f12.params[j]? = some t → args[j]? = some v → Value.okWide Try.prog W .any base t v := hval0
  have hW' := hW
  have hplt : ∀ x ∈ before, x.block < W.heap.size := fun x hx => hW.lt x hx
  obtain ⟨p, q, hA0, hV, rfl, hfz, hnd⟩ := hW
  have hA : DataW.TrodAll enc Try.prog W 0 (fun _ => true) true Try.f12.params.toList args.toList ds p := hA0
  rw [Try.params12] at hA hval
  obtain ⟨v0, vs0, d0, ds0, p0, q0, hargs, rfl, rfl, h0, r0⟩ := trodAll_cons hA
  obtain ⟨v1, vs1, d1, ds1, p1, q1, rfl, rfl, rfl, h1, r1⟩ := trodAll_cons r0
  obtain ⟨rfl, rfl, rfl⟩ := trodAll_nil r1
  obtain rfl : args = #[v0, v1] := by cases args; simp_all
  obtain ⟨rfl, rfl⟩ := trodVars_none hV
  obtain ⟨L0, s0, m0⟩ := open_calls (hval 0 35 v0 rfl rfl) h0
  obtain ⟨L1, s1, m1⟩ := open_calls (hval 1 35 v1 rfl rfl) h1
  clear hA0 hval0
  refine (walk v0 L0 s0 m0 v1 L1 s1 m1).mono fun e W' ⟨he, bel⟩ => ?_
  subst he
  exact ⟨_, rfl, _, _, _, [], _, [], hW', trodAll_mk1 (shut_bool Try.underlying4 _), (trodAll_cons_mk (Below.trod Try.laidOut (by kernel_rfl) (of_decide_eq_true (by kernel_rfl)) h0 bel (fun x hx => hplt x (by simp [hx]))) (trodAll_cons_mk (Below.trod Try.laidOut (by kernel_rfl) (of_decide_eq_true (by kernel_rfl)) h1 bel (fun x hx => hplt x (by simp [hx]))) trodAll_mk0)), rfl, World.keptBut_mono (fun x hx => ⟨hx, Or.inr (by simpa using hx)⟩) (bel.frame (· ∈ _)), fun h => by cases h⟩

theorem over : Rows.bitioSuffixesRow.holds Try.pinned (OpenSpec.ofChange Rows.bitioSuffixesSpec) :=
  OpenClaim.holds_of_wide 12 Try.f12 rfl rfl rfl rfl rfl rfl rfl ⟨rfl, rfl, rfl, rfl, rfl⟩ rfl rfl rfl rfl rfl (by kernel_rfl) Try.func12 (by kernel_rfl)
    (of_decide_eq_true (by kernel_rfl)) (by unfold Func.isWrapper; first | (rw [if_pos (by decide +kernel)]; kernel_rfl) | (rw [if_neg (by decide +kernel)]; exact ⟨rfl, rfl⟩))
    (fun os started H enc _ => lifted os started H enc)

/-- THE STATEMENT. -/
theorem proved : Rows.BitioSuffixesSaid := over
end Go.Proofs.Ytpkikfdbndaekaa.bitioSuffixes
