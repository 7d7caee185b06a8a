/-
  WALKS over package huffman: read (the code of one symbol).
  WALKS over package huffman: Decode.
  MATHEMATICS: what is encoded is decoded again; the number of its bits; the lengths for counts are valid.
  MATHEMATICS: the lengths for counts are valid; what Encode and Decode answer for symbols that are counted.
-/
import Derived.Test.YteennnhinfnahaaDoorTzJ
import Derived.Test.YteennnhinfnahaaDoorTzM
namespace Go.Proofs.YteennnhinfnahaaDoor
open Go.RowKit Go.Shelf Go.Lib
set_option linter.unusedVariables false
set_option linter.unusedSimpArgs false

/-- One symbol of the bits l from position p on: n bits have been read, their word is v. -/
def rdS (L : List Nat) (l : List Bool) : Nat → Nat → Nat → Nat → Nat × Nat × Nat
  | 0, _, _, p => (0, p, 9)
  | m + 1, n, v, p =>
    match l[p]? with
    | none => (0, p, 10)
    | some b =>
      if 2 * v + b.toNat < endN L (n + 1) then ((symsOf L (n + 1)).getD (2 * v + b.toNat - firstN L (n + 1)) 0, p + 1, 0)
      else if endN L 15 ≤ (2 * v + b.toNat) * 2 ^ m then (0, p + 1, 9)
      else rdS L l m (n + 1) (2 * v + b.toNat) (p + 1)
def rdB (L : List Nat) (l : List Bool) (p : Nat) : Nat × Nat × Nat := rdS L l 15 0 0 p
theorem rbits_h1 (l : List Bool) (p : Nat) : rbits l p 1 = match l[p]? with | none => (0, p, 10) | some b => (b.toNat, p + 1, 0) := by
  unfold rbits
  by_cases h : p < l.length
  · rw [if_neg (by omega), List.getElem?_eq_getElem h]
    have : (l.drop p).take 1 = [l[p]] := by
      rw [List.drop_eq_getElem_cons h]; rfl
    rw [this]
    cases l[p] <;> rfl
  · rw [if_pos (by omega), List.getElem?_eq_none (by omega)]
/-- What read answers. -/
def RdV (B g : Nat) (vb : Value) (bs : List UInt8) (size : Nat) (w : World) (t : Nat × Nat × Nat) (e : Ending) (w' : World) : Prop :=
  e = .returned (.tuple #[.int .i64 (t.1 : Nat), .int .i64 (t.2.2 : Nat)]) ∧ RAt w' B g vb bs size t.2.1 ∧ w.grownBy w' (some g)
/-- Between two bits. -/
structure BtAt (w : World) (B g : Nat) (vb : Value) (bs : List UInt8) (size : Nat) (L : List Nat) (R : Nat × Nat × Nat) (m n v p : Nat) (wr : World) : Prop where
  s : m + n = 15
  r : RAt wr B g vb bs size p
  g : w.grownBy wr (some g)
  i : endN L n ≤ v
  b : v < 2 ^ n
  e : rdS L (unpack bs size) m n v p = R

set_option maxRecDepth 100000 in
set_option maxHeartbeats 4000000 in
theorem bookRead_any {w : World} {B g N : Nat} {vb : Value} {bs : List UInt8} {size p : Nat} {vs : List Value} {L : List Nat} (h : RAt w B g vb bs size p) (hL : okLens L)
    (hbk : ∀ W, w.grownBy W (some g) → BkAt W N (fsN L 15) vs (endN L 15) L) :
    Calls Tryd.prog 52 #[.pointer (some ⟨N, 0, none⟩), .func (.func 53) #[.pointer (some ⟨g, 0, none⟩)] #[]] w (RdV B g vb bs size w (rdB L (unpack bs size) p)) := by
  have HBK := Lib.hid hbk
  have HL := Lib.hid hL
  have HST0 : Hid (BtAt w B g vb bs size L (rdB L (unpack bs size) p) 15 0 0 p w) := Lib.hid ⟨rfl, h, grown_drew g w 0, Nat.le_refl _, by decide, rfl⟩
  obtain ⟨R, hR⟩ : ∃ R, rdB L (unpack bs size) p = R := ⟨_, rfl⟩
  rw [hR] at HST0 ⊢
  obtain ⟨E, hE⟩ : ∃ E, endN L 15 = E := ⟨_, rfl⟩
  have HE := Lib.hid hE
  have hE1 : E ≤ 32768 := by rw [← hE]; exact hL.2.2
  clear h hL hbk hR hE
  go_enter Tryd.func52, Tryd.ntmps52
  go_wp2_with fail
  go_loopw [6, 7] (fun uv sv wr => ∃ m n v p : Nat, uv = .int .u64 v ∧ sv = .int .i64 ((n + 1 : Nat) : Int) ∧ Hid (BtAt w B g vb bs size L R m n v p wr)) (fun _ sv _ => 17 - (Go.RowKit.intOf sv).toNat)
  case atStart => exact ⟨15, 0, 0, p, rfl, rfl, HST0⟩
  case round =>
    clear HST0
    obtain ⟨m, n, v, p, rfl, rfl, HS⟩ := hrel
    obtain ⟨q, hq⟩ : ∃ q, n + 1 = q := ⟨_, rfl⟩
    have HQ := Lib.hid hq
    rw [hq]
    have hs := HS.out.s
    cases m with
    | zero =>
      have hli : ¬ (q : Int) ≤ 15 := by omega
      have hRR : R = (0, p, 9) := by rw [← HS.out.e]; rfl
      have HF : Hid (RdV B g vb bs size w R (.returned (.tuple #[.int .i64 0, .int .i64 9])) wr) := Lib.hid ⟨by rw [hRR]; rfl, by rw [hRR]; exact HS.out.r, HS.out.g⟩
      clear HS hs hq hRR
      go_wp2_with fail
      go_ret2
      exact HF.out
    | succ m =>
      have hli : (q : Int) ≤ 15 := by omega
      have HB := Lib.hid (rbits_of HS.out.r 1 1 rfl (by omega))
      rcases hlp : (unpack bs size)[p]? with _ | b
      · have hone : rbits (unpack bs size) p 1 = (0, p, 10) := by rw [rbits_h1, hlp]
        rw [hone] at HB
        have hRR : R = (0, p, 10) := by rw [← HS.out.e]; unfold rdS; rw [hlp]
        have HF : Hid (∀ wa, RAt wa B g vb bs size p → wr.grownBy wa (some g) → RdV B g vb bs size w R (.returned (.tuple #[.int .i64 0, .int .i64 10])) wa) := Lib.hid (fun wa h1 h2 => ⟨by rw [hRR]; rfl, by rw [hRR]; exact h1, grown_trans HS.out.g h2⟩)
        clear HS hs hq hRR hone hlp
        go_wp2_with fail
        refine HB.out.mono ?_
        rintro e wa ⟨rfl, ha, hg⟩
        have HG := Lib.hid (HF.out wa ha hg)
        clear HF ha hg HB
        go_wp2_with fail
        go_ret2
        exact HG.out
      · have hone : rbits (unpack bs size) p 1 = (b.toNat, p + 1, 0) := by rw [rbits_h1, hlp]
        rw [hone] at HB
        obtain ⟨bn, hbn⟩ : ∃ bn, b.toNat = bn := ⟨_, rfl⟩
        have hb1 : bn ≤ 1 := by rw [← hbn]; cases b <;> decide
        rw [hbn] at HB
        have hstep : rdS L (unpack bs size) (m + 1) n v p = if 2 * v + bn < endN L q then ((symsOf L q).getD (2 * v + bn - firstN L q) 0, p + 1, 0)
            else if E ≤ (2 * v + bn) * 2 ^ m then (0, p + 1, 9) else rdS L (unpack bs size) m q (2 * v + bn) (p + 1) := by
          conv => lhs; unfold rdS
          rw [hlp]
          simp only
          rw [hbn, hq, HE.out]
        rw [HS.out.e] at hstep
        have hv15 : v < 2 ^ 14 := Nat.lt_of_lt_of_le HS.out.b (Nat.pow_le_pow_right (by omega) (by omega))
        have hor := rd_val v bn hb1 (by omega)
        obtain ⟨x, hx⟩ : ∃ x, 2 * v + bn = x := ⟨_, rfl⟩
        rw [hx] at hstep hor
        have hxb : x < 2 ^ q := by rw [← hx, ← hq, Nat.pow_succ]; have := HS.out.b; omega
        have hx15 : x < 32768 := by omega
        obtain ⟨f, hf⟩ : ∃ f, firstN L q = f := ⟨_, rfl⟩
        have hfx : f ≤ x := by rw [← hf, ← hx]; unfold firstN; rw [show q - 1 = n by omega]; have := HS.out.i; omega
        obtain ⟨c, hc⟩ : ∃ c, (symsOf L q).length = c := ⟨_, rfl⟩
        have hc1 : c ≤ 1024 := by rw [← hc]; have := cnt_le L q; have := HL.out.1; omega
        have hend : endN L q = f + c := by rw [endN_eq L (by omega), hf, ← hc, symsOf_len]
        rw [hend, hf] at hstep
        have HSTEP := Lib.hid hstep
        obtain ⟨i, hi⟩ : ∃ i, x - f = i := ⟨_, rfl⟩
        have hsub : IntKind.u64.wrap ((x : Int) - (f : Int)) = (i : Int) := by rw [show IntKind.u64.wrap ((x : Int) - (f : Int)) = ((x : Int) - (f : Int)) % 18446744073709551616 from rfl]; omega
        have hcw : IntKind.u64.wrap (c : Int) = (c : Int) := by rw [show IntKind.u64.wrap (c : Int) = (c : Int) % 18446744073709551616 from rfl]; omega
        have HHF := Lib.hid hf
        have HHC := Lib.hid hc
        have HHI := Lib.hid hi
        have HHX := Lib.hid hxb
        have HEND := Lib.hid hend
        have HGS := Lib.hid HS.out.g
        have hqi : (q : Int) < 16 := by omega
        have hq1 : 1 ≤ q := by omega
        have hq15 : q ≤ 15 := by omega
        have hqm : m + q = 15 := by omega
        clear HS hs hq hone hlp hbn hx hxb hf hc hend hstep hi hv15
        go_wp2_with fail
        refine HB.out.mono ?_
        rintro e wa ⟨rfl, ha, hg⟩
        have hga := grown_trans HGS.out hg
        have hbk := HBK.out wa hga
        obtain ⟨vx, hvx⟩ : ∃ v, vs[q]? = some v := ⟨_, List.getElem?_eq_getElem (by rw [hbk.vl]; omega)⟩
        have hox := hbk.rows q vx hvx
        obtain ⟨Ax, capx, rfl, -⟩ := own_formI hox
        have c0 := cell_of hbk.box (book_v hbk.fl hvx)
        have c1 := cell_of hbk.box (book_f (fsN_at L hq1 hq15 (Nat.le_refl _)))
        have c2 := cell_of hbk.box (book_e hbk.fl hbk.vl)
        rw [HHC.out] at c0
        rw [HHF.out] at c1
        rw [HE.out] at c2
        have HRW := Lib.hid (own_int hox)
        rw [HHC.out] at HRW
        have HA := Lib.hid ha
        have HGA := Lib.hid hga
        clear hbk hvx hox ha hg hga HB
        by_cases hic : i < c
        · have hici : (i : Int) < (c : Int) := by omega
          obtain ⟨s, hs⟩ : ∃ s, (symsOf L q)[i]? = some s := ⟨_, List.getElem?_eq_getElem (by rw [HHC.out]; exact hic)⟩
          obtain ⟨b5, o5, rfl, -, hj⟩ := at_int HRW.out (by rw [List.length_map, HHC.out]; omega)
          have u0 := hj i (s : Int) (by rw [List.getElem?_map, hs]; rfl)
          have hRR : R = (s, p + 1, 0) := by rw [HSTEP.out, if_pos (by have := HHI.out; omega), HHI.out, List.getD_eq_getElem?_getD, hs]; rfl
          have HF : Hid (RdV B g vb bs size w R (.returned (.tuple #[.int .i64 (s : Int), .int .i64 0])) wa) := Lib.hid ⟨by rw [hRR]; rfl, by rw [hRR]; exact HA.out, HGA.out⟩
          clear hs hj hRR hic HA HGA HGS HRW HSTEP
          go_wp2_with fail
          go_ret2
          exact HF.out
        · have hici : ¬ (i : Int) < (c : Int) := by omega
          have hnot : ¬ x < f + c := by have := HHI.out; omega
          have HNOT := Lib.hid hnot
          obtain ⟨Q, hQ⟩ : ∃ Q, x * 2 ^ m = Q := ⟨_, rfl⟩
          have hQb : Q ≤ 32768 := by
            rw [← hQ, show (32768 : Nat) = 2 ^ q * 2 ^ m from by rw [← Nat.pow_add, show q + m = 15 by omega]]
            exact Nat.mul_le_mul_right _ (Nat.le_of_lt HHX.out)
          have hst2 := HSTEP.out
          rw [if_neg hnot, hQ] at hst2
          have HST2 := Lib.hid hst2
          have n1 : wrap64 (15 - (q : Int)) = (m : Int) := by unfold wrap64; omega
          have n1' : IntKind.i64.wrap (15 - (q : Int)) = (m : Int) := by rw [IntKind.wrap_i64]; omega
          have n2 := u64_id (a := m) (by omega)
          have n5 := u64_shl hQ (by omega)
          have n3 : (m : Int) ≤ 64 := by omega
          have n4 : (0 : Int) ≤ (m : Int) := by omega
          have HHQ := Lib.hid hQ
          clear hnot hQ hst2 hic HRW HSTEP
          by_cases hEQ : E ≤ Q
          · have hEQi : (E : Int) ≤ (Q : Int) := by omega
            have hRR : R = (0, p + 1, 9) := by rw [HST2.out, if_pos hEQ]
            have HF : ∀ K, Hid (RdV B g vb bs size w R (.returned (.tuple #[.int .i64 0, .int .i64 9])) (wa.drewN K)) := fun K => Lib.hid ⟨by rw [hRR]; rfl, by rw [hRR]; exact HA.out.drewN K, grown_trans HGA.out (grown_drew g wa K)⟩
            clear hRR hEQ HA HGA HGS HST2
            go_wp2_with fail
            go_quiet (fail)
            go_wp2_with fail
            go_ret2
            exact (HF _).out
          · have hEQi : ¬ (E : Int) ≤ (Q : Int) := by omega
            have HNX : ∀ K, Hid (BtAt w B g vb bs size L R m q x (p + 1) (wa.drewN K)) := fun K => Lib.hid ⟨hqm, HA.out.drewN K, grown_trans HGA.out (grown_drew g wa K), by rw [HEND.out]; have := HNOT.out; omega, HHX.out, by rw [HST2.out, if_neg hEQ]⟩
            clear hEQ HA HGA HGS HST2
            go_wp2_with fail
            go_quiet (fail)
            go_wp2_with fail
            exact ⟨⟨m, q, x, p + 1, rfl, by go_num, HNX _⟩, by simp only [Go.RowKit.intOf]; omega⟩
end Go.Proofs.YteennnhinfnahaaDoor
namespace Go.Proofs.YteennnhinfnahaaDoor
open Go.RowKit Go.Shelf Go.Lib
set_option linter.unusedVariables false
set_option linter.unusedSimpArgs false

/-- So many symbols of the bits l from position p on. -/
def dcA (L : List Nat) (l : List Bool) : Nat → Nat → List Nat → List Nat × Nat × Nat
  | 0, p, acc => (acc, p, 0)
  | c + 1, p, acc => if (rdB L l p).2.2 = 0 then dcA L l c (rdB L l p).2.1 (acc ++ [(rdB L l p).1]) else ([], (rdB L l p).2.1, (rdB L l p).2.2)
open Classical in
/-- What Decode answers. -/
noncomputable def decF (cs : List Int) (bs : List UInt8) (bits count : Int) : List Nat × Nat :=
  if ¬ okLH cs then ([], 1) else if bits < 0 ∨ 8 * (bs.length : Int) < bits ∨ count < 0 ∨ 4096 < count then ([], 1)
  else if (dcA (natLs cs) (unpack bs bits.toNat) count.toNat 0 []).2.2 ≠ 0 then ([], (dcA (natLs cs) (unpack bs bits.toNat) count.toNat 0 []).2.2)
  else if (dcA (natLs cs) (unpack bs bits.toNat) count.toNat 0 []).2.1 < bits.toNat then ([], 9)
  else ((dcA (natLs cs) (unpack bs bits.toNat) count.toNat 0 []).1, 0)
def DecV (w : World) (r : List Nat × Nat) (e : Ending) (w' : World) : Prop :=
  Below w.heap.size w w' ∧ ∃ v, e = .returned (.tuple #[v, .int .i64 (r.2 : Nat)]) ∧ Rows 1 EInt w' v (castN' r.1)
theorem decV_nil {w W : World} (k : Nat) (hb : Below w.heap.size w W) (e : Int) (he : e = k) : DecV w ([], k) (.returned (.tuple #[.slice none 0 0, .int .i64 e])) W :=
  ⟨hb, _, by rw [he], Rows.nil W⟩
theorem RAt.set {w : World} {B g D i : Nat} {vb u : Value} {bs : List UInt8} {size p : Nat} (h : RAt w B g vb bs size p) (hg : g ≠ D) (ho : ∀ k, vb.ownBlock = some k → k ≠ D) :
    RAt (w.setCell ⟨D, i, none⟩ u) B g vb bs size p :=
  ⟨h.1, by rw [Below.heap_setCell w ⟨D, i, none⟩ u g hg]; exact h.2.1, own_below h.2.2.1 fun k hk => Below.heap_setCell w ⟨D, i, none⟩ u k (ho k hk), h.2.2.2⟩
/-- Between two symbols. -/
structure DcAt (w2 : World) (B g D : Nat) (vb : Value) (bs : List UInt8) (size : Nat) (L : List Nat) (R : List Nat × Nat × Nat) (n i p : Nat) (acc : List Nat) (wr : World) : Prop where
  l : acc.length = i
  e : dcA L (unpack bs size) (n - i) p acc = R
  r : RAt wr B g vb bs size p
  d : wr.heap[D]? = some (.cells (intRow (castN' acc ++ List.replicate (n - i) 0)) 3 (0, 0))
  b : Below B w2 wr
theorem castN'_len (l : List Nat) : (castN' l).length = l.length := by simp [castN']
theorem dcA_step {L : List Nat} {l : List Bool} {c p : Nat} {acc : List Nat} {t : Nat × Nat × Nat} (h : rdB L l p = t) : dcA L l (c + 1) p acc = if t.2.2 = 0 then dcA L l c t.2.1 (acc ++ [t.1]) else ([], t.2.1, t.2.2) := by
  rw [← h]; rfl
theorem dc_row {acc : List Nat} {n i s : Nat} (hl : acc.length = i) (hi : i < n) : (castN' acc ++ List.replicate (n - i) (0 : Int)).set i (s : Int) = castN' (acc ++ [s]) ++ List.replicate (n - (i + 1)) 0 := by
  have e : n - i = (n - (i + 1)) + 1 := by omega
  rw [e, List.replicate_succ, List.set_append_right _ _ (by rw [castN'_len]; omega), castN'_len, hl, Nat.sub_self, List.set_cons_zero]
  simp [castN']

set_option maxRecDepth 100000 in
set_option maxHeartbeats 8000000 in
theorem decode_any {w : World} {vc vb : Value} {cs : List Int} {bs : List UInt8} (hv : Rows 1 EInt w vc cs) (hlen : cs.length ≤ maxLen) (hs : Sees w w.heap.size vb bs) (hbs : bs.length ≤ 12500)
    (bits count : Int) (h0 : -9223372036854775808 ≤ bits) (h1 : bits ≤ 9223372036854775807) (h2 : -9223372036854775808 ≤ count) (h3 : count ≤ 9223372036854775807) :
    Calls Tryd.prog 30 #[vc, vb, .int .i64 bits, .int .i64 count] w (DecV w (decF cs bs bits count)) := by
  have HO := Lib.hid (open_any hv hlen)
  have HSB := Lib.hid hs
  obtain ⟨A, cap, rfl, -⟩ := hv.form
  obtain ⟨Ab, capb, rfl, -⟩ := hs.form
  obtain ⟨n, hn⟩ : ∃ n, cs.length = n := ⟨_, rfl⟩
  obtain ⟨mb, hmb⟩ : ∃ n, bs.length = n := ⟨_, rfl⟩
  rw [hn] at HO hlen ⊢
  rw [hmb] at HSB hbs ⊢
  have HN := Lib.hid hn
  have HMB := Lib.hid hmb
  unfold maxLen at hlen
  obtain ⟨F, hF⟩ : ∃ F, decF cs bs bits count = F := ⟨_, rfl⟩
  rw [hF]
  have HF := Lib.hid hF
  clear hv hs hn hmb hF
  go_enter Tryd.func30, Tryd.ntmps30
  go_wp2_with fail
  refine HO.out.mono ?_
  rintro e w2 ⟨hb, h | h⟩
  · obtain ⟨hno, rfl⟩ := h
    have hFF : F = ([], 1) := by rw [← HF.out]; unfold decF; rw [if_pos hno]
    have HE : Hid (DecV w F (.returned (.tuple #[.slice none 0 0, .int .i64 1])) w2) := Lib.hid (by rw [hFF]; exact decV_nil 1 hb 1 rfl)
    clear hb hno HO HF HSB hFF
    go_wp2_with fail
    go_ret2
    exact HE.out
  · obtain ⟨hok, vs, rfl, hbk⟩ := h
    obtain ⟨N, hN⟩ : ∃ N, w.heap.size = N := ⟨_, rfl⟩
    rw [hN] at hbk
    have HB2 := Lib.hid hb
    have HBK := Lib.hid hbk
    have HOK := Lib.hid hok
    have hs2 := (HSB.out.below hb).mono hb.size
    have HS2 := Lib.hid hs2
    have HNN := Lib.hid hN
    rw [hN]
    clear hb hbk hok hs2 HO HSB
    by_cases hbits : bits < 0 ∨ 8 * (mb : Int) < bits
    · have hFF : F = ([], 1) := by
        rw [← HF.out]; unfold decF
        rw [if_neg (not_not_intro HOK.out), HMB.out, if_pos (by rcases hbits with h | h; exact .inl h; exact .inr (.inl h))]
      have HE : Hid (DecV w F (.returned (.tuple #[.slice none 0 0, .int .i64 1])) w2) := Lib.hid (by rw [hFF]; exact decV_nil 1 HB2.out 1 rfl)
      have HR := Lib.hid (newReader_out HS2.out (by rw [HMB.out]; omega) bits (by rw [HMB.out]; exact hbits))
      clear hbits hFF HF
      go_wp2_with fail
      refine HR.out.mono ?_
      rintro e w3 ⟨rfl, rfl⟩
      clear HR
      go_wp2_with fail
      go_ret2
      exact HE.out
    · obtain ⟨k, rfl⟩ : ∃ k : Nat, bits = k := ⟨bits.toNat, by omega⟩
      have hk8 : k ≤ 8 * mb := by omega
      have HR := Lib.hid (newReader_any HS2.out (by rw [HMB.out]; exact hbs) k (by rw [HMB.out]; exact hk8))
      clear hbits
      go_wp2_with fail
      refine HR.out.mono ?_
      rintro e w3 ⟨g, vr, rfl, hr, hb3⟩
      have HRA := Lib.hid hr
      have HB3 := Lib.hid hb3
      clear hr hb3 HR
      by_cases hc : count < 0 ∨ 4096 < count
      · have hFF : F = ([], 1) := by
          rw [← HF.out]; unfold decF
          rw [if_neg (not_not_intro HOK.out), if_pos (.inr (.inr hc))]
        have HE : Hid (DecV w F (.returned (.tuple #[.slice none 0 0, .int .i64 1])) w3) := Lib.hid (by rw [hFF]; exact decV_nil 1 (HB2.out.trans (HB3.out.mono HB2.out.size)) 1 rfl)
        clear hFF HF HRA HB3
        rcases hc with hc | hc
        · go_wp2_with fail
          go_ret2
          exact HE.out
        · have hc0 : ¬ count < 0 := by omega
          go_wp2_with fail
          go_ret2
          exact HE.out
      · obtain ⟨m, rfl⟩ : ∃ m : Nat, count = m := ⟨count.toNat, by omega⟩
        have hm1 : m ≤ 4096 := by omega
        have hcc : ¬ (m : Int) < 0 := by omega
        have hcd : ¬ (4096 : Int) < (m : Int) := by omega
        clear hc
        obtain ⟨i1, hi1, hy0, hy1, hy2⟩ := info_parts' Tryd.infoInt2
        have hmk : ∀ W : World, (Instr.makeSlice 22 (.int .i64 m) (.int .i64 m)).run Tryd.prog W = .ok (.slice (some ⟨W.heap.size, 0, none⟩) m m) (W.alloc (.cells (intRow (List.replicate m 0)) 3)) := fun W => by
          have := run_make (P := Tryd.prog) W 22 3 i1 _ Tryd.underlying22 hi1 hy0 .i64 .i64 m m (by omega) (by omega) (by rw [hy2]; omega) (by omega)
          rw [Int.toNat_natCast, hy1, Nat.mul_one] at this
          rw [← made_int]
          exact this
        obtain ⟨B, hB⟩ : ∃ B, w2.heap.size = B := ⟨_, rfl⟩
        obtain ⟨D, hD⟩ : ∃ D, w3.heap.size = D := ⟨_, rfl⟩
        obtain ⟨X, hX⟩ : ∃ X, w3.alloc (.cells (intRow (List.replicate m 0)) 3) = X := ⟨_, rfl⟩
        obtain ⟨bq, hbq⟩ : ∃ b', bs.take ((k + 7) / 8) = b' := ⟨_, rfl⟩
        have hup : unpack bq k = unpack bs k := by rw [← hbq]; exact unpack_take _ _
        obtain ⟨L, hL⟩ : ∃ L, natLs cs = L := ⟨_, rfl⟩
        obtain ⟨R, hR⟩ : ∃ R, dcA L (unpack bq k) m 0 [] = R := ⟨_, rfl⟩
        have hFF : F = if R.2.2 ≠ 0 then ([], R.2.2) else if R.2.1 < k then ([], 9) else (R.1, 0) := by
          rw [← HF.out]; unfold decF
          rw [if_neg (not_not_intro HOK.out), HMB.out, if_neg (by omega), Int.toNat_natCast, Int.toNat_natCast, hL, ← hup, hR]
        have hra := HRA.out
        rw [hB, hbq] at hra
        have hgD : g < D := by rw [← hD]; exact hra.lt
        have hBg : B ≤ g := hra.1
        have hvb : ∀ k, vr.ownBlock = some k → k < D := fun k hk => by rw [← hD]; exact (own_low hra.2.2.1 k hk).2
        have hb3 := HB3.out
        rw [hB] at hb3
        have hBD : B ≤ D := by omega
        have hLL : okLens L := by rw [← hL]; exact HOK.out.lens
        have hbk := HBK.out
        rw [hL] at hbk
        have HBW := Lib.hid (show ∀ W, Below B w2 W → BkAt W N (fsN L 15) vs (endN L 15) L from fun W h => hbk.below (by rw [hB]; exact h))
        have HW := Lib.hid (show ∀ W, Below B w2 W → Below w.heap.size w W from fun W h => HB2.out.trans (h.mono (by rw [← hB]; exact HB2.out.size)))
        have HST0 : Hid (DcAt w2 B g D vr bq k L R m 0 0 [] X) := Lib.hid ⟨rfl, hR, by rw [← hX]; exact hra.alloc _, by rw [← hX, ← hD]; exact block_new _ _, by rw [← hX]; exact hb3.alloc (by rw [hD]; exact hBD) _⟩
        have HBE := Lib.hid hB
        have HX := Lib.hid hX
        have HD := Lib.hid hD
        have HFF := Lib.hid hFF
        have HVB := Lib.hid hvb
        have HLL := Lib.hid hLL
        have HGD := Lib.hid (And.intro hgD hBg)
        clear HRA HB3 HF HBK HOK hX hD hFF hup hR hra hgD hBg hvb hb3 hBD hLL hbk hL hbq hB HMB HN HS2
        go_wp2_with fail
        rw [HX.out, HD.out]
        clear hmk HX
        go_loopw [43] (fun sv wr => ∃ (i p : Nat) (acc : List Nat), i ≤ m ∧ sv = .int .i64 i ∧ Hid (DcAt w2 B g D vr bq k L R m i p acc wr)) (fun sv _ => m - (Go.RowKit.intOf sv).toNat)
        case atStart => exact ⟨0, 0, [], Nat.zero_le _, rfl, HST0⟩
        case round =>
          clear HST0
          obtain ⟨i, p, acc, hi, rfl, HS⟩ := hrel
          by_cases hlt : i < m
          · have hlti : (i : Int) < (m : Int) := by omega
            have HCALL := Lib.hid (bookRead_any HS.out.r HLL.out (fun W hg => HBW.out W (HS.out.b.trans (growb_below hg HGD.out.2 (by have := HS.out.b.size; rw [HBE.out] at this; exact this)))))
            obtain ⟨t, ht⟩ : ∃ t, rdB L (unpack bq k) p = t := ⟨_, rfl⟩
            have hstep := HS.out.e
            rw [show m - i = (m - (i + 1)) + 1 by omega, dcA_step ht] at hstep
            rw [ht] at HCALL
            have HSTEP := Lib.hid hstep
            clear hstep ht
            go_wp2_with fail
            refine HCALL.out.mono ?_
            rintro e wa ⟨rfl, ha, hg⟩
            obtain ⟨s, q, er⟩ := t
            have hd : wa.heap[D]? = some (.cells (intRow (castN' acc ++ List.replicate (m - i) 0)) 3 (0, 0)) := by
              rw [hg.block D (heap_lt HS.out.d) (fun e => by cases e; exact absurd HGD.out.1 (Nat.lt_irrefl _))]; exact HS.out.d
            have hrl : i < (castN' acc ++ List.replicate (m - i) (0 : Int)).length := by rw [List.length_append, castN'_len, HS.out.l, List.length_replicate]; omega
            have d0 := cell_of hd (intRow_get hrl)
            have f0 : wa.frozen? ⟨D, i, none⟩ = false := frozen_of hd
            have hbw : Below B w2 (wa.setCell ⟨D, i, none⟩ (.int .i64 (s : Int))) := (HS.out.b.trans (growb_below hg HGD.out.2 (by have := HS.out.b.size; rw [HBE.out] at this; exact this))).setCell (p := ⟨D, i, none⟩) (by show B ≤ D; have := HGD.out; omega) _
            have hrs : RAt (wa.setCell ⟨D, i, none⟩ (.int .i64 (s : Int))) B g vr bq k q := ha.set (by have := HGD.out; omega) (fun j hj => by have := HVB.out j hj; omega)
            have hds : (wa.setCell ⟨D, i, none⟩ (.int .i64 (s : Int))).heap[D]? = some (.cells (intRow (castN' (acc ++ [s]) ++ List.replicate (m - (i + 1)) 0)) 3 (0, 0)) := by
              rw [← dc_row HS.out.l hlt, ← intRow_set]; exact set_of hd _
            have HBS := Lib.hid hbw
            have HRS := Lib.hid hrs
            have HDS := Lib.hid hds
            have HAL := Lib.hid HS.out.l
            clear hd hrl hbw hrs hds HS ha hg HCALL
            by_cases her : er = 0
            · subst her
              have HNX : Hid (DcAt w2 B g D vr bq k L R m (i + 1) q (acc ++ [s]) (wa.setCell ⟨D, i, none⟩ (.int .i64 (s : Int)))) := Lib.hid ⟨by rw [List.length_append, HAL.out]; rfl, by have h := HSTEP.out; rw [if_pos rfl] at h; exact h, HRS.out, HDS.out, HBS.out⟩
              clear HSTEP HBS HRS HDS HAL
              go_wp2_with fail
              exact ⟨⟨i + 1, q, _, by omega, by go_num, HNX⟩, by simp only [Go.RowKit.intOf]; omega⟩
            · have b1 : ((er : Int) != 0) = true := by simp; omega
              have hRR : R = ([], q, er) := by have h := HSTEP.out; rw [if_neg her] at h; exact h.symm
              have hF2 : F = ([], er) := by rw [HFF.out, hRR, if_pos her]
              have HE : Hid (DecV w F (.returned (.tuple #[.slice none 0 0, .int .i64 (er : Int)])) (wa.setCell ⟨D, i, none⟩ (.int .i64 (s : Int)))) := Lib.hid (by rw [hF2]; exact decV_nil er (HW.out _ HBS.out) _ rfl)
              clear HSTEP HBS HRS HDS HAL hRR hF2
              go_wp2_with fail
              go_ret2
              exact HE.out
          · obtain rfl : i = m := by omega
            have hlti : ¬ (i : Int) < (i : Int) := by omega
            have hRR : R = (acc, p, 0) := by have h := HS.out.e; rw [Nat.sub_self] at h; exact h.symm
            have hd := HS.out.d
            rw [Nat.sub_self, List.replicate_zero, List.append_nil] at hd
            have hrows : Rows 1 EInt wr (.slice (some ⟨D, 0, none⟩) i i) (castN' acc) := rows_int (by rw [castN'_len, HS.out.l]) (Nat.le_refl _) hd
            have HP := Lib.hid (rpos_any HS.out.r)
            have HB := Lib.hid (HW.out _ HS.out.b)
            by_cases hpk : p < k
            · have hpki : (p : Int) < (k : Int) := by omega
              have hF2 : F = ([], 9) := by rw [HFF.out, hRR, if_neg (by simp), if_pos hpk]
              have HE : Hid (DecV w F (.returned (.tuple #[.slice none 0 0, .int .i64 9])) wr) := Lib.hid (by rw [hF2]; exact decV_nil 9 HB.out 9 rfl)
              clear hRR hd hrows HS hF2 hpk
              go_wp2_with fail
              refine HP.out.mono ?_
              rintro e wb ⟨rfl, rfl⟩
              clear HP
              go_wp2_with fail
              go_ret2
              exact HE.out
            · have hpki : ¬ (p : Int) < (k : Int) := by omega
              have hF2 : F = (acc, 0) := by rw [HFF.out, hRR, if_neg (by simp), if_neg hpk]
              have HE : Hid (DecV w F (.returned (.tuple #[.slice (some ⟨D, 0, none⟩) i i, .int .i64 0])) wr) := Lib.hid (by rw [hF2]; exact ⟨HB.out, _, rfl, hrows⟩)
              clear hRR hd hrows HS hF2 hpk
              go_wp2_with fail
              refine HP.out.mono ?_
              rintro e wb ⟨rfl, rfl⟩
              clear HP
              go_wp2_with fail
              go_ret2
              exact HE.out
end Go.Proofs.YteennnhinfnahaaDoor
namespace Go.Proofs.YteennnhinfnahaaDoor
open Go.RowKit Go.Shelf Go.Lib
set_option linter.unusedVariables false
set_option linter.unusedSimpArgs false

theorem rd_code {L : List Nat} (hL : okLens L) {l : List Bool} {s n : Nat} (h : L[s]? = some n) (hn : 1 ≤ n) :
    ∀ (d m j p : Nat), d + j = n → m + j = 15 → 1 ≤ d → (∀ i b, (low (codeN L s) d)[i]? = some b → l[p + i]? = some b) → rdS L l m j (codeN L s / 2 ^ d) p = (s, p + d, 0)
  | 0, _, _, _, _, _, h1, _ => absurd h1 (by decide)
  | e + 1, m, j, p, hd, hm, _, hb => by
    have hn15 := hL.2.1 n (List.mem_of_getElem? h)
    obtain ⟨k, rfl⟩ : ∃ k, m = k + 1 := ⟨m - 1, by omega⟩
    have hl0 := hb 0 _ (by rw [low]; rfl)
    rw [Nat.add_zero] at hl0
    obtain ⟨c, hc⟩ : ∃ c, codeN L s = c := ⟨_, rfl⟩
    have hlt := codeN_lt h hn
    have hge := codeN_ge h hn
    have hat := codeN_at h hn
    rw [hc] at hl0 hb hlt hge hat ⊢
    have hv : 2 * (c / 2 ^ (e + 1)) + (decide (c / 2 ^ e % 2 = 1)).toNat = c / 2 ^ e := by
      rw [bit_toNat, Nat.pow_succ, ← Nat.div_div_eq_div_mul]; omega
    unfold rdS
    rw [hl0]
    simp only
    rw [hv]
    rcases Nat.eq_zero_or_pos e with rfl | he
    · rw [Nat.pow_zero, Nat.div_one, show j + 1 = n by omega, if_pos hlt, hat, Nat.add_sub_cancel_left, List.getD_eq_getElem?_getD, symsOf_get h]; rfl
    · have h1 : endN L (j + 1) ≤ c / 2 ^ e := by
        rw [Nat.le_div_iff_mul_le (Nat.two_pow_pos e)]
        have := endN_first L (j + 1) n (by omega)
        rw [show n - (j + 1) = e by omega] at this
        exact Nat.le_trans this hge
      have h2 : ¬ endN L 15 ≤ c / 2 ^ e * 2 ^ k := by
        have a1 : c / 2 ^ e * 2 ^ k ≤ c * 2 ^ (15 - n) := by
          rw [show k = e + (15 - n) by omega, Nat.pow_add, ← Nat.mul_assoc]
          exact Nat.mul_le_mul_right _ (Nat.div_mul_le_self c _)
        have a2 := endN_shift L n (15 - n)
        rw [show n + (15 - n) = 15 by omega] at a2
        have a3 : (c + 1) * 2 ^ (15 - n) ≤ endN L n * 2 ^ (15 - n) := Nat.mul_le_mul_right _ hlt
        rw [Nat.add_mul, Nat.one_mul] at a3
        have a4 := Nat.two_pow_pos (15 - n)
        omega
      rw [if_neg (by omega), if_neg h2]
      have ih := rd_code hL (l := l) h hn e k (j + 1) (p + 1) (by omega) (by omega) he (fun i b hi => by
        rw [hc] at hi
        have := hb (i + 1) b (by rw [low]; exact hi)
        rw [show p + 1 + i = p + (i + 1) by omega]; exact this)
      rw [hc] at ih
      rw [ih, show p + 1 + e = p + (e + 1) by omega]
theorem rdB_code {L : List Nat} (hL : okLens L) {l : List Bool} {s n p : Nat} (h : L[s]? = some n) (hn : 1 ≤ n) (hb : ∀ i b, (low (codeN L s) n)[i]? = some b → l[p + i]? = some b) : rdB L l p = (s, p + n, 0) := by
  have := rd_code hL (l := l) h hn n 15 0 p rfl rfl hn hb
  rw [Nat.div_eq_of_lt (code_pow hL h hn)] at this
  exact this
theorem dcA_enc {L : List Nat} (hL : okLens L) {l : List Bool} : ∀ (ss : List Nat) (p : Nat) (acc : List Nat), (∀ s ∈ ss, okSym L s) → l.drop p = encB L ss → dcA L l ss.length p acc = (acc ++ ss, p + (encB L ss).length, 0)
  | [], p, acc, _, _ => by simp [dcA, encB]
  | s :: ss, p, acc, hok, hd => by
    obtain ⟨n, hs, hn⟩ := hok s (by simp)
    have hg : L.getD s 0 = n := by rw [List.getD_eq_getElem?_getD, hs]; rfl
    have he : encB L (s :: ss) = low (codeN L s) n ++ encB L ss := by unfold encB; rw [List.flatMap_cons, hg]
    rw [he] at hd ⊢
    have hr := rdB_code hL (l := l) (p := p) hs hn (fun i b hi => by
      rw [← List.getElem?_drop, hd]
      have hlt : i < (low (codeN L s) n).length := (List.getElem?_eq_some_iff.1 hi).1
      rw [List.getElem?_append_left hlt]; exact hi)
    rw [List.length_cons, dcA_step hr, if_pos rfl]
    simp only
    rw [dcA_enc hL ss (p + n) (acc ++ [s]) (fun x hx => hok x (by simp [hx])) (by
      rw [← List.drop_drop, hd]
      exact List.drop_left' (low_len _ _)), List.length_append, low_len]
    simp [Nat.add_assoc]
theorem enc_sum (L : List Nat) (ss : List Nat) : (encB L ss).length = (ss.map fun s => L.getD s 0).sum := by
  induction ss with
  | nil => rfl
  | cons s l ih =>
    have he : encB L (s :: l) = low (codeN L s) (L.getD s 0) ++ encB L l := by unfold encB; rw [List.flatMap_cons]
    rw [he, List.length_append, low_len, ih, List.map_cons, List.sum_cons]
/-- The sum of count times f. -/
def csum (f : Nat → Nat) (ss : List Nat) : Nat → Nat
  | 0 => 0
  | i + 1 => csum f ss i + ss.count i * f i
theorem csum_nil (f : Nat → Nat) : ∀ n, csum f [] n = 0
  | 0 => rfl
  | n + 1 => by simp [csum, csum_nil f n]
theorem csum_cons (f : Nat → Nat) (s : Nat) (ss : List Nat) : ∀ n, csum f (s :: ss) n = csum f ss n + (if s < n then f s else 0)
  | 0 => by simp [csum]
  | n + 1 => by
    unfold csum
    rw [csum_cons f s ss n, List.count_cons]
    by_cases h : s = n
    · subst h
      rw [if_neg (Nat.lt_irrefl s), if_pos (by simp), if_pos (Nat.lt_succ_self s), Nat.add_mul, Nat.one_mul]; omega
    · rw [if_neg (show ¬ ((s == n) = true) by simpa using h)]
      by_cases h2 : s < n
      · rw [if_pos h2, if_pos (by omega)]; simp only [Nat.add_zero]; omega
      · rw [if_neg h2, if_neg (by omega)]; simp
theorem csum_all (f : Nat → Nat) (n : Nat) : ∀ ss : List Nat, (∀ s ∈ ss, s < n) → csum f ss n = (ss.map f).sum
  | [], _ => csum_nil f n
  | s :: l, h => by
    rw [csum_cons, csum_all f n l (fun x hx => h x (by simp [hx])), if_pos (h s (by simp)), List.map_cons, List.sum_cons, Nat.add_comm]
theorem csum_mono (f : Nat → Nat) (ss : List Nat) {i n : Nat} (h : i ≤ n) : csum f ss i ≤ csum f ss n := by
  induction h with
  | refl => exact Nat.le_refl _
  | step _ ih => exact Nat.le_trans ih (Nat.le_add_right _ _)
end Go.Proofs.YteennnhinfnahaaDoor
namespace Go.Proofs.YteennnhinfnahaaDoor
open Go.RowKit Go.Shelf Go.Lib
set_option linter.unusedVariables false
set_option linter.unusedSimpArgs false

theorem natLs_cast (l : List Nat) : natLs (castN' l) = l := by
  unfold natLs castN'
  rw [List.map_map]
  conv => rhs; rw [← List.map_id l]
  apply List.map_congr_left
  intro c _
  simp
theorem huf_nat {cs : List Int} {lim i : Nat} (h : i < cs.length) : (natLs (hufLs cs lim))[i]? = some (hufL (cN cs) (preS cs 0) lim i) := by
  unfold natLs
  rw [List.getElem?_map, hufLs_at h]; simp
theorem okLH_huf {cs : List Int} {l : Nat} (hz : chkH cs (l : Int) = 0) : okLH (hufLs cs l) := by
  obtain ⟨l', he, h1, h2, h3, h4, h5⟩ := chk_zero hz
  obtain rfl : l = l' := by omega
  have hk : (preS cs 0).length ≤ 2 ^ l := by rw [preS_len]; exact h5
  have hnd := preS_nodup cs 0
  obtain ⟨m, hm⟩ : ∃ m : Nat → Nat, ∀ s, hufL (cN cs) (preS cs 0) l s = m s := ⟨_, fun _ => rfl⟩
  have hle : ∀ s ∈ preS cs 0, m s ≤ l := fun s hs => by rw [← hm]; exact huf_le hnd h1 hk hs
  have hge : ∀ s ∈ preS cs 0, 1 ≤ m s := fun s hs => by rw [← hm]; exact huf_ge hnd h1 hk hs
  have hout : ∀ s, s ∉ preS cs 0 → m s = 0 := fun s hs => by rw [← hm]; exact huf_out hnd h1 hk hs
  have hall : ∀ s, m s ≤ 15 := fun s => by
    by_cases h : s ∈ preS cs 0
    · have := hle s h; omega
    · rw [hout s h]; omega
  have hmem : ∀ n ∈ natLs (hufLs cs l), n ≤ 15 := fun n hn => by
    obtain ⟨i, hi, rfl⟩ := List.mem_iff_getElem.1 hn
    have hi' : i < cs.length := by unfold natLs at hi; rw [List.length_map, hufLs_len] at hi; exact hi
    have h := huf_nat (lim := l) hi'
    rw [List.getElem?_eq_getElem hi] at h
    rw [Option.some.inj h, hm]; exact hall i
  refine ⟨by rw [hufLs_len]; exact h3, fun c hc => ?_, ?_⟩
  · unfold hufLs at hc
    obtain ⟨s, _, rfl⟩ := List.mem_map.1 hc
    rw [hm]
    have := hall s
    omega
  · rw [← kraft_end _ hmem]
    have hstep : ∀ i, i ≤ cs.length → kraft ((natLs (hufLs cs l)).take i) = sumP cs (fun s => 2 ^ (15 - m s)) i := by
      intro i
      induction i with
      | zero => intro _; rw [sumP_zero]; rfl
      | succ i ih =>
        intro hi
        have hc : cs[i]? = some (cs[i]'(by omega)) := List.getElem?_eq_getElem (by omega)
        rw [List.take_add_one, huf_nat (by omega), Option.toList_some, kraft_snoc, ih (by omega), sumP_step hc, hm]
        by_cases h : 0 < cs[i]'(by omega)
        · have := hge i (pre_at hc h)
          rw [if_pos h, if_neg (by omega)]
        · rw [if_neg h, hout i (pre_not hc h), if_pos rfl]
    have hf := hstep cs.length (Nat.le_refl _)
    rw [List.take_of_length_le (by unfold natLs; rw [List.length_map, hufLs_len]; exact Nat.le_refl _), sumP_all] at hf
    rw [hf]
    have h15 : (2 : Nat) ^ (15 - l) * 2 ^ l = 32768 := by rw [← Nat.pow_add, show 15 - l + l = 15 by omega]
    by_cases hc2 : 2 ≤ (preS cs 0).length
    · have hk2 := huf_kraft (c := cN cs) hnd h1 hk hc2
      have : sumS (preS cs 0) (fun s => 2 ^ (15 - m s)) = sumS (preS cs 0) (fun s => 2 ^ (15 - l) * 2 ^ (l - hufL (cN cs) (preS cs 0) l s)) := sumS_congr fun s hs => by
        have := hle s hs
        rw [hm, ← Nat.pow_add, show 15 - l + (l - m s) = 15 - m s by omega]
      rw [this, sumS_mul, hk2, h15]
      exact Nat.le_refl _
    · refine Nat.le_trans (sumS_bound (M := 16384) fun s hs => ?_) (Nat.le_trans (Nat.mul_le_mul_right _ (show (preS cs 0).length ≤ 1 by omega)) (by decide))
      have := hge s hs
      exact Nat.le_trans (Nat.pow_le_pow_right (by decide) (show 15 - m s ≤ 14 by omega)) (by decide)
theorem huf_sym {cs : List Int} {l : Nat} (hz : chkH cs (l : Int) = 0) {s : Nat} {c : Int} (hs : cs[s]? = some c) (hc : 0 < c) : okSym (natLs (hufLs cs l)) s := by
  obtain ⟨l', he, h1, h2, h3, h4, h5⟩ := chk_zero hz
  obtain rfl : l = l' := by omega
  have hk : (preS cs 0).length ≤ 2 ^ l := by rw [preS_len]; exact h5
  exact ⟨_, huf_nat (List.getElem?_eq_some_iff.1 hs).1, huf_ge (preS_nodup cs 0) h1 hk (pre_at hs hc)⟩
theorem enc_zero {cs : List Int} {l : Nat} (hz : chkH cs (l : Int) = 0) {ss : List Nat} (hss : ∀ s ∈ ss, ∃ c, cs[s]? = some c ∧ 0 < c) (hlen : ss.length ≤ 4096) : encE (hufLs cs l) (castN' ss) = 0 := by
  unfold encE
  rw [if_neg (not_not_intro (okLH_huf hz)), if_neg (by rw [castN'_len]; omega), if_neg]
  intro h
  obtain ⟨x, hx, hb⟩ := List.any_eq_true.1 h
  unfold castN' at hx
  obtain ⟨s, hs, rfl⟩ := List.mem_map.1 hx
  obtain ⟨c, h1, h2⟩ := hss s hs
  obtain ⟨n, h3, h4⟩ := huf_sym hz h1 h2
  have hlt := (List.getElem?_eq_some_iff.1 h1).1
  have hg : (hufLs cs l).getD s 0 = (n : Int) := by
    rw [huf_nat hlt] at h3
    rw [List.getD_eq_getElem?_getD, hufLs_at hlt, Option.getD_some, Option.some.inj h3]
  unfold badS at hb
  rw [hufLs_len, Int.toNat_natCast, hg] at hb
  simp at hb
  omega
theorem dec_round {cs : List Int} {ss : List Nat} (hok : okLH cs) (hss : ∀ s ∈ ss, okSym (natLs cs) s) (hlen : ss.length ≤ 4096) {B : List Bool} (hB : encB (natLs cs) ss = B) :
    decF cs (pack B) (B.length : Nat) (ss.length : Nat) = (ss, 0) := by
  have hd := dcA_enc hok.lens (l := B) ss 0 [] hss (by rw [List.drop_zero, hB])
  rw [hB, Nat.zero_add, List.nil_append] at hd
  unfold decF
  rw [if_neg (not_not_intro hok), if_neg (by rw [pack_len]; omega), Int.toNat_natCast, Int.toNat_natCast, unpack_pack, hd, if_neg (by simp), if_neg (Nat.lt_irrefl _)]
/-- The counts of symbols. -/
def cntL (ss : List Nat) : List Int := (List.range 32).map fun j => ((ss.count j : Nat) : Int)
theorem cntL_len (ss : List Nat) : (cntL ss).length = 32 := by simp [cntL]
theorem cnt_at (ss : List Nat) {j : Nat} (h : j < 32) : (cntL ss)[j]? = some ((ss.count j : Nat) : Int) := by
  unfold cntL
  rw [List.getElem?_map, List.getElem?_range h]; rfl
theorem cnt_zero : cntL [] = List.replicate 32 0 := by decide
theorem cnt_step (ss : List Nat) {s : Nat} (h : s < 32) : (cntL ss).set s (((ss.count s + 1 : Nat)) : Int) = cntL (ss ++ [s]) := by
  refine List.ext_getElem? fun j => ?_
  rw [List.getElem?_set, cntL_len]
  by_cases hj : j < 32
  · rw [cnt_at (ss ++ [s]) hj, List.count_append, List.count_singleton]
    by_cases e : s = j
    · subst e
      rw [if_pos rfl, if_pos h, if_pos (by simp)]
    · rw [if_neg e, cnt_at ss hj, if_neg (by simpa using e)]; simp
  · rw [if_neg (by omega), List.getElem?_eq_none (by rw [cntL_len]; omega), List.getElem?_eq_none (by rw [cntL_len]; omega)]
theorem chk_cnt {ss : List Nat} {l : Nat} (hs : ss.length ≤ 100) (h5 : 5 ≤ l) (h15 : l ≤ 15) : chkH (cntL ss) (l : Int) = 0 := by
  unfold chkH
  rw [if_neg (by omega), cntL_len, if_neg (by decide), if_neg, if_neg]
  · have h1 := presN_le (cntL ss)
    rw [cntL_len] at h1
    have h2 : (2 : Nat) ^ 5 ≤ 2 ^ l := Nat.pow_le_pow_right (by decide) h5
    rw [Int.toNat_natCast]
    omega
  · intro h
    obtain ⟨c, hc, hb⟩ := List.any_eq_true.1 h
    unfold cntL at hc
    obtain ⟨j, _, rfl⟩ := List.mem_map.1 hc
    have := List.count_le_length (a := j) (l := ss)
    unfold badC at hb
    rw [decide_eq_true_eq] at hb
    omega
theorem cntL_pos {ss : List Nat} (h : ∀ s ∈ ss, s < 32) : ∀ s ∈ ss, ∃ c, (cntL ss)[s]? = some c ∧ 0 < c := fun s hs => ⟨_, cnt_at ss (h s hs), by have := List.count_pos_iff.2 hs; omega⟩
theorem rowI_at {l : List Int} {i : Nat} {x : Int} (h : l[i]? = some x) : (intRow l)[i]? = some (.int .i64 x) := by
  have hi := (List.getElem?_eq_some_iff.1 h).1
  rw [intRow_get hi, List.getD_eq_getElem?_getD, h]; rfl
/-- The bits are as many as the sum of counts times lengths. -/
theorem enc_cost {ss L : List Nat} (h : ∀ s ∈ ss, s < 32) : (encB L ss).length = csum (fun s => L.getD s 0) ss 32 := by rw [enc_sum, csum_all _ 32 ss h]
end Go.Proofs.YteennnhinfnahaaDoor
