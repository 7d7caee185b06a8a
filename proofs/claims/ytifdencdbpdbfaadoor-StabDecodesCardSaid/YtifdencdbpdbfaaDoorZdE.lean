/-
  WALKS over package stab: read, Decode.
-/
import Derived.Test.YtifdencdbpdbfaaDoorZdD
import Derived.Test.YtifdencdbpdbfaaDoorBiF
import Derived.Test.YtifdencdbpdbfaaDoorCkD
namespace Go.Proofs.YtifdencdbpdbfaaDoor
open Go.RowKit Go.Shelf Go.Lib
set_option linter.unusedVariables false
set_option linter.unusedSimpArgs false

def slN : Value → Nat
  | .slice _ n _ => n
  | _ => 0
theorem sees_from {w : World} {B b off cap s : Nat} {L : List UInt8} (h : Sees w B (.slice (some ⟨b, off, none⟩) L.length cap) L) (hs : s ≤ L.length) : Sees w B (.slice (some ⟨b, off + s, none⟩) (L.length - s) (cap - s)) (L.drop s) := by
  obtain ⟨sp, c2, hv, hc, hp⟩ := h.form2
  cases hv
  refine .inr ⟨⟨b, off + s, none⟩, cap - s, by rw [List.length_drop], by rw [List.length_drop]; omega, fun h0 => ?_, fun j hj => ?_⟩
  · rw [List.length_drop] at h0
    obtain ⟨b', o', he, hb, _⟩ := hp (by omega)
    cases he
    exact hb
  · rw [List.length_drop] at hj
    obtain ⟨b', o', he, hb, hjj⟩ := hp (by omega)
    cases he
    have := hjj (s + j) (by omega)
    rw [add_plain, Nat.add_assoc, this]
    simp
theorem sees_end {w : World} {B b off : Nat} : Sees w B (.slice (some ⟨b, off, none⟩) 0 0) [] := .inr ⟨⟨b, off, none⟩, 0, rfl, Nat.le_refl _, fun h => absurd h (by simp), fun j hj => absurd hj (by simp)⟩
def ReadV (w : World) (p : List UInt8) (e : Ending) (w' : World) : Prop :=
  ((∃ ns, Good p ns ∧ ∃ v, e = .returned v ∧ Rows 1 EInt w' v (castN ns)) ∨ ((¬ ∃ ns, Good p ns) ∧ e = .returned (.slice none 0 0))) ∧ Below w.heap.size w w'
theorem bytesN_ge : ∀ ns : List Nat, ns.length ≤ (bytesN ns).length
  | [] => Nat.le_refl _
  | v :: ns => by
    have h1 := enc_pos v
    have h2 := bytesN_ge ns
    rw [bytesN_cons, List.length_append, List.length_cons]
    omega
/-- What a round of reading knows. -/
def RdI (p : List UInt8) (pre : List Nat) (R : List UInt8) : Prop := p = bytesN pre ++ R ∧ ∀ v ∈ pre, v ≤ 2147483647
theorem rd_stop {p R : List UInt8} {pre : List Nat} (h : RdI p pre R) (hR : R ≠ []) (hb : (tk R 0 0).2.2 ≠ 0 ∨ 2147483647 < (tk R 0 0).1) : ¬ ∃ ns, Good p ns := by
  rintro ⟨ns, hg⟩
  obtain ⟨ns', _, h2⟩ := good_pre h.1 h.2 hg
  have := good_stop hR h2
  rcases hb with hb | hb
  · exact hb this.1
  · omega
theorem rd_next {p R rest : List UInt8} {pre : List Nat} {v : Nat} (h : RdI p pre R) (hR : R = enc v ++ rest) (hv : v ≤ 2147483647) : RdI p (pre ++ [v]) rest := by
  refine ⟨?_, fun x hx => ?_⟩
  · rw [h.1, hR, bytesN_app, bytesN_cons, bytesN_nil, List.append_nil, List.append_assoc]
  · rcases List.mem_append.1 hx with hx | hx
    · exact h.2 x hx
    · rw [List.mem_singleton.1 hx]; exact hv

set_option maxRecDepth 100000 in
set_option maxHeartbeats 8000000 in
theorem read_any {w : World} {v : Value} {p : List UInt8} (hv : Sees w w.heap.size v p) (hl : p.length ≤ 100000) : Calls Tryd.prog 23 #[v] w (ReadV w p) := by
  obtain ⟨N0, hN0⟩ : ∃ N, w.heap.size = N := ⟨_, rfl⟩
  rw [hN0] at hv
  have HN0 := Lib.hid hN0
  have HV := Lib.hid hv
  have hsl : slN v ≤ 100000 := by
    obtain ⟨sp, cp, rfl, -⟩ := hv.form2
    exact hl
  obtain ⟨sp, cp, rfl, -⟩ := hv.form2
  clear hv hN0 hsl
  go_enter Tryd.func23, Tryd.ntmps23
  go_wp2_with fail
  go_loopw [0, 3] (fun bv lv wr => ∃ (pre : List Nat) (R : List UInt8) (bw lw : Value), bw = bv ∧ lw = lv ∧ Hid (RdI p pre R) ∧ Hid (Sees wr N0 bw R) ∧ Hid (wr.ownsRow N0 3 1 lw pre.length (intsN pre)) ∧ Hid (Below N0 w wr)) (fun bv _ _ => slN bv)
  case atStart => exact ⟨[], p, _, _, rfl, rfl, Lib.hid ⟨rfl, fun v hv => by simp at hv⟩, HV, Lib.hid (World.ownsRow_nil _ _ _ _), Lib.hid (Below.refl _ _)⟩
  case round =>
    obtain ⟨pre, R, bv, lv, hbv, hlv, HI, HS, HO, HB⟩ := hrel
    subst hbv hlv
    obtain ⟨n, hn⟩ : ∃ n, R.length = n := ⟨_, rfl⟩
    have hRp : R.length ≤ 100000 := by
      have := congrArg List.length HI.out.1
      rw [List.length_append] at this
      omega
    have hpl : pre.length ≤ 100000 := by
      have h1 := congrArg List.length HI.out.1
      have h2 := bytesN_ge pre
      rw [List.length_append] at h1
      omega
    by_cases h0 : n = 0
    · have hR : R = [] := List.length_eq_zero_iff.1 (by omega)
      obtain ⟨sp2, c2, rfl, -⟩ := HS.out.form2
      subst hR
      have hg : Good p pre := ⟨by have := HI.out.1; rwa [List.append_nil] at this, HI.out.2⟩
      have HE := Lib.hid (show ReadV w p (.returned lv) wr from ⟨.inl ⟨pre, hg, lv, rfl, ints_rows HO.out⟩, by rw [HN0.out]; exact HB.out⟩)
      clear hn hRp h0 hg HI HS HO HB hpl
      rw [List.length_nil]
      go_wp2_with fail
      go_ret
      exact HE.out
    · have hRne : R ≠ [] := fun e => h0 (by rw [← hn, e]; rfl)
      have HU := Lib.hid (uvarint_any HS.out (by omega))
      obtain ⟨sp2, c2, rfl, hc2, hp2⟩ := HS.out.form2
      obtain ⟨b, off, rfl, hb0, -⟩ := hp2 (by omega)
      obtain ⟨⟨V, s, er⟩, ht⟩ : ∃ t, tk R 0 0 = t := ⟨_, rfl⟩
      rw [ht] at HU
      unfold tkV at HU
      simp only at HU
      have hst := rd_stop HI.out hRne
      rw [ht] at hst
      simp only at hst
      have HST := Lib.hid hst
      have HEN : Hid (¬ (∃ ns, Good p ns) → ∀ W, Below N0 w W → ReadV w p (.returned (.slice none 0 0)) W) := Lib.hid (fun h W hb => ⟨.inr ⟨h, rfl⟩, by rw [HN0.out]; exact hb⟩)
      have hn0 : (0 : Int) < (n : Int) := Int.natCast_pos.2 (Nat.pos_of_ne_zero h0)
      by_cases he : er = 0
      · subst he
        by_cases hbig : 2147483647 < V
        · have HBAD := Lib.hid (HST.out (.inr hbig))
          rw [hn] at HU ⊢
          clear hst hRne hn hRp hpl h0 hc2 hp2 ht hb0 HS HI HO HST
          go_wp2_with fail
          refine HU.out.mono ?_
          rintro e w2 ⟨rfl, rfl⟩
          go_wp2_with fail
          go_ret
          exact HEN.out HBAD.out _ HB.out
        · obtain ⟨rest, hR, hs, hV⟩ := tk_can ht
          have hsn : s ≤ n := by rw [← hn, hR, hs, List.length_append]; omega
          have hs1 : 1 ≤ s := by rw [hs]; exact enc_pos V
          have hdr : R.drop s = rest := by rw [hR, hs, List.drop_left' rfl]
          have HI2 := Lib.hid (rd_next HI.out hR (by omega))
          have hfr := sees_from (s := s) HS.out (by omega)
          rw [hdr, hn] at hfr
          have hrl : rest.length = n - s := by rw [← hdr, List.length_drop, hn]
          have HFR := Lib.hid hfr
          have HRL := Lib.hid hrl
          have hwv : IntKind.i64.wrap (V : Int) = (V : Int) := by rw [IntKind.wrap_i64]; omega
          have hVi : ¬ (2147483647 : Int) < (V : Int) := by omega
          have hsi : (s : Int) ≤ (n : Int) := by omega
          have hN : N0 ≤ wr.heap.size := by rw [← HN0.out]; exact HB.out.size
          have HN := Lib.hid hN
          have HPL := Lib.hid hpl
          obtain ⟨m, hm⟩ : ∃ m, pre.length = m := ⟨_, rfl⟩
          have HM := Lib.hid hm
          have HO2 := Lib.hid (show wr.ownsRow N0 3 1 lv m (intsN pre) by rw [← hm]; exact HO.out)
          have hm6 : m ≤ 1000000 := by omega
          rw [hn] at HU hc2 ⊢
          have HC2 := Lib.hid hc2
          clear hst hRne hRp h0 ht hR hs hdr hfr hrl hN hpl hm hn HST HEN HI HO hp2 hbig hV
          by_cases hcs : c2 = s
          · have hns : n = s := by have := HC2.out; omega
            have HNS := Lib.hid hns
            clear hns hc2
            subst hcs
            go_wp2_with fail
            refine HU.out.mono ?_
            rintro e w2 ⟨rfl, rfl⟩
            go_wp2_with (at_builtin; refine wpList_pushI rfl (.tmp 22) (.tmp 25) rfl N0 _ _ _ (V : Int) rfl rfl HO2.out hm6 HN.out ?_; intro v' w' HO3 HB3)
            refine ⟨⟨pre ++ [V], rest, _, _, rfl, rfl, HI2, Lib.hid ?_, Lib.hid ?_, Lib.hid (HB3.out _ _ HB.out (Nat.le_refl _))⟩, ?_⟩
            · have hnil : rest = [] := List.length_eq_zero_iff.1 (by have := HRL.out; have := HNS.out; omega)
              rw [hnil, show n - c2 = 0 by have := HNS.out; omega]
              exact sees_end
            · have := HO3.out
              rw [List.length_append, HM.out]
              unfold intsN at this ⊢
              rw [List.map_append]
              exact this
            · simp only [slN]
              have := HNS.out
              omega
          · clear hc2
            go_wp2_with fail
            refine HU.out.mono ?_
            rintro e w2 ⟨rfl, rfl⟩
            go_wp2_with (at_builtin; refine wpList_pushI rfl (.tmp 22) (.tmp 25) rfl N0 _ _ _ (V : Int) rfl rfl HO2.out hm6 HN.out ?_; intro v' w' HO3 HB3)
            refine ⟨⟨pre ++ [V], rest, _, _, rfl, rfl, HI2, Lib.hid ?_, Lib.hid ?_, Lib.hid (HB3.out _ _ HB.out (Nat.le_refl _))⟩, ?_⟩
            · have hk : Below N0 wr w' := by
                have := HB3.out N0 wr (Below.refl _ _) (Nat.le_refl _)
                exact this
              exact HFR.out.below hk
            · have := HO3.out
              rw [List.length_append, HM.out]
              unfold intsN at this ⊢
              rw [List.map_append]
              exact this
            · simp only [slN]
              omega
      · have HBAD := Lib.hid (HST.out (.inl he))
        have heb : ((er : Int) != 0) = true := by simp; omega
        rw [hn] at HU ⊢
        clear hst hRne hn hRp hpl h0 hc2 hp2 ht hb0 HS HI HO HST he
        go_wp2_with fail
        refine HU.out.mono ?_
        rintro e w2 ⟨rfl, rfl⟩
        go_wp2_with fail
        go_ret
        exact HEN.out HBAD.out _ HB.out

/-- What Decode answers. -/
def DecV (w : World) (L : List UInt8) (e : Ending) (w' : World) : Prop :=
  ((∃ l, chkT l = 0 ∧ encL l = L ∧ ∃ B, e = .returned (.tuple #[.pointer (some ⟨B, 0, none⟩), .int .i64 0]) ∧ IdxAt w' B l) ∨ ((¬ ∃ l, chkT l = 0 ∧ encL l = L) ∧ e = .returned (.tuple #[.pointer none, .int .i64 9]))) ∧ Below w.heap.size w w'
theorem no_short {L : List UInt8} (h : L.length < 4) : ¬ ∃ l, chkT l = 0 ∧ encL l = L := by
  rintro ⟨l, _, rfl⟩
  unfold encL at h
  rw [seal_len] at h
  omega
theorem enc_take {L : List UInt8} {m : Nat} (hm : L.length = m + 4) {l : List Sp} (h : encL l = L) : L.take m = payL l ∧ sealL (L.take m) = L := by
  have h1 := congrArg List.length h
  unfold encL at h1
  rw [seal_len, hm] at h1
  have h2 : L.take m = payL l := by
    rw [← h]
    unfold encL sealL
    rw [List.take_left' (by omega)]
  exact ⟨h2, by rw [h2]; exact h⟩
theorem pay_good {l : List Sp} (h : chkT l = 0) : Good (payL l) (numsN l) := ⟨rfl, nums_small h⟩
theorem nums_ok (l : List Sp) : SpOK (numsN l) := by
  unfold SpOK numsN
  rw [List.length_cons, flatN_len]
  constructor
  · omega
  · simp
    omega
/-- Numbers that are those of an index: its spans. -/
theorem nums_of_ok {ns : List Nat} (h : SpOK ns) : numsN (pairsN (ns.drop 1)) = ns := by
  obtain ⟨h1, h2⟩ := h
  cases ns with
  | nil => simp at h1
  | cons v r =>
    simp at h1 h2
    obtain ⟨h3, h4⟩ := pairs_flat r (by omega)
    unfold numsN
    rw [List.drop_succ_cons, List.drop_zero, h3, h4, h2]
    congr 1
    omega
theorem pairs_nums {l : List Sp} (h : chkT l = 0) : pairsN ((numsN l).drop 1) = l := by
  unfold numsN
  rw [List.drop_succ_cons, List.drop_zero]
  exact pairs_of_flat (chkT_pos h)

set_option maxRecDepth 100000 in
set_option maxHeartbeats 8000000 in
theorem decode_any {w : World} {v : Value} {L : List UInt8} (hs : Sees w w.heap.size v L) (hL : L.length ≤ 100000) (ht : Tab w) : Calls Tryd.prog 8 #[v] w (DecV w L) := by
  by_cases h4 : L.length < 4
  · have HU := Lib.hid (unseal_short hs h4)
    have HNO := Lib.hid (no_short h4)
    obtain ⟨sp, cp, rfl, -⟩ := hs.form2
    obtain ⟨n, hn⟩ : ∃ n, L.length = n := ⟨_, rfl⟩
    rw [hn] at HU ⊢
    clear hs ht h4 hL hn
    go_enter Tryd.func8, Tryd.ntmps8
    go_wp2_with fail
    refine HU.out.mono ?_
    rintro e w2 ⟨rfl, rfl⟩
    go_wp2_with fail
    go_ret2
    exact ⟨.inr ⟨HNO.out, rfl⟩, Below.refl _ _⟩
  · obtain ⟨m, hm⟩ : ∃ m, L.length = m + 4 := ⟨L.length - 4, by omega⟩
    by_cases hd : sealL (L.take m) = L
    · have HU := Lib.hid (unseal_long hs m hm (by omega) ht (fun r w' => ∃ v', r = .tuple #[v', .int .i64 0] ∧ Sees w' w'.heap.size v' (L.take m) ∧ Below w.heap.size w w') (fun hne => absurd hd hne) (fun _ v' w' h1 h2 => ⟨v', rfl, h1, h2⟩))
      have HD := Lib.hid hd
      have HM := Lib.hid hm
      obtain ⟨sp, cp, rfl, -⟩ := hs.form2
      obtain ⟨n, hn⟩ : ∃ n, L.length = n := ⟨_, rfl⟩
      obtain ⟨P, hP⟩ : ∃ P, L.take m = P := ⟨_, rfl⟩
      have hPl : P.length ≤ 100000 := by rw [← hP, List.length_take]; omega
      have HPL := Lib.hid hPl
      have HP := Lib.hid hP
      rw [hP] at HU HD
      rw [hn] at HU ⊢
      clear hs ht h4 hL hn hP hPl hm hd
      go_enter Tryd.func8, Tryd.ntmps8
      go_wp2_with fail
      refine HU.out.mono ?_
      rintro e w1 ⟨r, rfl, v1, rfl, hs1, hb1⟩
      have HB1 := Lib.hid hb1
      have HRD := Lib.hid (read_any hs1 HPL.out)
      obtain ⟨sp1, cp1, rfl, -⟩ := hs1.form2
      unfold ReadV at HRD
      clear hs1 hb1
      go_wp2_with fail
      refine HRD.out.mono ?_
      rintro e w2 ⟨(⟨ns, hg, v2, rfl, hr2⟩ | ⟨hno, rfl⟩), hb2⟩
      · have HB2 := Lib.hid (HB1.out.trans (hb2.mono HB1.out.size))
        have hnl : ns.length ≤ 100000 := by
          have h1 := bytesN_ge ns
          rw [← hg.1] at h1
          have := HPL.out
          omega
        have HSP := Lib.hid (spansOf_any hr2 hnl hg.2)
        unfold SpansV at HSP
        have HG := Lib.hid hg
        obtain ⟨A2, c2, rfl, -⟩ := hr2.form
        clear hr2 hb2 hg hnl
        go_wp2_with fail
        refine HSP.out.mono ?_
        rintro e w3 ⟨(⟨hok, v3, rfl, hr3⟩ | ⟨hnok, rfl⟩), hb3⟩
        · have HB3 := Lib.hid (HB2.out.trans (hb3.mono HB2.out.size))
          have HOK := Lib.hid hok
          have HBD := Lib.hid (build_any hr3)
          unfold BuildV at HBD
          obtain ⟨l, hl⟩ : ∃ l, pairsN (ns.drop 1) = l := ⟨_, rfl⟩
          have HL := Lib.hid hl
          rw [hl] at HBD hr3
          obtain ⟨A3, c3, rfl, -⟩ := hr3.form
          skip
          clear hr3 hb3 hok hl
          go_wp2_with fail
          refine HBD.out.mono ?_
          rintro e w4 ⟨⟨p4, rfl, hp4⟩, hb4⟩
          have HB4 := Lib.hid (HB3.out.trans (hb4.mono HB3.out.size))
          rcases hp4 with ⟨h0, B, rfl, hI⟩ | ⟨h0, rfl⟩
          · have HE := Lib.hid (show DecV w L (.returned (.tuple #[.pointer (some ⟨B, 0, none⟩), .int .i64 0])) w4 from ⟨.inl ⟨l, h0, by
                unfold encL payL
                rw [← HL.out, nums_of_ok HOK.out, ← HG.out.1]
                exact HD.out, B, rfl, hI⟩, HB4.out⟩)
            rw [h0]
            clear hb4 h0 hI
            go_wp2_with fail
            go_ret2
            exact HE.out
          · have HE := Lib.hid (show DecV w L (.returned (.tuple #[.pointer none, .int .i64 9])) w4 from ⟨.inr ⟨fun ⟨l', hc', he'⟩ => by
                obtain ⟨h1, _⟩ := enc_take HM.out he'
                rw [HP.out] at h1
                have h2 : ns = numsN l' := bytes_inj (good_b64 HG.out) (nums_b64 hc') (by rw [← HG.out.1, h1]; rfl)
                have h3 : l = l' := by rw [← HL.out, h2]; exact pairs_nums hc'
                exact h0 (by rw [h3]; exact hc'), rfl⟩, HB4.out⟩)
            obtain ⟨z, hz⟩ : ∃ z, chkT l = z := ⟨_, rfl⟩
            rw [hz] at h0 ⊢
            have hzb : (z != 0) = true := by simp [h0]
            clear hb4 h0 hz
            go_wp2_with fail
            go_ret2
            exact HE.out
        · have HE := Lib.hid (show DecV w L (.returned (.tuple #[.pointer none, .int .i64 9])) w3 from ⟨.inr ⟨fun ⟨l', hc', he'⟩ => by
              obtain ⟨h1, _⟩ := enc_take HM.out he'
              rw [HP.out] at h1
              have h2 : ns = numsN l' := bytes_inj (good_b64 HG.out) (nums_b64 hc') (by rw [← HG.out.1, h1]; rfl)
              exact hnok (by rw [h2]; exact nums_ok l'), rfl⟩, HB2.out.trans (hb3.mono HB2.out.size)⟩)
          clear hb3 hnok
          go_wp2_with fail
          go_ret2
          exact HE.out
      · have HB2 := Lib.hid (HB1.out.trans (hb2.mono HB1.out.size))
        have HSP := Lib.hid (spansOf_any (w := w2) (v := .slice none 0 0) (ns := []) (Rows.nil _) (by simp) (fun x hx => by simp at hx))
        unfold SpansV at HSP
        have HNO := Lib.hid (show ¬ ∃ l, chkT l = 0 ∧ encL l = L from fun ⟨l', hc', he'⟩ => by
          obtain ⟨h1, _⟩ := enc_take HM.out he'
          rw [HP.out] at h1
          exact hno ⟨_, by rw [h1]; exact pay_good hc'⟩)
        clear hb2 hno
        go_wp2_with fail
        refine HSP.out.mono ?_
        rintro e w3 ⟨(⟨hok, v3, rfl, hr3⟩ | ⟨hnok, rfl⟩), hb3⟩
        · exact absurd hok.1 (by simp)
        · have HB3 := Lib.hid (HB2.out.trans (hb3.mono HB2.out.size))
          clear hb3 hnok
          go_wp2_with fail
          go_ret2
          exact ⟨.inr ⟨HNO.out, rfl⟩, HB3.out⟩
    · have HU := Lib.hid (unseal_long hs m hm (by omega) ht (fun r w' => r = .tuple #[.slice none 0 0, .int .i64 9] ∧ Below w.heap.size w w') (fun _ w' h => ⟨rfl, h⟩) (fun h => absurd h hd))
      have HNO := Lib.hid (show ¬ ∃ l, chkT l = 0 ∧ encL l = L from fun ⟨l', hc', he'⟩ => hd (enc_take hm he').2)
      obtain ⟨sp, cp, rfl, -⟩ := hs.form2
      obtain ⟨n, hn⟩ : ∃ n, L.length = n := ⟨_, rfl⟩
      rw [hn] at HU ⊢
      clear hs ht h4 hL hn hm hd
      go_enter Tryd.func8, Tryd.ntmps8
      go_wp2_with fail
      refine HU.out.mono ?_
      rintro e w2 ⟨r, rfl, rfl, hb2⟩
      have HB2 := Lib.hid hb2
      clear hb2
      go_wp2_with fail
      go_ret2
      exact ⟨.inr ⟨HNO.out, rfl⟩, HB2.out⟩
end Go.Proofs.YtifdencdbpdbfaaDoor
