/-
  WALKS over package checksum, fourth part: bytes.Equal, Unseal.
-/
import Derived.Test.YtifdencdbpdbfaaDoorCkC
import Derived.RegionTactic
namespace Go.Proofs.YtifdencdbpdbfaaDoor
open Go.RowKit Go.Shelf Go.Lib

theorem bytes_beq (L L' : List UInt8) : ((⟨L.toArray⟩ : ByteArray).toList == (⟨L'.toArray⟩ : ByteArray).toList) = decide (L = L') := by
  rw [Lib.toList_data, Lib.toList_data, Bool.eq_iff_iff]
  simp
set_option maxHeartbeats 400000 in
theorem equal_any {w : World} {B B' : Nat} {v v' : Value} {L L' : List UInt8} (h : Sees w B v L) (h' : Sees w B' v' L') :
    Calls Tryd.prog 36 #[v, v'] w fun e w' => e = .returned (.bool (decide (L = L'))) ∧ w = w' := by
  have c1 := h.convert
  have c2 := h'.convert
  have e3 := bytes_beq L L'
  obtain ⟨x, hx⟩ : ∃ x, (⟨L.toArray⟩ : ByteArray) = x := ⟨_, rfl⟩
  obtain ⟨y, hy⟩ : ∃ y, (⟨L'.toArray⟩ : ByteArray) = y := ⟨_, rfl⟩
  rw [hx] at c1 e3
  rw [hy] at c2 e3
  have H := Lib.hid e3
  clear e3 hx hy h h'
  go_enter Tryd.func36, Tryd.ntmps36
  go_wp2
  go_ret
  rw [H.out]
  exact ⟨rfl, rfl⟩

set_option maxHeartbeats 400000 in
theorem unseal_short {w : World} {B : Nat} {v : Value} {L : List UInt8} (hs : Sees w B v L) (hm : L.length < 4) :
    Calls Tryd.prog 21 #[v] w fun e w' => e = .returned (.tuple #[.slice none 0 0, .int .i64 10]) ∧ w = w' := by
  obtain ⟨A, cap, hv, _⟩ := hs.le
  obtain ⟨n, hn⟩ : ∃ n, L.length = n := ⟨_, rfl⟩
  rw [hn] at hv hm
  have h4 : (n : Int) < 4 := by omega
  subst hv
  clear hs hn
  go_enter Tryd.func21, Tryd.ntmps21
  go_wp2
  go_ret2
  exact ⟨rfl, rfl⟩

set_option maxRecDepth 100000 in
set_option maxHeartbeats 1000000 in
theorem unseal_long {w : World} {v : Value} {L : List UInt8} (hs : Sees w w.heap.size v L) (m : Nat) (hn : L.length = m + 4) (hm : L.length ≤ 10000000) (ht : Tab w) (R : Value → World → Prop)
    (hbad : sealL (L.take m) ≠ L → ∀ w', Below w.heap.size w w' → R (.tuple #[.slice none 0 0, .int .i64 9]) w')
    (hok : sealL (L.take m) = L → ∀ v' w', Sees w' w'.heap.size v' (L.take m) → Below w.heap.size w w' → R (.tuple #[v', .int .i64 0]) w') :
    Calls Tryd.prog 21 #[v] w fun e w' => ∃ r, e = .returned r ∧ R r w' := by
  obtain ⟨A, cap, hv, hcap⟩ := hs.le
  have hs2 := (hv ▸ hs).to.2.2 m (by omega)
  obtain ⟨n, hne⟩ : ∃ n, L.length = n := ⟨_, rfl⟩
  rw [hne] at hv hn hm hcap
  have hseal := seal_any hs2 (by rw [List.length_take]; omega) ht
  have hlen : (sealL (L.take m)).length = n := by rw [seal_len, List.length_take]; omega
  have hpre : (sealL (L.take m)).take m = L.take m := by
    unfold sealL
    exact List.take_left' (by rw [List.length_take]; omega)
  rw [hlen] at hseal
  have HSEAL := Lib.hid hseal
  have HL := Lib.hid hlen
  have HP := Lib.hid hpre
  have HS := Lib.hid hs
  have HBAD := Lib.hid hbad
  have HOK := Lib.hid hok
  have h4 : (4 : Int) ≤ n := by omega
  have hsub : (n : Int) - 4 = (m : Int) := by omega
  have hmn : m ≤ n := by omega
  have hmc : m ≤ cap := by omega
  have hsl := slice_to A n cap m hmn hcap w
  subst hv
  clear hs hs2 hn hlen hpre hseal hbad hok ht hne
  go_enter Tryd.func21, Tryd.ntmps21
  go_wp2_with fail
  refine HSEAL.out.mono ?_
  rintro e w1 ⟨v1, rfl, hown, hb⟩
  obtain ⟨A1, cap1, rfl, hc1⟩ := own_form hown
  have hsees : Sees w1 w1.heap.size (.slice A1 n cap1) (sealL (L.take m)) := sees_own (by rw [HL.out]; exact hown)
  have heq := equal_any hsees (HS.out.below hb)
  have HEQ := Lib.hid heq
  have HSEES := Lib.hid hsees
  have HB := Lib.hid hb
  have hsl1 := slice_to A1 n cap1 m hmn hc1 w1
  clear hown hb hsees heq
  by_cases hd : sealL (L.take m) = L
  · have HD := Lib.hid hd
    have HEQ2 := HEQ.out
    rw [decide_eq_true hd] at HEQ2
    have HEQ3 := Lib.hid HEQ2
    clear HEQ2 HEQ hd
    go_wp2_with fail
    refine HEQ3.out.mono ?_
    rintro e w2 ⟨rfl, rfl⟩
    go_wp2
    go_ret2
    refine ⟨_, rfl, HOK.out HD.out _ _ ?_ HB.out⟩
    have := HSEES.out.to.2.2 m hmn
    rw [HP.out] at this
    exact this
  · have HD := Lib.hid hd
    have HEQ2 := HEQ.out
    rw [decide_eq_false hd] at HEQ2
    have HEQ3 := Lib.hid HEQ2
    clear HEQ2 HEQ hd
    go_wp2_with fail
    refine HEQ3.out.mono ?_
    rintro e w2 ⟨rfl, rfl⟩
    go_wp2
    go_ret2
    exact ⟨_, rfl, HBAD.out HD.out _ HB.out⟩

set_option maxHeartbeats 400000 in
theorem refUnseal_short {w : World} {B : Nat} {v : Value} {L : List UInt8} (hs : Sees w B v L) (hm : L.length < 4) :
    Calls Tryd.prog 29 #[v] w fun e w' => e = .returned (.tuple #[.slice none 0 0, .bool false]) ∧ w = w' := by
  obtain ⟨A, cap, hv, _⟩ := hs.le
  obtain ⟨n, hn⟩ : ∃ n, L.length = n := ⟨_, rfl⟩
  rw [hn] at hv hm
  have h4 : (n : Int) < 4 := by omega
  subst hv
  clear hs hn
  go_enter Tryd.func29, Tryd.ntmps29
  go_wp2
  go_ret2
  exact ⟨rfl, rfl⟩
theorem below_undrew {B : Nat} {w w' : World} (h : Below B w.drew w') : Below B w w' := ⟨h.os, h.tape, h.output, h.size, h.block⟩

set_option maxRecDepth 100000 in
set_option maxRecDepth 100000 in
set_option maxHeartbeats 1000000 in
theorem refUnseal_long {w : World} {v : Value} {L : List UInt8} (hs : Sees w w.heap.size v L) (m : Nat) (hn : L.length = m + 4) (hm : L.length ≤ 10000000) :
    Calls Tryd.prog 29 #[v] w fun e w' => ∃ v', e = .returned (.tuple #[v', .bool (decide (sealL (L.take m) = L))]) ∧ Sees w' w'.heap.size v' (L.take m) ∧ Below w.heap.size w w' := by
  obtain ⟨i0, hi, hz0, hz1, hz2⟩ := info_parts' Tryd.infoByte
  obtain ⟨A, cap, hv, hcap⟩ := hs.le
  have hs2 := (hv ▸ hs).to.2.2 m (by omega)
  have hpl : (L.take m).length = m := by rw [List.length_take]; omega
  obtain ⟨n, hne⟩ : ∃ n, L.length = n := ⟨_, rfl⟩
  obtain ⟨P, hP⟩ : ∃ P, L.take m = P := ⟨_, rfl⟩
  rw [hne] at hv hn hm hcap
  rw [hP] at hs2 hpl ⊢
  obtain ⟨x, hx⟩ : ∃ x, (⟨L.toArray⟩ : ByteArray) = x := ⟨_, rfl⟩
  obtain ⟨y, hy⟩ : ∃ y, (⟨(sealL P).toArray⟩ : ByteArray) = y := ⟨_, rfl⟩
  have hcv : ∀ (W : World) (B : Nat) (V : Value), Sees W B V L → (convert 29 9 V).run Tryd.prog W = .ok (.string x) W := fun _ _ _ h => by rw [← hx]; exact h.convert
  have hcw : ∀ (W : World) (B : Nat) (V : Value), Sees W B V (sealL P) → (convert 29 9 V).run Tryd.prog W = .ok (.string y) W := fun _ _ _ h => by rw [← hy]; exact h.convert
  have heq : (y.toList == x.toList) = decide (sealL P = L) := by rw [← hx, ← hy]; exact bytes_beq _ _
  have hc0 := hcv w.drew _ _ hs.drew'
  have href : ∀ W : World, Sees W w.heap.size (.slice A m cap) P → (∀ p : Addr, p.block < w.heap.size → W.cell? p = w.cell? p) → w.heap.size ≤ W.heap.size → Calls Tryd.prog 25 #[.slice A m cap] W fun e w' => ∃ v', e = .returned v' ∧ w'.ownsRow W.heap.size 5 1 v' (sealL P).length (byteCells (sealL P)) ∧ Below W.heap.size W w' :=
    fun W h _ hsz => refSeal_any (h.mono hsz) (by omega)
  have hcl : (byteCells P).length = m := by rw [byteCells_length, hpl]
  have HS := Lib.hid (hs.drew' : Sees w.drew w.heap.size v L)
  have HSP := Lib.hid (hs2.drew' : Sees w.drew w.heap.size _ P)
  have HSC := Lib.hid (hs2.drew'.cells : SeesC w.drew w.heap.size _ (byteCells P))
  have HCV := Lib.hid hcv
  have HCW := Lib.hid hcw
  have HEQ := Lib.hid heq
  have HREF := Lib.hid href
  have HPL := Lib.hid hpl
  have HCL := Lib.hid hcl
  have HON := Lib.hid (bytes_one P)
  have h4 : (4 : Int) ≤ n := by omega
  have hsub : (n : Int) - 4 = (m : Int) := by omega
  have hmn : m ≤ n := by omega
  have hmc : m ≤ cap := by omega
  have hsl := slice_to A n cap m hmn hcap w
  subst hv
  clear hs hs2 hn hpl hP hcv hcw heq href hne hx hy hcl
  go_enter Tryd.func29, Tryd.ntmps29
  go_wp2_with fail
  refine wp_region_any (by kernel_rfl) ?_
  change wpAny _ _ _ _ _ _ _ (World.drew _)
  refine wpAny_take (i := 0) (oi := ?oi1) (v := ?v1) ?hi1 (by kernel_rfl) (by kernel_rfl) (by kernel_rfl) ?hq1 ?hy1 ?hr1
  case hi1 => (simp only [List.getElem?_toArray, List.getElem?_cons_zero]; rfl)
  case hq1 => exact fun _ _ _ h => h
  case hy1 => exact Or.inl ⟨by rfl, by intro w; (first | (go_simp; done) | (go_simp; with_reducible rfl))⟩
  try simp only [Act.put, List.setIfInBounds_toArray, List.set_cons_zero, List.set_cons_succ]
  refine wpAny_take (i := 2) (oi := ?oi2) (v := ?v2) ?hi2 (by kernel_rfl) (by kernel_rfl) (by kernel_rfl) ?hq2 ?hy2 ?hr2
  case hi2 => (simp only [List.getElem?_toArray, List.getElem?_cons_succ, List.getElem?_cons_zero]; rfl)
  case hq2 => exact fun _ _ _ h => h
  case hy2 => exact Or.inl ⟨by rfl, by intro w; (first | (go_simp; done) | (go_simp; with_reducible rfl))⟩
  try simp only [Act.put, List.setIfInBounds_toArray, List.set_cons_zero, List.set_cons_succ]
  refine wpAny_take (i := 5) (oi := ?oi3) (v := ?v3) ?hi3 (by kernel_rfl) (by kernel_rfl) (by kernel_rfl) ?hq3 ?hy3 ?hr3
  case hi3 => (simp only [List.getElem?_toArray, List.getElem?_cons_succ, List.getElem?_cons_zero]; rfl)
  case hq3 => exact fun _ _ _ h => h
  case hy3 => exact Or.inl ⟨by rfl, by intro w; (first | (go_simp; done) | (go_simp; with_reducible rfl))⟩
  try simp only [Act.put, List.setIfInBounds_toArray, List.set_cons_zero, List.set_cons_succ]
  refine wpAny_ready (rs := [1, 6]) (by kernel_rfl) (by simp) ?_
  refine AllReady.cons (o := ?oo4) ?hi4 (fun K hK => ?hs4) ?hm4
  case hi4 => (simp only [List.getElem?_toArray, List.getElem?_cons_succ, List.getElem?_cons_zero]; rfl)
  · refine step_append_any rfl (.const (.slice none 0 0)) (.tmp 13) 29 rfl w.drew.heap.size 5 i0 _ 1 Tryd.underlying29 hi hz0 hz1 hz2 rfl _ 0 [] rfl (World.ownsRow_nil _ _ _ _) _ _ (byteCells P) rfl HSC.out HON.out (by rw [HCL.out]; unfold maxLen; omega) (by rw [HCL.out]; omega) (Nat.le_refl _) ?_
    intro v1 w1 hown1 hgrow1 _
    rw [HCL.out] at hown1
    have hb1 : Below w.drew.heap.size w.drew w1 := (Below.refl _ w.drew).grown hgrow1 (Nat.le_refl _) (fun k e => (own_low (World.ownsRow_nil w.drew w.drew.heap.size 5 1) k e).1)
    have hk1 := HCV.out w1 _ _ (HS.out.below hb1)
    have href := HREF.out w1 (HSP.out.below hb1) (fun p hp => hb1.cell hp) hb1.size
    have HR := Lib.hid href
    have HB1 := Lib.hid hb1
    have HO1 := Lib.hid (sees_own (L := P) (by rw [HPL.out]; simpa using hown1))
    clear hown1 hgrow1 hb1 href
    refine hK _ _ ?_; clear hK K
    try simp only [Act.put, List.setIfInBounds_toArray, List.set_cons_zero, List.set_cons_succ]
    refine wpAny_ready (rs := [3, 6]) (by kernel_rfl) (by simp) ?_
    refine AllReady.cons (o := ?oo5) ?hi5 (fun K hK => ?hs5) ?hm5
    case hi5 => (simp only [List.getElem?_toArray, List.getElem?_cons_succ, List.getElem?_cons_zero]; rfl)
    · go_simp
      refine HR.out.mono ?_
      rintro e w2 ⟨v2, rfl, hown2, hb2⟩
      have hb02 := HB1.out.trans (hb2.mono HB1.out.size)
      have hk2 := HCV.out w2 _ _ (HS.out.below hb02)
      have hk3 := HCW.out w2 _ _ (sees_own hown2)
      have HO2 := Lib.hid ((HO1.out.below hb2).mono hb2.size)
      have HB2 := Lib.hid hb02
      clear hown2 hb2 hb02
      go_wp2_with fail
      try simp only [Act.put, List.setIfInBounds_toArray, List.set_cons_zero, List.set_cons_succ]
      refine wpAny_take (i := 8) (oi := ?oi6) (v := ?v6) ?hi6 (by kernel_rfl) (by kernel_rfl) (by kernel_rfl) ?hq6 ?hy6 ?hr6
      case hi6 => (simp only [List.getElem?_toArray, List.getElem?_cons_succ, List.getElem?_cons_zero]; rfl)
      case hq6 => exact fun _ _ _ h => h
      case hy6 => exact Or.inl ⟨by rfl, by intro w; (first | (go_simp; done) | (go_simp; with_reducible rfl))⟩
      try simp only [Act.put, List.setIfInBounds_toArray, List.set_cons_zero, List.set_cons_succ]
      refine wpAny_ready (rs := [4, 6]) (by kernel_rfl) (by simp) ?_
      refine AllReady.cons (o := ?oo7) ?hi7 (fun K hK => ?hs7) ?hm7
      case hi7 => (simp only [List.getElem?_toArray, List.getElem?_cons_succ, List.getElem?_cons_zero]; rfl)
      · go_simp
        refine hK _ _ ?_; clear hK K
        try simp only [Act.put, List.setIfInBounds_toArray, List.set_cons_zero, List.set_cons_succ]
        refine wpAny_ready (rs := [6]) (by kernel_rfl) (by simp) ?_
        refine AllReady.cons (o := ?oo8) ?hi8 (fun K hK => ?hs8) ?hm8
        case hi8 => (simp only [List.getElem?_toArray, List.getElem?_cons_succ, List.getElem?_cons_zero]; rfl)
        · go_simp
          refine hK _ _ ?_; clear hK K
          try simp only [Act.put, List.setIfInBounds_toArray, List.set_cons_zero, List.set_cons_succ]
          refine wpAny_take (i := 7) (oi := ?oi9) (v := ?v9) ?hi9 (by kernel_rfl) (by kernel_rfl) (by kernel_rfl) ?hq9 ?hy9 ?hr9
          case hi9 => (simp only [List.getElem?_toArray, List.getElem?_cons_succ, List.getElem?_cons_zero]; rfl)
          case hq9 => exact fun _ _ _ h => h
          case hy9 => exact Or.inl ⟨by rfl, by intro w; (first | (go_simp; done) | (go_simp; with_reducible rfl))⟩
          try simp only [Act.put, List.setIfInBounds_toArray, List.set_cons_zero, List.set_cons_succ]
          refine wpAny_take (i := 9) (oi := ?oi10) (v := ?v10) ?hi10 (by kernel_rfl) (by kernel_rfl) (by kernel_rfl) ?hq10 ?hy10 ?hr10
          case hi10 => (simp only [List.getElem?_toArray, List.getElem?_cons_succ, List.getElem?_cons_zero]; rfl)
          case hq10 => exact fun _ _ _ h => h
          case hy10 => exact Or.inl ⟨by rfl, by intro w; (first | (go_simp; done) | (go_simp; with_reducible rfl))⟩
          try simp only [Act.put, List.setIfInBounds_toArray, List.set_cons_zero, List.set_cons_succ]
          refine wpAny_done (by kernel_rfl) ?_ _
          go_wp2
          go_ret2
          exact ⟨_, congrArg (fun b => Ending.returned (Value.tuple #[_, Value.bool b])) HEQ.out, HO2.out, below_undrew HB2.out⟩
        exact AllReady.nil
      refine AllReady.cons (o := ?oo11) ?hi11 (fun K hK => ?hs11) ?hm11
      case hi11 => (simp only [List.getElem?_toArray, List.getElem?_cons_succ, List.getElem?_cons_zero]; rfl)
      · go_simp
        refine hK _ _ ?_; clear hK K
        try simp only [Act.put, List.setIfInBounds_toArray, List.set_cons_zero, List.set_cons_succ]
        refine wpAny_ready (rs := [4]) (by kernel_rfl) (by simp) ?_
        refine AllReady.cons (o := ?oo12) ?hi12 (fun K hK => ?hs12) ?hm12
        case hi12 => (simp only [List.getElem?_toArray, List.getElem?_cons_succ, List.getElem?_cons_zero]; rfl)
        · go_simp
          refine hK _ _ ?_; clear hK K
          try simp only [Act.put, List.setIfInBounds_toArray, List.set_cons_zero, List.set_cons_succ]
          refine wpAny_take (i := 7) (oi := ?oi13) (v := ?v13) ?hi13 (by kernel_rfl) (by kernel_rfl) (by kernel_rfl) ?hq13 ?hy13 ?hr13
          case hi13 => (simp only [List.getElem?_toArray, List.getElem?_cons_succ, List.getElem?_cons_zero]; rfl)
          case hq13 => exact fun _ _ _ h => h
          case hy13 => exact Or.inl ⟨by rfl, by intro w; (first | (go_simp; done) | (go_simp; with_reducible rfl))⟩
          try simp only [Act.put, List.setIfInBounds_toArray, List.set_cons_zero, List.set_cons_succ]
          refine wpAny_take (i := 9) (oi := ?oi14) (v := ?v14) ?hi14 (by kernel_rfl) (by kernel_rfl) (by kernel_rfl) ?hq14 ?hy14 ?hr14
          case hi14 => (simp only [List.getElem?_toArray, List.getElem?_cons_succ, List.getElem?_cons_zero]; rfl)
          case hq14 => exact fun _ _ _ h => h
          case hy14 => exact Or.inl ⟨by rfl, by intro w; (first | (go_simp; done) | (go_simp; with_reducible rfl))⟩
          try simp only [Act.put, List.setIfInBounds_toArray, List.set_cons_zero, List.set_cons_succ]
          refine wpAny_done (by kernel_rfl) ?_ _
          go_wp2
          go_ret2
          exact ⟨_, congrArg (fun b => Ending.returned (Value.tuple #[_, Value.bool b])) HEQ.out, HO2.out, below_undrew HB2.out⟩
        exact AllReady.nil
      exact AllReady.nil
    refine AllReady.cons (o := ?oo15) ?hi15 (fun K hK => ?hs15) ?hm15
    case hi15 => (simp only [List.getElem?_toArray, List.getElem?_cons_succ, List.getElem?_cons_zero]; rfl)
    · go_simp
      refine hK _ _ ?_; clear hK K
      try simp only [Act.put, List.setIfInBounds_toArray, List.set_cons_zero, List.set_cons_succ]
      refine wpAny_ready (rs := [3]) (by kernel_rfl) (by simp) ?_
      refine AllReady.cons (o := ?oo16) ?hi16 (fun K hK => ?hs16) ?hm16
      case hi16 => (simp only [List.getElem?_toArray, List.getElem?_cons_succ, List.getElem?_cons_zero]; rfl)
      · go_simp
        refine HR.out.mono ?_
        rintro e w2 ⟨v2, rfl, hown2, hb2⟩
        have hb02 := HB1.out.trans (hb2.mono HB1.out.size)
        have hk2 := HCV.out w2 _ _ (HS.out.below hb02)
        have hk3 := HCW.out w2 _ _ (sees_own hown2)
        have HO2 := Lib.hid ((HO1.out.below hb2).mono hb2.size)
        have HB2 := Lib.hid hb02
        clear hown2 hb2 hb02
        go_wp2_with fail
        try simp only [Act.put, List.setIfInBounds_toArray, List.set_cons_zero, List.set_cons_succ]
        refine wpAny_take (i := 8) (oi := ?oi17) (v := ?v17) ?hi17 (by kernel_rfl) (by kernel_rfl) (by kernel_rfl) ?hq17 ?hy17 ?hr17
        case hi17 => (simp only [List.getElem?_toArray, List.getElem?_cons_succ, List.getElem?_cons_zero]; rfl)
        case hq17 => exact fun _ _ _ h => h
        case hy17 => exact Or.inl ⟨by rfl, by intro w; (first | (go_simp; done) | (go_simp; with_reducible rfl))⟩
        try simp only [Act.put, List.setIfInBounds_toArray, List.set_cons_zero, List.set_cons_succ]
        refine wpAny_ready (rs := [4]) (by kernel_rfl) (by simp) ?_
        refine AllReady.cons (o := ?oo18) ?hi18 (fun K hK => ?hs18) ?hm18
        case hi18 => (simp only [List.getElem?_toArray, List.getElem?_cons_succ, List.getElem?_cons_zero]; rfl)
        · go_simp
          refine hK _ _ ?_; clear hK K
          try simp only [Act.put, List.setIfInBounds_toArray, List.set_cons_zero, List.set_cons_succ]
          refine wpAny_take (i := 7) (oi := ?oi19) (v := ?v19) ?hi19 (by kernel_rfl) (by kernel_rfl) (by kernel_rfl) ?hq19 ?hy19 ?hr19
          case hi19 => (simp only [List.getElem?_toArray, List.getElem?_cons_succ, List.getElem?_cons_zero]; rfl)
          case hq19 => exact fun _ _ _ h => h
          case hy19 => exact Or.inl ⟨by rfl, by intro w; (first | (go_simp; done) | (go_simp; with_reducible rfl))⟩
          try simp only [Act.put, List.setIfInBounds_toArray, List.set_cons_zero, List.set_cons_succ]
          refine wpAny_take (i := 9) (oi := ?oi20) (v := ?v20) ?hi20 (by kernel_rfl) (by kernel_rfl) (by kernel_rfl) ?hq20 ?hy20 ?hr20
          case hi20 => (simp only [List.getElem?_toArray, List.getElem?_cons_succ, List.getElem?_cons_zero]; rfl)
          case hq20 => exact fun _ _ _ h => h
          case hy20 => exact Or.inl ⟨by rfl, by intro w; (first | (go_simp; done) | (go_simp; with_reducible rfl))⟩
          try simp only [Act.put, List.setIfInBounds_toArray, List.set_cons_zero, List.set_cons_succ]
          refine wpAny_done (by kernel_rfl) ?_ _
          go_wp2
          go_ret2
          exact ⟨_, congrArg (fun b => Ending.returned (Value.tuple #[_, Value.bool b])) HEQ.out, HO2.out, below_undrew HB2.out⟩
        exact AllReady.nil
      exact AllReady.nil
    exact AllReady.nil
  refine AllReady.cons (o := ?oo21) ?hi21 (fun K hK => ?hs21) ?hm21
  case hi21 => (simp only [List.getElem?_toArray, List.getElem?_cons_succ, List.getElem?_cons_zero]; rfl)
  · go_simp
    refine hK _ _ ?_; clear hK K
    try simp only [Act.put, List.setIfInBounds_toArray, List.set_cons_zero, List.set_cons_succ]
    refine wpAny_ready (rs := [1]) (by kernel_rfl) (by simp) ?_
    refine AllReady.cons (o := ?oo22) ?hi22 (fun K hK => ?hs22) ?hm22
    case hi22 => (simp only [List.getElem?_toArray, List.getElem?_cons_succ, List.getElem?_cons_zero]; rfl)
    · refine step_append_any rfl (.const (.slice none 0 0)) (.tmp 13) 29 rfl w.drew.heap.size 5 i0 _ 1 Tryd.underlying29 hi hz0 hz1 hz2 rfl _ 0 [] rfl (World.ownsRow_nil _ _ _ _) _ _ (byteCells P) rfl HSC.out HON.out (by rw [HCL.out]; unfold maxLen; omega) (by rw [HCL.out]; omega) (Nat.le_refl _) ?_
      intro v1 w1 hown1 hgrow1 _
      rw [HCL.out] at hown1
      have hb1 : Below w.drew.heap.size w.drew w1 := (Below.refl _ w.drew).grown hgrow1 (Nat.le_refl _) (fun k e => (own_low (World.ownsRow_nil w.drew w.drew.heap.size 5 1) k e).1)
      have hk1 := HCV.out w1 _ _ (HS.out.below hb1)
      have href := HREF.out w1 (HSP.out.below hb1) (fun p hp => hb1.cell hp) hb1.size
      have HR := Lib.hid href
      have HB1 := Lib.hid hb1
      have HO1 := Lib.hid (sees_own (L := P) (by rw [HPL.out]; simpa using hown1))
      clear hown1 hgrow1 hb1 href
      refine hK _ _ ?_; clear hK K
      try simp only [Act.put, List.setIfInBounds_toArray, List.set_cons_zero, List.set_cons_succ]
      refine wpAny_ready (rs := [3]) (by kernel_rfl) (by simp) ?_
      refine AllReady.cons (o := ?oo23) ?hi23 (fun K hK => ?hs23) ?hm23
      case hi23 => (simp only [List.getElem?_toArray, List.getElem?_cons_succ, List.getElem?_cons_zero]; rfl)
      · go_simp
        refine HR.out.mono ?_
        rintro e w2 ⟨v2, rfl, hown2, hb2⟩
        have hb02 := HB1.out.trans (hb2.mono HB1.out.size)
        have hk2 := HCV.out w2 _ _ (HS.out.below hb02)
        have hk3 := HCW.out w2 _ _ (sees_own hown2)
        have HO2 := Lib.hid ((HO1.out.below hb2).mono hb2.size)
        have HB2 := Lib.hid hb02
        clear hown2 hb2 hb02
        go_wp2_with fail
        try simp only [Act.put, List.setIfInBounds_toArray, List.set_cons_zero, List.set_cons_succ]
        refine wpAny_take (i := 8) (oi := ?oi24) (v := ?v24) ?hi24 (by kernel_rfl) (by kernel_rfl) (by kernel_rfl) ?hq24 ?hy24 ?hr24
        case hi24 => (simp only [List.getElem?_toArray, List.getElem?_cons_succ, List.getElem?_cons_zero]; rfl)
        case hq24 => exact fun _ _ _ h => h
        case hy24 => exact Or.inl ⟨by rfl, by intro w; (first | (go_simp; done) | (go_simp; with_reducible rfl))⟩
        try simp only [Act.put, List.setIfInBounds_toArray, List.set_cons_zero, List.set_cons_succ]
        refine wpAny_ready (rs := [4]) (by kernel_rfl) (by simp) ?_
        refine AllReady.cons (o := ?oo25) ?hi25 (fun K hK => ?hs25) ?hm25
        case hi25 => (simp only [List.getElem?_toArray, List.getElem?_cons_succ, List.getElem?_cons_zero]; rfl)
        · go_simp
          refine hK _ _ ?_; clear hK K
          try simp only [Act.put, List.setIfInBounds_toArray, List.set_cons_zero, List.set_cons_succ]
          refine wpAny_take (i := 7) (oi := ?oi26) (v := ?v26) ?hi26 (by kernel_rfl) (by kernel_rfl) (by kernel_rfl) ?hq26 ?hy26 ?hr26
          case hi26 => (simp only [List.getElem?_toArray, List.getElem?_cons_succ, List.getElem?_cons_zero]; rfl)
          case hq26 => exact fun _ _ _ h => h
          case hy26 => exact Or.inl ⟨by rfl, by intro w; (first | (go_simp; done) | (go_simp; with_reducible rfl))⟩
          try simp only [Act.put, List.setIfInBounds_toArray, List.set_cons_zero, List.set_cons_succ]
          refine wpAny_take (i := 9) (oi := ?oi27) (v := ?v27) ?hi27 (by kernel_rfl) (by kernel_rfl) (by kernel_rfl) ?hq27 ?hy27 ?hr27
          case hi27 => (simp only [List.getElem?_toArray, List.getElem?_cons_succ, List.getElem?_cons_zero]; rfl)
          case hq27 => exact fun _ _ _ h => h
          case hy27 => exact Or.inl ⟨by rfl, by intro w; (first | (go_simp; done) | (go_simp; with_reducible rfl))⟩
          try simp only [Act.put, List.setIfInBounds_toArray, List.set_cons_zero, List.set_cons_succ]
          refine wpAny_done (by kernel_rfl) ?_ _
          go_wp2
          go_ret2
          exact ⟨_, congrArg (fun b => Ending.returned (Value.tuple #[_, Value.bool b])) HEQ.out, HO2.out, below_undrew HB2.out⟩
        exact AllReady.nil
      exact AllReady.nil
    exact AllReady.nil
  exact AllReady.nil
end Go.Proofs.YtifdencdbpdbfaaDoor
