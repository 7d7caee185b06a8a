/-
  WALKS over package stab: numbersOf, write, Encode.
-/
import Derived.Test.YtifdencdbpdbfaaDoorZaB
import Derived.Test.YtifdencdbpdbfaaDoorZdM
import Derived.Test.YtifdencdbpdbfaaDoorBiD
import Derived.Test.YtifdencdbpdbfaaDoorCkC
namespace Go.Proofs.YtifdencdbpdbfaaDoor
open Go.RowKit Go.Shelf Go.Lib
set_option linter.unusedVariables false
set_option linter.unusedSimpArgs false

def castN (ns : List Nat) : List Int := ns.map fun (x : Nat) => (x : Int)
theorem castN_len (ns : List Nat) : (castN ns).length = ns.length := List.length_map ..
def intsN (ns : List Nat) : List Value := ns.map fun (x : Nat) => Value.int .i64 (x : Int)
/-- append of two numbers to a row of the call's own. -/
theorem wpList_pushI2 {w : World} {ops : Array Oper} {rest : List Oper} {o : Oper} {a : Act} {Q : Exit → Act → World → Prop} (hgd : o.guard = none) (s x : Operand)
    (ho : o.op = .call { callee := .builtin .append, args := #[s, x], argTypes := #[37, 37] })
    (base : Nat) (v : Value) (n : Nat) (l : List Value) (p q : Int) (hs : a.eval s = v) (hx : a.eval x = .slice (some ⟨w.heap.size, 0, none⟩) 2 2)
    (hown : w.ownsRow base 3 1 v n l) (hn : n ≤ 1000000) (hbase : base ≤ w.heap.size)
    (h : ∀ v' w', Hid (w'.ownsRow base 3 1 v' (n + 2) (l ++ [.int .i64 p, .int .i64 q])) → Hid (∀ B W, Below B W w → B ≤ base → Below B W w') → wpList Tryd.prog ops Q rest (a.put o.dst v') w') :
    wpList Tryd.prog ops Q (o :: rest) a (w.alloc (.cells #[.int .i64 p, .int .i64 q] 3)) := by
  obtain ⟨i0, hi, hz0, hz1, hz2⟩ := info_parts' Tryd.infoInt2
  refine wpList_append_own _ hgd s x 37 ho base 3 i0 _ 1 8 Tryd.underlying37 hi hz0 hz1 hz2 rfl (by decide) v n _ hs (hown.alloc _) _ 2 2 [.int .i64 p, .int .i64 q] hx rfl (news_at w [.int .i64 p, .int .i64 q] 3) (by simp [Value.oneCell']) (by unfold maxLen; omega) (by omega) (by simp; omega) ?_
  intro v' w' h1 h2 _
  have hlow := own_low hown
  refine h v' w' (Lib.hid h1) (Lib.hid fun B W hb hB => ?_)
  exact (hb.alloc (Nat.le_trans hB hbase) _).grown h2 (by simp; omega) (fun k e => Nat.le_trans hB (hlow k e).1)
theorem flat_step {l : List Sp} {k : Nat} {s : Sp} (h : l[k]? = some s) : flatN (l.take (k + 1)) = flatN (l.take k) ++ [s.1.toNat, (s.2 - s.1 - 1).toNat] := by
  rw [List.take_add_one, h, Option.toList_some, flatN_app]
  rfl
def NumsV (w : World) (ns : List Nat) (e : Ending) (w' : World) : Prop := (∃ v, e = .returned v ∧ Rows 1 EInt w' v (castN ns)) ∧ Below w.heap.size w w'
theorem ints_rows {w : World} {base : Nat} {v : Value} {ns : List Nat} (h : w.ownsRow base 3 1 v ns.length (intsN ns)) : Rows 1 EInt w v (castN ns) := by
  refine own_rows (base := base) ?_
  unfold intsN at h
  unfold castN
  rw [List.length_map, List.map_map]
  exact h

set_option maxRecDepth 100000 in
set_option maxHeartbeats 8000000 in
theorem numbersOf_any {w : World} {v : Value} {l : List Sp} (hv : Rows 2 ESp w v l) (hc0 : chkT l = 0) : Calls Tryd.prog 20 #[v] w (NumsV w (numsN l)) := by
  obtain ⟨hl, hsp⟩ := chkT_ok hc0
  have HV := Lib.hid (fun W (h : Below w.heap.size w W) => hv.below stays_sp h)
  obtain ⟨A, cap, rfl, hc⟩ := hv.form
  obtain ⟨n, hn⟩ : ∃ n, l.length = n := ⟨_, rfl⟩
  rw [hn] at hc HV hl ⊢
  have HN := Lib.hid hn
  have HSP := Lib.hid hsp
  have hb1 := below_box w (.cells #[.int .i64 (n : Int)] 3)
  obtain ⟨X, hX⟩ : ∃ X, w.alloc (.cells #[.int .i64 (n : Int)] 3) = X := ⟨_, rfl⟩
  obtain ⟨N0, hN0⟩ : ∃ N, w.heap.size = N := ⟨_, rfl⟩
  have hbx : X.heap[N0]? = some (.cells #[.int .i64 (n : Int)] 3 (0, 0)) := by rw [← hX, ← hN0]; exact block_new _ _
  have hown : X.ownsRow N0 3 1 (.slice (some ⟨N0, 0, none⟩) 1 1) 1 (intsN [n]) := ⟨rfl, .inr ⟨N0, 1, _, rfl, Nat.le_refl _, hbx, Nat.le_refl _, by unfold maxLen; omega, rfl, rfl⟩⟩
  rw [hX, hN0] at hb1
  rw [hN0] at HV
  have HOWN := Lib.hid hown
  have HB1 := Lib.hid hb1
  have HX := Lib.hid hX
  have HN0 := Lib.hid hN0
  clear hv hn hN0 hX hb1 hbx hown hsp hc0
  go_enter Tryd.func20, Tryd.ntmps20
  go_wp2_with fail
  rw [HX.out, HN0.out]
  go_loopw [3, 11] (fun lv kv wr => ∃ (k : Nat) (lw : Value), lw = lv ∧ k ≤ n ∧ kv = .int .i64 k ∧ Hid (wr.ownsRow N0 3 1 lw (n :: flatN (l.take k)).length (intsN (n :: flatN (l.take k)))) ∧ Hid (Below N0 w wr)) (fun _ kv _ => n - (Go.RowKit.intOf kv).toNat)
  case atStart => exact ⟨0, _, rfl, Nat.zero_le _, rfl, HOWN, HB1⟩
  case round =>
    clear HOWN HB1
    obtain ⟨k, lv, hlv, hk, rfl, HO, HB⟩ := hrel
    subst hlv
    by_cases hlt : k < n
    · obtain ⟨x, hx⟩ : ∃ x, l[k]? = some x := ⟨_, List.getElem?_eq_getElem (by rw [HN.out]; omega)⟩
      obtain ⟨bk, off, rfl, hbl, hj⟩ := at_sp (HV.out wr HB.out) (by rw [HN.out]; omega)
      obtain ⟨c0, c1⟩ := hj k x hx
      have hst := flat_step hx
      have hpx := HSP.out x (List.mem_of_getElem? hx)
      obtain ⟨x1, x2⟩ := x
      simp only at c0 c1 hpx hst
      have hw1 : IntKind.i64.wrap (x2 - x1) = x2 - x1 := by rw [IntKind.wrap_i64]; omega
      have hw2 : IntKind.i64.wrap (x2 - x1 - 1) = x2 - x1 - 1 := by rw [IntKind.wrap_i64]; omega
      obtain ⟨WB, hWB⟩ : ∃ X, wr.alloc (.cells #[.int .i64 x1, .int .i64 x2] 24) = X := ⟨_, rfl⟩
      obtain ⟨Nx, hNx⟩ : ∃ N, wr.heap.size = N := ⟨_, rfl⟩
      have hbx : WB.heap[Nx]? = some (.cells #[.int .i64 x1, .int .i64 x2] 24 (0, 0)) := by rw [← hWB, ← hNx]; exact block_new _ _
      have hN0x : N0 ≤ Nx := by rw [← hNx, ← HN0.out]; exact HB.out.size
      have hbW : Below Nx wr WB := by rw [← hWB, ← hNx]; exact below_box _ _
      have hown : WB.ownsRow N0 3 1 lv (n :: flatN (l.take k)).length (intsN (n :: flatN (l.take k))) := by rw [← hWB]; exact HO.out.alloc _
      have d0 := cell_of (i := 0) hbx rfl
      have d1 := cell_of (i := 1) hbx rfl
      have HBW := Lib.hid (HB.out.trans (hbW.mono hN0x))
      have HSZ : Hid (N0 ≤ WB.heap.size) := Lib.hid (by rw [← hWB, alloc_sz, hNx]; omega)
      have HWB := Lib.hid hWB
      have HNx := Lib.hid hNx
      have hlti : (k : Int) < (n : Int) := by omega
      have hlen : (n :: flatN (l.take k)).length ≤ 1000000 := by rw [List.length_cons, flatN_len, List.length_take]; omega
      have HST : Hid (intsN (n :: flatN (l.take (k + 1))) = intsN (n :: flatN (l.take k)) ++ [.int .i64 x1, .int .i64 (x2 - x1 - 1)] ∧ (n :: flatN (l.take (k + 1))).length = (n :: flatN (l.take k)).length + 2) := Lib.hid (by
        rw [hst]
        constructor
        · have e1 : ((x1.toNat : Nat) : Int) = x1 := by omega
          have e2 : (((x2 - x1 - 1).toNat : Nat) : Int) = x2 - x1 - 1 := by omega
          simp only [intsN, List.map_cons, List.map_append, List.map_nil, e1, e2, List.cons_append]
        · simp)
      obtain ⟨F, hF⟩ : ∃ F, intsN (n :: flatN (l.take k)) = F := ⟨_, rfl⟩
      obtain ⟨m, hm⟩ : ∃ m, (n :: flatN (l.take k)).length = m := ⟨_, rfl⟩
      rw [hF, hm] at hown HST
      rw [hm] at hlen
      have HOW := Lib.hid hown
      clear hx hj hbl hWB hNx hbx hN0x hbW HB hst hown hm hF hpx HO
      go_upto_region 5 with fail
      rw [HWB.out, HNx.out]
      clear c0 c1
      go_wp2_with (at_builtin; refine wpList_pushI2 rfl (.tmp 15) (.tmp 24) rfl N0 _ _ _ x1 (x2 - x1 - 1) rfl rfl HOW.out hlen HSZ.out ?_; intro v' w' HO2 HB2')
      refine ⟨⟨k + 1, _, rfl, by omega, by go_num, Lib.hid ?_, Lib.hid (HB2'.out _ _ HBW.out (Nat.le_refl _))⟩, by simp only [Go.RowKit.intOf]; omega⟩
      rw [HST.out.1, HST.out.2]
      exact HO2.out
    · obtain rfl : k = n := by omega
      have ho := HO.out
      rw [List.take_of_length_le (by rw [HN.out]; exact Nat.le_refl _)] at ho
      have HRR := Lib.hid (show NumsV w (numsN l) (.returned lv) wr from ⟨⟨_, rfl, by unfold numsN; rw [HN.out]; exact ints_rows ho⟩, by rw [HN0.out]; exact HB.out⟩)
      clear ho HO
      go_wp2_with fail
      go_ret
      exact HRR.out

def BytesV (w : World) (L : List UInt8) (e : Ending) (w' : World) : Prop := (∃ v, e = .returned v ∧ Sees w' w'.heap.size v L) ∧ Below w.heap.size w w'
theorem bytes_step {ns : List Nat} {k v : Nat} (h : ns[k]? = some v) : bytesN (ns.take (k + 1)) = bytesN (ns.take k) ++ enc v := by
  rw [List.take_add_one, h, Option.toList_some, bytesN_app, bytesN_cons, bytesN_nil, List.append_nil]
set_option maxRecDepth 100000 in
set_option maxHeartbeats 8000000 in
theorem write_any {w : World} {v : Value} {ns : List Nat} (hv : Rows 1 EInt w v (castN ns)) (hl : ns.length ≤ 10000) (hsm : ∀ x ∈ ns, x ≤ 2147483647) : Calls Tryd.prog 19 #[v] w (BytesV w (bytesN ns)) := by
  have HV := Lib.hid (fun W (h : Below w.heap.size w W) => hv.below stays_int h)
  obtain ⟨A, cap, rfl, hc⟩ := hv.form
  obtain ⟨n, hn⟩ : ∃ n, ns.length = n := ⟨_, rfl⟩
  rw [castN_len, hn] at hc HV ⊢
  rw [hn] at hl
  have HN := Lib.hid hn
  have HSM := Lib.hid hsm
  obtain ⟨N0, hN0⟩ : ∃ N, w.heap.size = N := ⟨_, rfl⟩
  rw [hN0] at HV
  have HN0 := Lib.hid hN0
  obtain ⟨i0, hi, hz0, hz1, hz2⟩ := info_parts' Tryd.infoByte
  have HBL := Lib.hid (fun k (hk : k ≤ n) => show (bytesN (ns.take k)).length ≤ 100000 from by
    have := bytesN_len (ns.take k) (fun x hx => by have := hsm x (List.mem_of_mem_take hx); omega)
    rw [List.length_take] at this
    omega)
  clear hv hn hN0 hsm
  go_enter Tryd.func19, Tryd.ntmps19
  go_wp2_with fail
  go_loopw [3, 8] (fun lv kv wr => ∃ (k : Nat) (lw : Value), lw = lv ∧ k ≤ n ∧ kv = .int .i64 k ∧ Hid (wr.ownsRow N0 5 1 lw (bytesN (ns.take k)).length (byteCells (bytesN (ns.take k)))) ∧ Hid (Below N0 w wr)) (fun _ kv _ => n - (Go.RowKit.intOf kv).toNat)
  case atStart => exact ⟨0, _, rfl, Nat.zero_le _, rfl, Lib.hid (World.ownsRow_nil _ _ _ _), Lib.hid (Below.refl _ _)⟩
  case round =>
    obtain ⟨k, lv, hlv, hk, rfl, HO, HB⟩ := hrel
    subst hlv
    by_cases hlt : k < n
    · obtain ⟨x, hx⟩ : ∃ x, ns[k]? = some x := ⟨_, List.getElem?_eq_getElem (by rw [HN.out]; omega)⟩
      obtain ⟨bk, off, rfl, hbl, hj⟩ := at_int (HV.out wr HB.out) (by rw [castN_len, HN.out]; omega)
      have c0 := hj k (x : Int) (by unfold castN; rw [List.getElem?_map, hx]; rfl)
      have hx2 := HSM.out x (List.mem_of_getElem? hx)
      have hst := bytes_step hx
      have hw1 : IntKind.u64.wrap (x : Int) = (x : Int) := by simp [IntKind.wrap, IntKind.bits, IntKind.signed]; omega
      have hput := put_any (w := wr) (Sees.nil _ _) (by simp) x (by omega)
      rw [List.nil_append] at hput
      have hN0 : N0 ≤ wr.heap.size := by rw [← HN0.out]; exact HB.out.size
      have h10 := enc_ten x (by omega)
      have h1 := enc_pos x
      have hlb := HBL.out k hk
      have HP := Lib.hid hput
      have HS := Lib.hid hN0
      have HST := Lib.hid hst
      obtain ⟨E, hE⟩ : ∃ E, enc x = E := ⟨_, rfl⟩
      rw [hE] at HP HST h10 h1
      obtain ⟨F, hF⟩ : ∃ F, bytesN (ns.take k) = F := ⟨_, rfl⟩
      rw [hF] at HST HO hlb
      have hlti : (k : Int) < (n : Int) := by omega
      clear hj hx hst hput hN0 hE hF hbl
      go_wp2_with fail
      refine HP.out.mono ?_
      rintro e w2 ⟨u, rfl, hown, hb2⟩
      rcases hown.2 with ⟨_, h0⟩ | ⟨g, cg, cur, rfl, hbg, hg, hcg, hcm, hcs, htk⟩
      · omega
      have HO2 := Lib.hid (own_below HO.out (fun k hk => hb2.block k (own_low HO.out k hk).2))
      have HB2 := Lib.hid (HB.out.trans (hb2.mono HS.out))
      have HS2 := Lib.hid (Nat.le_trans HS.out hb2.size)
      have HNW := Lib.hid (fun (j : Nat) (u : Value) (hu : (byteCells E)[j]? = some u) => show w2.cell? ((⟨g, 0, none⟩ : Addr).add j) = some u from hown.cells (g := g) rfl j u hu)
      have hle : (byteCells E).length = E.length * 1 := by rw [byteCells_length, Nat.mul_one]
      have hb63 : F.length + E.length ≤ maxLen := by unfold maxLen; omega
      have hb47 : (F.length + E.length) * 1 ≤ 140737488355328 := by omega
      clear hown hb2 hbg hg hcm hcs htk c0
      go_wp2_with (at_builtin; refine wpList_append_own _ rfl (.tmp 12) (.tmp 15) 29 rfl N0 5 i0 _ 1 1 Tryd.underlying29 hi hz0 hz1 hz2 rfl (by decide) _ _ _ rfl HO2.out ⟨g, 0, none⟩ E.length cg (byteCells E) rfl hle HNW.out (bytes_one E) hb63 hb47 HS2.out ?_; intro v' w' ho' hg' _; have HO3 := Lib.hid ho'; have HG3 := Lib.hid hg'; clear ho' hg')
      refine ⟨⟨k + 1, _, rfl, by omega, by go_num, Lib.hid ?_, Lib.hid ?_⟩, by simp only [Go.RowKit.intOf]; omega⟩
      · rw [HST.out, List.length_append, byteCells_app]
        exact HO3.out
      · exact HB2.out.trans (below_of_grown HG3.out HS2.out (fun k hk => (own_low HO2.out k hk).1))
    · obtain rfl : k = n := by omega
      have ho := HO.out
      rw [List.take_of_length_le (by rw [HN.out]; exact Nat.le_refl _)] at ho
      have HRR := Lib.hid (show BytesV w (bytesN ns) (.returned lv) wr from ⟨⟨_, rfl, sees_own ho⟩, by rw [HN0.out]; exact HB.out⟩)
      clear ho HO
      go_wp2_with fail
      go_ret
      exact HRR.out
set_option maxRecDepth 100000 in
set_option maxHeartbeats 2000000 in
theorem encode_any {w : World} {B : Nat} {l : List Sp} (hI : IdxAt w B l) (hc : chkT l = 0) (ht : Tab w) : Calls Tryd.prog 7 #[.pointer (some ⟨B, 0, none⟩)] w (BytesV w (encL l)) := by
  obtain ⟨h0, v, g, h1, h2, h3⟩ := hI
  have hnum := numbersOf_any h2 hc
  have hsm := nums_small hc
  have hln : (numsN l).length ≤ 10000 := by unfold numsN; rw [List.length_cons, flatN_len]; omega
  have hpl : (payL l).length ≤ 10000000 := by
    have := bytesN_len (numsN l) (nums_b64 hc)
    unfold payL
    omega
  have hpos : 0 < w.heap.size := Nat.lt_of_le_of_lt (Nat.zero_le _) (Array.getElem?_eq_some_iff.1 h1).1
  have HPOS := Lib.hid hpos
  obtain ⟨A, cap, rfl, hcap⟩ := h2.form
  have c0 := cell_of (i := 0) h1 rfl
  have HNUM := Lib.hid hnum
  have HSM := Lib.hid (And.intro hsm (And.intro hln hpl))
  have HT := Lib.hid ht
  unfold encL
  have HPE : Hid (payL l = bytesN (numsN l)) := Lib.hid rfl
  obtain ⟨P, hP⟩ : ∃ P, payL l = P := ⟨_, rfl⟩
  obtain ⟨ns, hns⟩ : ∃ ns, numsN l = ns := ⟨_, rfl⟩
  rw [hP, hns] at HPE
  rw [hns] at HNUM
  rw [hns, hP] at HSM
  rw [hP]
  unfold NumsV at HNUM
  clear h0 h1 h2 h3 hnum hsm hln hcap hc ht hP hns hpl hpos
  go_enter Tryd.func7, Tryd.ntmps7
  go_wp2_with fail
  refine HNUM.out.mono ?_
  rintro e w1 ⟨⟨v1, rfl, hr1⟩, hb1⟩
  have HW := Lib.hid (write_any hr1 HSM.out.2.1 HSM.out.1)
  unfold BytesV at HW
  rw [← HPE.out] at HW
  have HB1 := Lib.hid hb1
  obtain ⟨A1, k1, rfl, -⟩ := hr1.form
  clear hr1 hb1 c0
  go_wp2_with fail
  refine HW.out.mono ?_
  rintro e w2 ⟨⟨v2, rfl, hs2⟩, hb2⟩
  have HB2 := Lib.hid (HB1.out.trans (hb2.mono HB1.out.size))
  have HT2 := Lib.hid (HT.out.below HB2.out HPOS.out)
  have HSL := Lib.hid (seal_any hs2 HSM.out.2.2 HT2.out)
  obtain ⟨A2, k2, rfl, -⟩ := hs2.form2
  clear hs2 hb2
  go_wp2_with fail
  refine HSL.out.mono ?_
  rintro e w3 ⟨v3, rfl, ho3, hb3⟩
  have HE := Lib.hid (And.intro (sees_own ho3) (HB2.out.trans (hb3.mono HB2.out.size)))
  clear ho3 hb3
  go_wp2_with fail
  go_ret
  exact ⟨⟨_, rfl, HE.out.1⟩, HE.out.2⟩
end Go.Proofs.YtifdencdbpdbfaaDoor
