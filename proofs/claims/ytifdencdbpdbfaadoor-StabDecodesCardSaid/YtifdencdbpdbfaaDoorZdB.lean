/-
  WALKS over the reference of package stab: Encode.
-/
import Derived.Test.YtifdencdbpdbfaaDoorZdA
namespace Go.Proofs.YtifdencdbpdbfaaDoor
open Go.RowKit Go.Shelf Go.Lib
set_option linter.unusedVariables false
set_option linter.unusedSimpArgs false

theorem own_neB {w : World} {base : Nat} {e T : TypeId} {size n : Nat} {v : Value} {xs : List Value} {B : Nat} {cs : Array Value} (h : w.ownsRow base e size v n xs) (hB : w.heap[B]? = some (.cells cs T (0, 0))) (hT : T ≠ e) : v.ownBlock ≠ some B := by
  intro hk
  rcases h.2 with ⟨rfl, _⟩ | ⟨g', cap, cur, rfl, hb, hh, _⟩
  · simp [Value.ownBlock] at hk
  · simp only [Value.ownBlock, Option.some.injEq] at hk
    subst hk
    rw [hh] at hB
    simp at hB
    exact hT hB.2.symm
/-- Where the writing of one span stands. -/
structure EncW (N0 Nx : Nat) (w W : World) (x1 x2 : Int) : Prop where
  below : Below N0 w W
  size : N0 ≤ W.heap.size
  box : W.heap[Nx]? = some (.cells #[.int .i64 x1, .int .i64 x2] 24 (0, 0))
theorem EncW.call {N0 Nx : Nat} {w W W' : World} {x1 x2 : Int} (h : EncW N0 Nx w W x1 x2) (hb : Below W.heap.size W W') : EncW N0 Nx w W' x1 x2 :=
  ⟨h.below.trans (hb.mono h.size), Nat.le_trans h.size hb.size, block_below h.box hb (Array.getElem?_eq_some_iff.1 h.box).1⟩
theorem EncW.app {N0 Nx : Nat} {w W W' : World} {x1 x2 : Int} (h : EncW N0 Nx w W x1 x2) {e : TypeId} {size n : Nat} {v : Value} {xs : List Value} (ho : W.ownsRow N0 e size v n xs) (he : 24 ≠ e) (hg : W.grownBy W' v.ownBlock) : EncW N0 Nx w W' x1 x2 :=
  ⟨h.below.trans (below_of_grown hg h.size (fun k hk => (own_low ho k hk).1)), Nat.le_trans h.size hg.size, (hg.block Nx (Array.getElem?_eq_some_iff.1 h.box).1 (fun e' => own_neB ho h.box he e'.symm)).trans h.box⟩
theorem EncW.cells {N0 Nx : Nat} {w W : World} {x1 x2 : Int} (h : EncW N0 Nx w W x1 x2) : W.cell? ⟨Nx, 0, none⟩ = some (.int .i64 x1) ∧ W.cell? ⟨Nx, 1, none⟩ = some (.int .i64 x2) :=
  ⟨cell_of (i := 0) h.box rfl, cell_of (i := 1) h.box rfl⟩
theorem EncW.drew {N0 Nx : Nat} {w W : World} {x1 x2 : Int} (h : EncW N0 Nx w W x1 x2) : EncW N0 Nx w W.drew x1 x2 := ⟨h.below.drew, h.size, h.box⟩
theorem own_apartB {w w' : World} {b1 b2 : Nat} {e1 e2 : TypeId} {s1 s2 n1 n2 : Nat} {v1 v2 : Value} {x1 x2 : List Value} {W : World} (h1 : W.ownsRow b1 e1 s1 v1 n1 x1) (hlt : W.heap.size ≤ b2) (h2 : w.ownsRow b2 e2 s2 v2 n2 x2) (hg : w.grownBy w' v1.ownBlock) : w'.ownsRow b2 e2 s2 v2 n2 x2 :=
  own_below h2 fun k hk => hg.block k (own_low h2 k hk).2 (fun e => by
    have a := (own_low h1 k e.symm).2
    have b := (own_low h2 k hk).1
    omega)

set_option maxRecDepth 100000 in
set_option maxHeartbeats 8000000 in
theorem refEncode_any {w : World} {v : Value} {l : List Sp} (hv : Rows 2 ESp w v l) (hc0 : chkT l = 0) : Calls Tryd.prog 9 #[v] w (BytesV w (encL l)) := by
  obtain ⟨hl, hsp⟩ := chkT_ok hc0
  have hpl : (payL l).length ≤ 10000000 := by
    have := bytesN_len (numsN l) (nums_b64 hc0)
    unfold numsN at this
    rw [List.length_cons, flatN_len] at this
    unfold payL numsN
    omega
  have HV := Lib.hid (fun W (h : Below w.heap.size w W) => hv.below stays_sp h)
  obtain ⟨A, cap, rfl, hc⟩ := hv.form
  obtain ⟨n, hn⟩ : ∃ n, l.length = n := ⟨_, rfl⟩
  rw [hn] at hc HV hl ⊢
  have HN := Lib.hid hn
  have HSP := Lib.hid hsp
  have HPL := Lib.hid hpl
  have hw0 : IntKind.u64.wrap (n : Int) = (n : Int) := by simp [IntKind.wrap, IntKind.bits, IntKind.signed]; omega
  have HU := Lib.hid (fun (x : Nat) (hx : x < 18446744073709551616) W => refUvarint_any x hx W)
  have HU0 := Lib.hid (refUvarint_any n (by omega) w)
  obtain ⟨N0, hN0⟩ : ∃ N, w.heap.size = N := ⟨_, rfl⟩
  rw [hN0] at HV HU0
  have HN0 := Lib.hid hN0
  obtain ⟨i0, hi, hz0, hz1, hz2⟩ := info_parts' Tryd.infoByte
  have HBL := Lib.hid (fun k (hk : k ≤ n) => show (bytesN (n :: flatN (l.take k))).length ≤ 100000 from by
    have h1 : B64 (n :: flatN (l.take k)) := fun x hx => by
      have := nums_small hc0 x (by
        unfold numsN
        rw [hn]
        rcases List.mem_cons.1 hx with rfl | hx
        · simp
        · refine List.mem_cons_of_mem _ ?_
          unfold flatN at hx ⊢
          obtain ⟨s, hs, hx⟩ := List.mem_flatMap.1 hx
          exact List.mem_flatMap.2 ⟨s, List.mem_of_mem_take hs, hx⟩)
      omega
    have := bytesN_len _ h1
    rw [List.length_cons, flatN_len, List.length_take] at this
    omega)
  clear hv hn hN0 hsp hpl hc0
  go_enter Tryd.func9, Tryd.ntmps9
  go_wp2_with fail
  refine HU0.out.mono ?_
  rintro e w1 ⟨u0, rfl, ho0, hb0⟩
  have HO0 := Lib.hid ho0
  have HB0 := Lib.hid hb0
  obtain ⟨A0, c0, rfl, -⟩ := own_form ho0
  clear ho0 hb0
  go_wp2_with fail
  go_loopw [3, 12] (fun lv kv wr => ∃ (k : Nat) (lw : Value), lw = lv ∧ k ≤ n ∧ kv = .int .i64 k ∧ Hid (wr.ownsRow N0 5 1 lw (bytesN (n :: flatN (l.take k))).length (byteCells (bytesN (n :: flatN (l.take k))))) ∧ Hid (Below N0 w wr)) (fun _ kv _ => n - (Go.RowKit.intOf kv).toNat)
  case atStart => exact ⟨0, _, rfl, Nat.zero_le _, rfl, Lib.hid (by
    have := HO0.out
    have e : bytesN (n :: flatN (l.take 0)) = enc n := by rw [bytesN_cons, List.take_zero]; show enc n ++ bytesN [] = _; rw [bytesN_nil, List.append_nil]
    rw [e]
    exact this), HB0⟩
  case round =>
    clear HO0 HB0
    obtain ⟨k, lv, hlv, hk, rfl, HO, HB⟩ := hrel
    subst hlv
    by_cases hlt : k < n
    · obtain ⟨x, hx⟩ : ∃ x, l[k]? = some x := ⟨_, List.getElem?_eq_getElem (by rw [HN.out]; omega)⟩
      obtain ⟨bk, off, rfl, hbl, hj⟩ := at_sp (HV.out wr HB.out) (by rw [HN.out]; omega)
      obtain ⟨c0, c1⟩ := hj k x hx
      have hst := flat_step hx
      have hpx := HSP.out x (List.mem_of_getElem? hx)
      obtain ⟨x1, x2⟩ := x
      simp only at c0 c1 hpx hst
      obtain ⟨a, rfl⟩ : ∃ a : Nat, x1 = (a : Int) := ⟨x1.toNat, by omega⟩
      obtain ⟨d, hd⟩ : ∃ d : Nat, x2 - (a : Int) - 1 = (d : Int) := ⟨(x2 - (a : Int) - 1).toNat, by omega⟩
      have ha : a < 2147483648 := by omega
      have hdd : d < 2147483648 := by omega
      rw [hd] at hst
      simp only [Int.toNat_natCast] at hst
      have hw1 : IntKind.i64.wrap (x2 - (a : Int)) = x2 - (a : Int) := by rw [IntKind.wrap_i64]; omega
      have hw2 : IntKind.i64.wrap (x2 - (a : Int) - 1) = (d : Int) := by rw [IntKind.wrap_i64]; omega
      have hw3 : IntKind.u64.wrap (a : Int) = (a : Int) := by simp [IntKind.wrap, IntKind.bits, IntKind.signed]; omega
      have hw4 : IntKind.u64.wrap (d : Int) = (d : Int) := by simp [IntKind.wrap, IntKind.bits, IntKind.signed]; omega
      obtain ⟨WB, hWB⟩ : ∃ X, wr.alloc (.cells #[.int .i64 (a : Int), .int .i64 x2] 24) = X := ⟨_, rfl⟩
      obtain ⟨Nx, hNx⟩ : ∃ N, wr.heap.size = N := ⟨_, rfl⟩
      have hbx : WB.heap[Nx]? = some (.cells #[.int .i64 (a : Int), .int .i64 x2] 24 (0, 0)) := by rw [← hWB, ← hNx]; exact block_new _ _
      have hN0x : N0 ≤ Nx := by rw [← hNx, ← HN0.out]; exact HB.out.size
      have hbW : Below Nx wr WB := by rw [← hWB, ← hNx]; exact below_box _ _
      have hown : WB.ownsRow N0 5 1 lv (bytesN (n :: flatN (l.take k))).length (byteCells (bytesN (n :: flatN (l.take k)))) := by rw [← hWB]; exact HO.out.alloc _
      have hew : EncW N0 Nx w WB (a : Int) x2 := ⟨HB.out.trans (hbW.mono hN0x), by rw [← hWB, alloc_sz, hNx]; omega, hbx⟩
      have hlb := HBL.out k hk
      have hlb2 := HBL.out (k + 1) (by omega)
      have HP1 := Lib.hid (fun W => HU.out a (by omega) W)
      have HP2 := Lib.hid (fun W => HU.out d (by omega) W)
      have hE1 := enc_ten a (by omega)
      have hE2 := enc_ten d (by omega)
      have HST : Hid (bytesN (n :: flatN (l.take (k + 1))) = bytesN (n :: flatN (l.take k)) ++ enc a ++ enc d) := Lib.hid (by
        rw [hst]; simp [bytesN, List.append_assoc])
      have HWB := Lib.hid hWB
      have HNx := Lib.hid hNx
      obtain ⟨F, hF⟩ : ∃ F, bytesN (n :: flatN (l.take k)) = F := ⟨_, rfl⟩
      obtain ⟨E1, hE1e⟩ : ∃ E, enc a = E := ⟨_, rfl⟩
      obtain ⟨E2, hE2e⟩ : ∃ E, enc d = E := ⟨_, rfl⟩
      rw [hF] at hown hlb HST
      rw [hE1e] at HP1 hE1 HST
      rw [hE2e] at HP2 hE2 HST
      have hb63 : F.length + (byteCells E1).length ≤ maxLen := by rw [byteCells_length]; unfold maxLen; omega
      have hb47 : (F.length + (byteCells E1).length) * 1 ≤ 140737488355328 := by rw [byteCells_length]; omega
      have hb63' : F.length + (byteCells E1).length + (byteCells E2).length ≤ maxLen := by rw [byteCells_length, byteCells_length]; unfold maxLen; omega
      have hb47' : (F.length + (byteCells E1).length + (byteCells E2).length) * 1 ≤ 140737488355328 := by rw [byteCells_length, byteCells_length]; omega
      have HO0 := Lib.hid (show WB.drew.ownsRow N0 5 1 lv F.length (byteCells F) from hown)
      have HX0 := Lib.hid hew.drew
      obtain ⟨d0, d1⟩ := hew.cells
      have hkn : (k : Int) < (n : Int) := by omega
      obtain ⟨AL, cL, rfl, -⟩ := own_form hown
      clear hx hj hbl hWB hNx hbx hN0x hbW HB hst hown hpx HO hF hE1e hE2e hew hlb hlb2 hE1 hE2 hd ha hdd
      go_upto_region 5 with fail
      rw [HWB.out, HNx.out]
      clear c0 c1
      go_wp2_with fail
      go_region_held3 (fun W' => W'.cell? ⟨Nx, 0, none⟩ = some (.int .i64 (a : Int)) ∧ W'.cell? ⟨Nx, 1, none⟩ = some (.int .i64 x2))
        (first
          | (with_reducible exact HX4.out.cells)
          | (with_reducible exact HXB.out.cells)
          | (with_reducible exact HX2b.out.cells)
          | (with_reducible exact HX2.out.cells)
          | (with_reducible exact HX1.out.cells)
          | (with_reducible exact HX0.out.cells)
          | fail)
        ((first
          | (refine step_append_any rfl (.tmp 21) (.tmp 29) 29 rfl N0 5 i0 _ 1 Tryd.underlying29 hi hz0 hz1 hz2 rfl _ _ _ (by simp [Act.eval, Act.put]) HOA.out _ _ (byteCells E2) (by simp [Act.eval, Act.put]) HSB.out (bytes_one E2) hb63' hb47' HXB.out.size ?_; intro v4 w4 ho4 hg4 _; have HO4 := Lib.hid ho4; obtain ⟨A4, k4, rfl, -⟩ := own_form ho4; have HX4 := Lib.hid (HXB.out.app HOA.out (by decide) hg4); clear ho4 hg4)
          | (refine step_append_any rfl (.tmp 16) (.tmp 20) 29 rfl N0 5 i0 _ 1 Tryd.underlying29 hi hz0 hz1 hz2 rfl _ _ _ (by simp [Act.eval, Act.put]) HO1b.out _ _ (byteCells E1) (by simp [Act.eval, Act.put]) (seesC_own HU1b.out).1 (bytes_one E1) hb63 hb47 HX2b.out.size ?_; intro v3 y3 ho3 hg3 _; have HOA := Lib.hid ho3; have HXB := Lib.hid (HX2b.out.app HO1b.out (by decide) hg3); have HSB := Lib.hid (seesC_own (own_apartB HO1.out (Nat.le_refl _) HU2b.out hg3)).1; obtain ⟨A3, k3, rfl, -⟩ := own_form ho3; clear ho3 hg3)
          | (refine step_append_any rfl (.tmp 16) (.tmp 20) 29 rfl N0 5 i0 _ 1 Tryd.underlying29 hi hz0 hz1 hz2 rfl _ _ _ (by simp [Act.eval, Act.put]) HO1.out _ _ (byteCells E1) (by simp [Act.eval, Act.put]) (seesC_own HU1.out).1 (bytes_one E1) hb63 hb47 HX1.out.size ?_; intro v2 y2 ho2 hg2 _; have HOA1 := Lib.hid ho2; have HX2 := Lib.hid (HX1.out.app HO1.out (by decide) hg2); obtain ⟨A2, k2, rfl, -⟩ := own_form ho2; clear ho2 hg2)
          | (go_at_call 24; (with_reducible refine (HP2.out _).mono ?_); rintro e y3 ⟨u3, rfl, ho3, hb3⟩; have HXB := Lib.hid (HX2.out.call hb3); have HOA := Lib.hid (own_below HOA1.out (fun k hk => hb3.block k (own_low HOA1.out k hk).2)); have HSB := Lib.hid (seesC_own ho3).1; obtain ⟨A3, k3, rfl, -⟩ := own_form ho3; clear ho3 hb3)
          | (go_at_call 24; (with_reducible refine (HP2.out _).mono ?_); rintro e y2 ⟨u2, rfl, ho2, hb2⟩; have HX2b := Lib.hid (HX1.out.call hb2); have HO1b := Lib.hid (own_below HO1.out (fun k hk => hb2.block k (own_low HO1.out k hk).2)); have HU1b := Lib.hid (own_below HU1.out (fun k hk => hb2.block k (own_low HU1.out k hk).2)); have HU2b := Lib.hid ho2; obtain ⟨A2, k2, rfl, -⟩ := own_form ho2; clear ho2 hb2)
          | (go_at_call 24; (with_reducible refine (HP1.out _).mono ?_); rintro e y1 ⟨u1, rfl, ho1, hb1⟩; have HX1 := Lib.hid (HX0.out.call hb1); have HO1 := Lib.hid (own_below HO0.out (fun k hk => hb1.block k (own_low HO0.out k hk).2)); have HU1 := Lib.hid ho1; obtain ⟨A1, k1, rfl, -⟩ := own_form ho1; clear ho1 hb1)
          | fail))
      go_wp2_with fail
      refine ⟨⟨k + 1, _, rfl, by omega, by go_num, Lib.hid ?_, Lib.hid HX4.out.below⟩, by simp only [Go.RowKit.intOf]; omega⟩
      rw [HST.out, List.length_append, List.length_append, byteCells_app, byteCells_app]
      have := HO4.out
      simp only [byteCells_length] at this ⊢
      exact this
    · obtain rfl : k = n := by omega
      have ho := HO.out
      rw [List.take_of_length_le (by rw [HN.out]; exact Nat.le_refl _)] at ho
      have hpay : payL l = bytesN (k :: flatN l) := by unfold payL numsN; rw [HN.out]
      rw [← hpay] at ho
      have hs := refSeal_any (sees_own ho) HPL.out
      have HS := Lib.hid hs
      have hN : N0 ≤ wr.heap.size := by rw [← HN0.out]; exact HB.out.size
      have HSZ := Lib.hid hN
      clear ho hpay hs HO hN
      go_wp2_with fail
      refine HS.out.mono ?_
      rintro e w3 ⟨v3, rfl, ho3, hb3⟩
      have HE := Lib.hid (show BytesV w (encL l) (.returned v3) w3 from ⟨⟨_, rfl, sees_own ho3⟩, by rw [HN0.out]; exact HB.out.trans (hb3.mono HSZ.out)⟩)
      clear ho3 hb3
      go_wp2_with fail
      go_ret
      exact HE.out
end Go.Proofs.YtifdencdbpdbfaaDoor
