/-
  WALKS over the reference of package block: Bytes, Width, Pack.
-/
import Derived.Test.YtbfnkmibbieijaaBkS
import Derived.Test.YtbfnkmibbieijaaBiT
namespace Go.Proofs.Ytbfnkmibbieijaa
open Go.RowKit Go.Shelf Go.Lib
set_option linter.unusedVariables false
set_option linter.unusedSimpArgs false

theorem own_elemB {w : World} {base : Nat} {e : TypeId} {size n : Nat} {v : Value} {xs : List Value} (h : w.ownsRow base e size v n xs) {k : Nat} (hk : v.ownBlock = some k) : ∃ cur, w.heap[k]? = some (.cells cur e (0, 0)) := by
  rcases h.2 with ⟨rfl, _⟩ | ⟨g, cap, cur, rfl, _, hh, _⟩
  · simp [Value.ownBlock] at hk
  · simp only [Value.ownBlock, Option.some.injEq] at hk
    subst hk
    exact ⟨cur, hh⟩
theorem own_apartB {w : World} {b b' : Nat} {e e' : TypeId} {s s' n n' : Nat} {v v' : Value} {xs xs' : List Value} (h : w.ownsRow b e s v n xs) (h' : w.ownsRow b' e' s' v' n' xs') (hne : e ≠ e') {k : Nat} (hk : v.ownBlock = some k) : v'.ownBlock ≠ some k := by
  intro hk'
  obtain ⟨c, h1⟩ := own_elemB h hk
  obtain ⟨c', h2⟩ := own_elemB h' hk'
  rw [h1] at h2
  injection h2 with h2
  injection h2 with _ h2
  exact hne h2
theorem seesC_monoB {w : World} {B B' : Nat} {v : Value} {xs : List Value} (h : SeesC w B v xs) (hb : B ≤ B') : SeesC w B' v xs := by
  rcases h with h | ⟨ad, cap, hv, hc, h0, hj⟩
  · exact .inl h
  · exact .inr ⟨ad, cap, hv, hc, fun h => Nat.lt_of_lt_of_le (h0 h) hb, hj⟩
theorem own_stay {w w' : World} {base : Nat} {e : TypeId} {size n : Nat} {v : Value} {xs : List Value} (h : w.ownsRow base e size v n xs) (hb : Below w.heap.size w w') : w'.ownsRow base e size v n xs :=
  own_below h fun k hk => hb.block k (own_low h k hk).2
theorem own_grow {w w' : World} {base : Nat} {e : TypeId} {size n : Nat} {v : Value} {xs : List Value} {row : Option Nat} (h : w.ownsRow base e size v n xs) (hg : w.grownBy w' row) (hne : ∀ k, v.ownBlock = some k → row ≠ some k) : w'.ownsRow base e size v n xs :=
  own_below h fun k hk => hg.block k (own_low h k hk).2 fun e => hne k hk e.symm
/-- append of bits that are read to a row of the call's own. -/
theorem wpList_catL {w : World} {ops : Array Oper} {rest : List Oper} {o : Oper} {a : Act} {Q : Exit → Act → World → Prop} (hgd : o.guard = none) (s x : Operand)
    (ho : o.op = .call { callee := .builtin .append, args := #[s, x], argTypes := #[71, 71] }) (base : Nat) (v : Value) (L : List Bool) (hs : a.eval s = v) (hown : w.ownsRow base 4 1 v L.length (boolCells L))
    (vx : Value) (B : Nat) (M : List Bool) (hx : a.eval x = vx) (hn : SeesC w B vx (boolCells M)) (h63 : L.length + M.length ≤ 100000) (hbase : base ≤ w.heap.size)
    (h : ∀ v' w', Hid (w'.ownsRow base 4 1 v' (L ++ M).length (boolCells (L ++ M))) → Hid (w.grownBy w' v.ownBlock) → wpList Try.prog ops Q rest (a.put o.dst v') w') : wpList Try.prog ops Q (o :: rest) a w := by
  obtain ⟨i0, hi, hz0, hz1, hz2⟩ := info_parts' Try.infoBool
  have hcl := boolCells_length M
  refine wpList_append_sees hgd s x 71 ho base 4 i0 _ 1 Try.underlying71 hi hz0 hz1 hz2 rfl v L.length (boolCells L) hs hown vx B (boolCells M) hx hn (bools_one M) (by rw [hcl]; unfold maxLen; omega) (by rw [hcl]; omega) hbase ?_
  intro v' w' h1 h2 _
  refine h v' w' (Lib.hid ?_) (Lib.hid h2)
  rw [hcl] at h1
  rw [List.length_append, boolCells_app]
  exact h1
/-- Between two numbers of Bytes. -/
structure RbAt (w : World) (W : Nat) (vs : List Nat) (k e b : Nat) (bv hv : Value) (wr : World) : Prop where
  bl : Below w.heap.size w wr
  bo : wr.ownsRow w.heap.size 4 1 bv (lowB W (vs.take k)).length (boolCells (lowB W (vs.take k)))
  ho : wr.ownsRow w.heap.size 5 1 hv (xsK W vs k).hi.length (byteCells (xsK W vs k).hi)
  ex : (xsK W vs k).ex = e
  bf : (xsK W vs k).bf = b
  le : e ≤ k ∧ b ≤ k ∧ (xsK W vs k).hi.length ≤ 7 * k
set_option maxRecDepth 100000 in
set_option maxHeartbeats 8000000 in
theorem refBytes_any {w : World} {v : Value} {vs : List Nat} (hv : Rows 1 EInt w v (castB vs)) (hok : ok31 vs) (W : Nat) (hW : W ≤ 31) :
    Calls Try.prog 20 #[v, .int .i64 W] w (OwnB w (blkB vs W)) := by
  obtain ⟨A, cap, rfl, hc⟩ := hv.form
  obtain ⟨n, hn⟩ : ∃ n, vs.length = n := ⟨_, rfl⟩
  rw [castB_len, hn] at hv hc ⊢
  have HV := Lib.hid (fun W (hb : Below w.heap.size w W) => hv.below stays_int hb)
  have HN := Lib.hid hn
  have HOK := Lib.hid hok
  have hn1 : n ≤ 128 := by rw [← hn]; exact hok.1
  have HS0 : Hid (RbAt w W vs 0 0 0 (.slice none 0 0) (.slice none 0 0) w) := Lib.hid ⟨Below.refl _ _, by simp only [List.take_zero, lowB, List.flatMap_nil]; exact World.ownsRow_nil _ _ _ _, World.ownsRow_nil _ _ _ _, rfl, rfl, Nat.le_refl _, Nat.le_refl _, Nat.le_refl _⟩
  have HU := Lib.hid (fun (y : Nat) (hy : y < 2147483648) (W : World) => refUvarint_any y (by omega) W)
  clear hv hn hok hc
  go_enter Try.func20, Try.ntmps20
  go_wp2_with fail
  go_loopw [5, 6, 7, 8, 14] (fun bv0 hv0 ev bfv iv wr => ∃ (bv hv : Value) (k e b : Nat), bv = bv0 ∧ hv = hv0 ∧ k ≤ n ∧ ev = .int .i64 e ∧ bfv = .int .i64 ((b : Int) - 1) ∧ iv = .int .i64 k ∧ Hid (RbAt w W vs k e b bv hv wr)) (fun _ _ _ _ iv _ => n - (Go.RowKit.intOf iv).toNat)
  case atStart => exact ⟨_, _, 0, 0, 0, rfl, rfl, Nat.zero_le _, rfl, rfl, rfl, HS0⟩
  case round =>
    clear HS0
    obtain ⟨bv, hv, k, e, b, rfl, rfl, hk, rfl, rfl, rfl, HS⟩ := hrel
    by_cases hlt : k < n
    · have hlti : (k : Int) < (n : Int) := by omega
      obtain ⟨x, hx⟩ : ∃ x, vs[k]? = some x := ⟨_, List.getElem?_eq_getElem (by rw [HN.out]; exact hlt)⟩
      obtain ⟨bb, o, rfl, -, hj⟩ := at_int (HV.out _ HS.out.bl) (by rw [castB_len, HN.out]; omega)
      have u0 := hj k (x : Int) (by unfold castB; rw [List.getElem?_map, hx]; rfl)
      have hx31 := HOK.out.2 x (List.mem_of_getElem? hx)
      have hlw := lowB_step (w := W) hx
      obtain ⟨L0, hL0⟩ : ∃ L, lowB W (vs.take k) = L := ⟨_, rfl⟩
      have hll : L0.length ≤ 3968 := by
        rw [← hL0, lowB_len]
        have h1 : (vs.take k).length ≤ 128 := by rw [List.length_take]; omega
        have := Nat.mul_le_mul h1 hW
        omega
      have hlow := low_len x W
      obtain ⟨M, hM⟩ : ∃ L, low x W = L := ⟨_, rfl⟩
      have HLO := Lib.hid (low_of x W W rfl (by omega) (by omega) wr)
      rw [hM] at HLO hlow hlw
      rw [hL0] at hlw
      have hsh := shr_nat x W
      obtain ⟨q, hq⟩ : ∃ q, x / 2 ^ W = q := ⟨_, rfl⟩
      have hq31 : q < 2147483648 := by rw [← hq]; exact Nat.lt_of_le_of_lt (Nat.div_le_self _ _) hx31
      rw [hq] at hsh
      have hle := HS.out.le
      have HX := Lib.hid hx
      have HQ := Lib.hid hq
      have HLW := Lib.hid hlw
      have HB0 := Lib.hid HS.out.bl
      have HBO : Hid (wr.ownsRow w.heap.size 4 1 bv L0.length (boolCells L0)) := Lib.hid (by rw [← hL0]; exact HS.out.bo)
      have HHO := Lib.hid HS.out.ho
      have HEX := Lib.hid HS.out.ex
      have HBF := Lib.hid HS.out.bf
      clear hlw hL0 hM hx hq hj HS
      go_wp2_with fail
      refine HLO.out.mono ?_
      rintro er w2 ⟨v2, rfl, ho2, hb2⟩
      have HS2 := Lib.hid (seesC_own ho2).1
      have HBO2 := Lib.hid (own_stay HBO.out hb2)
      have HHO2 := Lib.hid (own_stay HHO.out hb2)
      have HB2 := Lib.hid (HB0.out.trans (hb2.mono HB0.out.size))
      clear ho2 hb2 HLO HBO HHO HB0
      go_wp2_with (at_builtin; refine wpList_catL rfl (.tmp 19) (.tmp 23) rfl w.heap.size bv L0 rfl HBO2.out v2 _ M rfl HS2.out (by omega) HB2.out.size ?_)
      intro bv3 w3 HBO3 HG3
      have HHO3 := Lib.hid (own_grow HHO2.out HG3.out (fun c ec => own_apartB HHO2.out HBO2.out (by decide) ec))
      have HB3 := Lib.hid (HB2.out.grown HG3.out HB2.out.size (fun c ec => (own_low HBO2.out c ec).1))
      have HBO3' : Hid (w3.ownsRow w.heap.size 4 1 bv3 (lowB W (vs.take (k + 1))).length (boolCells (lowB W (vs.take (k + 1))))) := Lib.hid (by
        have h := HBO3.out
        rw [HLW.out]
        simp only [List.length_append, hlow] at h ⊢
        exact h)
      clear HBO3 HG3 HBO2 HHO2 HS2 HB2
      by_cases hq0 : q = 0
      · subst hq0
        have HNX : Hid (RbAt w W vs (k + 1) e b bv3 hv w3) := Lib.hid (by
          have hst := xsK_at (w := W) HX.out
          rw [xstep_no HQ.out] at hst
          exact ⟨HB3.out, HBO3'.out, by rw [hst]; exact HHO3.out, by rw [hst]; exact HEX.out, by rw [hst]; exact HBF.out, by rw [hst]; omega⟩)
        clear HB3 HBO3' HHO3
        go_wp2_with fail
        exact ⟨⟨_, _, k + 1, e, b, rfl, rfl, by omega, rfl, rfl, by go_num, HNX⟩, by simp only [Go.RowKit.intOf]; omega⟩
      · obtain ⟨g, hg⟩ : ∃ g, k + 1 - b = g := ⟨_, rfl⟩
        have hq0i : ((q : Int) == 0) = false := by simp; omega
        have n1 : (k : Int) - ((b : Int) - 1) = (g : Int) := by omega
        have hgl : g ≤ 128 := by omega
        have HU1 := Lib.hid (HU.out g (by omega) w3)
        have eg := uvs_two (v := g) (by omega)
        have eq5 := uvs_five (v := q) hq31
        have HG := Lib.hid hg
        clear hg
        go_wp2_with fail
        refine HU1.out.mono ?_
        rintro er w4 ⟨v4, rfl, ho4, hb4⟩
        have HS4 := Lib.hid (sees_own ho4)
        have HHO4 := Lib.hid (own_stay HHO3.out hb4)
        have HBO4 := Lib.hid (own_stay HBO3'.out hb4)
        have HB4 := Lib.hid (HB3.out.trans (hb4.mono HB3.out.size))
        clear ho4 hb4 HU1 HHO3 HBO3' HB3
        obtain ⟨H0, hH0⟩ : ∃ H, (xsK W vs k).hi = H := ⟨_, rfl⟩
        obtain ⟨E1, hE1⟩ : ∃ H, enc g = H := ⟨_, rfl⟩
        have hE1l : E1.length ≤ 2 := by rw [← hE1, enc_uvs]; exact eg
        rw [hH0] at HHO4 hle
        rw [hE1] at HS4
        have HH0 := Lib.hid hH0
        have HE1 := Lib.hid hE1
        clear hH0 hE1
        go_wp2_with (at_builtin; refine wpList_catB rfl (.tmp 32) (.tmp 37) rfl w.heap.size hv H0 rfl HHO4.out v4 _ E1 rfl HS4.out (by omega) HB4.out.size ?_)
        intro hv5 w5 HHO50 HG5
        have HHO5 : Hid (w5.ownsRow w.heap.size 5 1 hv5 (H0 ++ E1).length (byteCells (H0 ++ E1))) := Lib.hid (by rw [List.length_append]; exact HHO50.out)
        have HBO5 := Lib.hid (own_grow HBO4.out HG5.out (fun c ec => own_apartB HBO4.out HHO4.out (by decide) ec))
        have HB5 := Lib.hid (HB4.out.grown HG5.out HB4.out.size (fun c ec => (own_low HHO4.out c ec).1))
        have HU2 := Lib.hid (HU.out q hq31 w5)
        clear HHO50 HG5 HHO4 HBO4 HB4 HS4
        go_wp2_with fail
        refine HU2.out.mono ?_
        rintro er w6 ⟨v6, rfl, ho6, hb6⟩
        have HS6 := Lib.hid (sees_own ho6)
        have HHO6 := Lib.hid (own_stay HHO5.out hb6)
        have HBO6 := Lib.hid (own_stay HBO5.out hb6)
        have HB6 := Lib.hid (HB5.out.trans (hb6.mono HB5.out.size))
        obtain ⟨E2, hE2⟩ : ∃ H, enc q = H := ⟨_, rfl⟩
        have hE2l : E2.length ≤ 5 := by rw [← hE2, enc_uvs]; exact eq5
        rw [hE2] at HS6
        have HE2 := Lib.hid hE2
        clear ho6 hb6 HU2 HHO5 HBO5 HB5 hE2
        go_wp2_with (at_builtin; refine wpList_catB rfl (.tmp 38) (.tmp 44) rfl w.heap.size hv5 (H0 ++ E1) rfl HHO6.out v6 _ E2 rfl HS6.out (by rw [List.length_append]; omega) HB6.out.size ?_)
        intro hv7 w7 HHO7 HG7
        have HBO7 := Lib.hid (own_grow HBO6.out HG7.out (fun c ec => own_apartB HBO6.out HHO6.out (by decide) ec))
        have HB7 := Lib.hid (HB6.out.grown HG7.out HB6.out.size (fun c ec => (own_low HHO6.out c ec).1))
        have HNX : Hid (RbAt w W vs (k + 1) (e + 1) (k + 1) bv3 hv7 w7) := Lib.hid (by
          have hst := xsK_at (w := W) HX.out
          rw [xstep_yes (by rw [HQ.out]; exact hq0), HQ.out, HBF.out, HG.out, HH0.out, HE1.out, HE2.out] at hst
          have h7 := HHO7.out
          refine ⟨HB7.out, HBO7.out, ?_, by rw [hst]; simp only [HEX.out], by rw [hst], ?_⟩
          · rw [hst]
            simp only [List.length_append, List.append_assoc, Nat.add_assoc] at h7 ⊢
            exact h7
          · rw [hst]
            simp only [List.length_append]
            omega)
        clear HHO7 HG7 HBO6 HHO6 HB6 HS6 HBO7 HB7
        go_wp2_with fail
        exact ⟨⟨_, _, k + 1, e + 1, k + 1, rfl, rfl, by omega, by go_num, by go_num, by go_num, HNX⟩, by simp only [Go.RowKit.intOf]; omega⟩
    · obtain rfl : k = n := by omega
      have hlti : ¬ (k : Int) < (k : Int) := by omega
      have hle := HS.out.le
      have HBS : Hid (SeesC wr wr.heap.size bv (boolCells (lowB W vs))) := Lib.hid (by
        have h := HS.out.bo
        rw [List.take_of_length_le (by rw [HN.out]; exact Nat.le_refl _)] at h
        exact (seesC_own h).1)
      have HHS := Lib.hid (sees_own HS.out.ho)
      have HBL := Lib.hid HS.out.bl
      have HE : Hid (blkB vs W = enc k ++ enc W ++ enc e ++ pack (lowB W vs) ++ (xsK W vs k).hi) := Lib.hid (by
        unfold blkB
        rw [HN.out, HS.out.ex])
      have hpl : (pack (lowB W vs)).length ≤ 600 := by
        rw [pack_len, lowB_len, HN.out]
        have := Nat.mul_le_mul hn1 hW
        omega
      have hll : (lowB W vs).length ≤ 1000000 := by
        rw [lowB_len, HN.out]
        have := Nat.mul_le_mul hn1 hW
        omega
      have HPA := Lib.hid (fun (W2 : World) (hb : Below wr.heap.size wr W2) => pack_any (seesC_monoB (HBS.out.below hb) hb.size) hll)
      have e1 := uvs_two (v := k) (by omega)
      have e2 := uvs_two (v := W) (by omega)
      have e3 := uvs_two (v := e) (by omega)
      rw [← enc_uvs] at e1 e2 e3
      have HU1 := Lib.hid (HU.out k (by omega) wr)
      have HU2 := Lib.hid (fun W2 => HU.out W (by omega) W2)
      have HU3 := Lib.hid (fun W2 => HU.out e (by omega) W2)
      obtain ⟨E1, hE1⟩ : ∃ H, enc k = H := ⟨_, rfl⟩
      obtain ⟨E2, hE2⟩ : ∃ H, enc W = H := ⟨_, rfl⟩
      obtain ⟨E3, hE3⟩ : ∃ H, enc e = H := ⟨_, rfl⟩
      obtain ⟨L2, hL2⟩ : ∃ L, pack (lowB W vs) = L := ⟨_, rfl⟩
      obtain ⟨L3, hL3⟩ : ∃ L, (xsK W vs k).hi = L := ⟨_, rfl⟩
      rw [hE1] at HE e1 HU1
      rw [hE2] at HE e2 HU2
      rw [hE3] at HE e3 HU3
      rw [hL2] at HE hpl HPA
      rw [hL3] at HE HHS hle
      clear hE1 hE2 hE3 hL2 hL3 HS hll HBS HU
      go_wp2_with fail
      refine HU1.out.mono ?_
      rintro er w1 ⟨v1, rfl, ho1, hb1⟩
      have HO1 := Lib.hid ho1
      have HB1 := Lib.hid hb1
      have HU2' := Lib.hid (HU2.out w1)
      clear ho1 hb1 HU1 HU2
      go_wp2_with fail
      refine HU2'.out.mono ?_
      rintro er w2 ⟨v2, rfl, ho2, hb2⟩
      have HO1' := Lib.hid (own_stay HO1.out hb2)
      have HS2 := Lib.hid (sees_own ho2)
      have HB2 := Lib.hid (HB1.out.trans (hb2.mono HB1.out.size))
      clear ho2 hb2 HU2' HO1 HB1
      go_wp2_with (at_builtin; refine wpList_catB rfl (.tmp 51) (.tmp 54) rfl wr.heap.size v1 E1 rfl HO1'.out v2 _ E2 rfl HS2.out (by omega) HB2.out.size ?_)
      intro v3 w3 HO30 HG3
      have HO3 : Hid (w3.ownsRow wr.heap.size 5 1 v3 (E1 ++ E2).length (byteCells (E1 ++ E2))) := Lib.hid (by rw [List.length_append]; exact HO30.out)
      have HB3 := Lib.hid (HB2.out.grown HG3.out HB2.out.size (fun c ec => (own_low HO1'.out c ec).1))
      have HU3' := Lib.hid (HU3.out w3)
      clear HO30 HG3 HO1' HS2 HB2 HU3
      go_wp2_with fail
      refine HU3'.out.mono ?_
      rintro er w4 ⟨v4, rfl, ho4, hb4⟩
      have HO3' := Lib.hid (own_stay HO3.out hb4)
      have HS4 := Lib.hid (sees_own ho4)
      have HB4 := Lib.hid (HB3.out.trans (hb4.mono HB3.out.size))
      clear ho4 hb4 HU3' HO3 HB3
      go_wp2_with (at_builtin; refine wpList_catB rfl (.tmp 56) (.tmp 59) rfl wr.heap.size v3 (E1 ++ E2) rfl HO3'.out v4 _ E3 rfl HS4.out (by rw [List.length_append]; omega) HB4.out.size ?_)
      intro v5 w5 HO50 HG5
      have HO5 : Hid (w5.ownsRow wr.heap.size 5 1 v5 (E1 ++ E2 ++ E3).length (byteCells (E1 ++ E2 ++ E3))) := Lib.hid (by
        have h := HO50.out
        simp only [List.length_append, List.append_assoc, Nat.add_assoc] at h ⊢
        exact h)
      have HB5 := Lib.hid (HB4.out.grown HG5.out HB4.out.size (fun c ec => (own_low HO3'.out c ec).1))
      have HPA' := Lib.hid (HPA.out w5 HB5.out)
      clear HO50 HG5 HO3' HS4 HB4 HPA
      go_wp2_with fail
      refine HPA'.out.mono ?_
      rintro er w6 ⟨v6, rfl, ho6, hb6⟩
      have HO5' := Lib.hid (own_stay HO5.out hb6)
      have HS6 := Lib.hid (sees_own ho6)
      have HB6 := Lib.hid (HB5.out.trans (hb6.mono HB5.out.size))
      clear ho6 hb6 HPA' HO5 HB5
      go_wp2_with (at_builtin; refine wpList_catB rfl (.tmp 60) (.tmp 62) rfl wr.heap.size v5 (E1 ++ E2 ++ E3) rfl HO5'.out v6 _ L2 rfl HS6.out (by rw [List.length_append, List.length_append]; omega) HB6.out.size ?_)
      intro v7 w7 HO70 HG7
      have HO7 : Hid (w7.ownsRow wr.heap.size 5 1 v7 (E1 ++ E2 ++ E3 ++ L2).length (byteCells (E1 ++ E2 ++ E3 ++ L2))) := Lib.hid (by
        have h := HO70.out
        simp only [List.length_append, List.append_assoc, Nat.add_assoc] at h ⊢
        exact h)
      have HB7 := Lib.hid (HB6.out.grown HG7.out HB6.out.size (fun c ec => (own_low HO5'.out c ec).1))
      have HS7 := Lib.hid (HHS.out.below HB7.out)
      clear HO70 HG7 HO5' HS6 HB6 HHS
      go_wp2_with (at_builtin; refine wpList_catB rfl (.tmp 64) (.tmp 65) rfl wr.heap.size v7 (E1 ++ E2 ++ E3 ++ L2) rfl HO7.out hv _ L3 rfl HS7.out (by rw [List.length_append, List.length_append, List.length_append]; omega) HB7.out.size ?_)
      intro v8 w8 HO8 HG8
      have HB8 := Lib.hid (HB7.out.grown HG8.out HB7.out.size (fun c ec => (own_low HO7.out c ec).1))
      have HF : Hid (OwnB w (blkB vs W) (.returned v8) w8) := Lib.hid ⟨v8, rfl, by
        rw [HE.out]
        have h := HO8.out
        simp only [List.length_append, List.append_assoc, Nat.add_assoc] at h ⊢
        exact own_baseB h HBL.out.size, HBL.out.trans (HB8.out.mono HBL.out.size)⟩
      clear HO8 HG8 HB8 HO7 HB7 HS7
      go_wp2_with fail
      go_ret
      exact HF.out

set_option maxRecDepth 100000 in
set_option maxHeartbeats 4000000 in
theorem refWidthB_any {w : World} {v : Value} {vs : List Nat} (hv : Rows 1 EInt w v (castB vs)) (hok : ok31 vs) :
    Calls Try.prog 18 #[v] w fun e w' => e = .returned (.int .i64 (wid vs : Nat)) ∧ Below w.heap.size w w' := by
  have hlen : (castB vs).length ≤ maxLen := by
    rw [castB_len]
    have := hok.1
    unfold maxLen
    omega
  have HCK := Lib.hid (refCheckB_any hv hlen)
  rw [chk_nat hok] at HCK
  have HB := Lib.hid (fun W (hb : Below w.heap.size w W) j (hj : j ≤ 31) => refBytes_any (hv.below stays_int hb) hok j hj)
  clear hv hlen
  go_enter Try.func18, Try.ntmps18
  go_wp2_with fail
  refine HCK.out.mono ?_
  rintro e w' ⟨rfl, rfl⟩
  go_wp2_with fail
  go_loopw [3, 4] (fun bv iv wr => ∃ j b : Nat, 1 ≤ j ∧ j ≤ 32 ∧ bv = .int .i64 b ∧ iv = .int .i64 j ∧ Hid (b = bestK vs (j - 1)) ∧ Hid (Below w'.heap.size w' wr)) (fun _ iv _ => 32 - (intOf iv).toNat)
  case atStart => exact ⟨1, 0, by omega, by omega, rfl, rfl, Lib.hid rfl, Lib.hid (Below.refl _ _)⟩
  case round =>
    obtain ⟨j, b, hj1, hj, rfl, rfl, HBK, HBL⟩ := hrel
    by_cases hlt : j ≤ 31
    · have hlti : (j : Int) ≤ 31 := by omega
      have hb31 : b ≤ 31 := by rw [HBK.out]; exact Nat.le_trans (bestK_le _ _) (by omega)
      have hnx : bestK vs (j + 1 - 1) = if cst vs j < cst vs b then j else b := by
        obtain ⟨m, rfl⟩ : ∃ m, j = m + 1 := ⟨j - 1, by omega⟩
        rw [HBK.out]
        rfl
      have HB1 := Lib.hid (HB.out wr HBL.out j hlt)
      have HB2 := Lib.hid (fun W (hb : Below w'.heap.size w' W) => HB.out W hb b hb31)
      have hx0 : (blkB vs j).length = cst vs j := rfl
      have hy0 : (blkB vs b).length = cst vs b := rfl
      obtain ⟨x, hx⟩ : ∃ x, cst vs j = x := ⟨_, rfl⟩
      obtain ⟨y, hy⟩ : ∃ y, cst vs b = y := ⟨_, rfl⟩
      rw [hx] at hnx hx0
      rw [hy] at hnx hy0
      have HX := Lib.hid hx0
      have HY := Lib.hid hy0
      clear hx hy hx0 hy0 HBK
      go_wp2_with fail
      refine HB1.out.mono ?_
      rintro er w1 ⟨v1, rfl, ho1, hb1⟩
      obtain ⟨s1, c1, rfl, -⟩ := (sees_own ho1).form
      rw [HX.out]
      have HBL1 := Lib.hid (HBL.out.trans (hb1.mono HBL.out.size))
      have HB2' := Lib.hid (HB2.out w1 HBL1.out)
      clear ho1 hb1 HB1 HB2 HBL
      go_wp2_with fail
      refine HB2'.out.mono ?_
      rintro er w2 ⟨v2, rfl, ho2, hb2⟩
      obtain ⟨s2, c2, rfl, -⟩ := (sees_own ho2).form
      rw [HY.out]
      have HBL2 := Lib.hid (HBL1.out.trans (hb2.mono HBL1.out.size))
      clear ho2 hb2 HB2' HBL1
      by_cases hxy : x < y
      · have hxyi : (x : Int) < (y : Int) := by omega
        rw [if_pos hxy] at hnx
        have HNX := Lib.hid hnx.symm
        clear hnx
        go_wp2_with fail
        exact ⟨⟨j + 1, j, by omega, by omega, rfl, by go_num, HNX, HBL2⟩, by simp only [intOf]; omega⟩
      · have hxyi : ¬ (x : Int) < (y : Int) := by omega
        rw [if_neg hxy] at hnx
        have HNX := Lib.hid hnx.symm
        clear hnx
        go_wp2_with fail
        exact ⟨⟨j + 1, b, by omega, by omega, rfl, by go_num, HNX, HBL2⟩, by simp only [intOf]; omega⟩
    · obtain rfl : j = 32 := by omega
      have hE : b = wid vs := HBK.out
      subst hE
      go_wp2_with fail
      go_ret
      exact ⟨rfl, HBL.out⟩
set_option maxRecDepth 100000 in
set_option maxHeartbeats 4000000 in
theorem refPackB_any {w : World} {v : Value} {vs : List Nat} (hv : Rows 1 EInt w v (castB vs)) (hok : ok31 vs) :
    Calls Try.prog 17 #[v] w (OwnB w (blkB vs (wid vs))) := by
  have HW := Lib.hid (refWidthB_any hv hok)
  have HB := Lib.hid (fun W (hb : Below w.heap.size w W) => refBytes_any (hv.below stays_int hb) hok (wid vs) (wid_le vs))
  clear hv
  go_enter Try.func17, Try.ntmps17
  go_wp2_with fail
  refine HW.out.mono ?_
  rintro e w1 ⟨rfl, hb1⟩
  have HB1 := Lib.hid (HB.out w1 hb1)
  have HBL := Lib.hid hb1
  clear hb1 HB HW
  go_wp2_with fail
  refine HB1.out.mono ?_
  rintro e w2 ⟨v2, rfl, ho2, hb2⟩
  have HF : Hid (OwnB w (blkB vs (wid vs)) (.returned v2) w2) := Lib.hid ⟨v2, rfl, own_baseB ho2 HBL.out.size, HBL.out.trans (hb2.mono HBL.out.size)⟩
  clear ho2 hb2 HB1
  go_wp2_with fail
  go_ret
  exact HF.out
end Go.Proofs.Ytbfnkmibbieijaa
