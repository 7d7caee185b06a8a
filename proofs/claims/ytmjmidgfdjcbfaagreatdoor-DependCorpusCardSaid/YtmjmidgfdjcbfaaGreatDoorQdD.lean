/-
  WALKS over package corpus: the validator: regions.
-/
import Derived.Test.YtmjmidgfdjcbfaaGreatDoorQdC
import Derived.Test.YtmjmidgfdjcbfaaGreatDoorQkP
namespace Go.Proofs.YtmjmidgfdjcbfaaGreatDoor
open Go.RowKit Go.Shelf Go.Lib
set_option linter.unusedVariables false

set_option maxRecDepth 100000 in
set_option maxHeartbeats 1000000 in
theorem vRegions {c : Cor} {s : Sv} {o p y : Value} {B : Nat} {W : World} (hV : VAt W B s o p y) (h : CorAt W s c) :
    Calls Tryz.prog 25 #[.pointer (some ⟨B, 0, none⟩)] W fun r w' => r = .returned (.int .i64 (regsE c : Nat)) ∧ w' = W := by
  obtain ⟨-, -, -, c3, -⟩ := hV.c
  obtain ⟨A, cap, hva, -⟩ := h.r.form
  rw [hva] at c3
  unfold regsE
  obtain ⟨n, hn⟩ : ∃ n, c.regs.length = n := ⟨_, rfl⟩
  rw [hn] at c3 ⊢
  have HL := Lib.hid (limited_reg A n cap 1024 W)
  obtain ⟨z, hz⟩ : ∃ z : Nat, (if 1024 < n then 2 else 0) = z := ⟨_, rfl⟩
  rw [hz] at HL ⊢
  clear hz
  clear hn hva h hV
  go_enter Tryz.func25, Tryz.ntmps25
  go_wp2_with fail
  refine HL.out.mono ?_
  rintro r w1 ⟨rfl, rfl⟩
  go_wp2_with fail
  go_ret
  exact ⟨rfl, rfl⟩

theorem step_append_own {P : Program} {w : World} {ops : Array Oper} {o : Oper} {a : Act} {K : Act → World → Prop} {Q : Exit → Act → World → Prop} {E : Prop} (hgd : o.guard = none) (s x : Operand) (t : TypeId)
    (ho : o.op = .call { callee := .builtin .append, args := #[s, x], argTypes := #[t, t] })
    (base : Nat) (e : TypeId) (i : TypeInfo) (z : Value) (size bytes : Nat) (ht : P.underlying t = some (.slice e)) (hi : P.info? e = some i) (hz : i.zero = some z)
    (hsize : i.size = size) (hby : i.bytes = bytes) (hzs : z.cells.size = size) (hpos : 0 < size)
    (v : Value) (n : Nat) (xs : List Value) (hs : a.eval s = v) (hown : w.ownsRow base e size v n xs)
    (ad : Addr) (m c : Nat) (news : List Value) (hx : a.eval x = .slice (some ad) m c) (hl : news.length = m * size) (hn : ∀ (j : Nat) (u : Value), news[j]? = some u → w.cell? (ad.add j) = some u) (h1 : ∀ u ∈ news, u.oneCell' = true)
    (h63 : n + m ≤ maxLen) (hbytes : (n + m) * bytes ≤ 140737488355328) (hbase : base ≤ w.heap.size)
    (h : ∀ v' w', w'.ownsRow base e size v' (n + m) (xs ++ news) → w.grownBy w' v.ownBlock → K (a.put o.dst v') w') :
    if Region.wanted o (yielded ops a.tmps) = true then Oper.wp P o a w K Q else E := by
  have hw : Region.wanted o (yielded ops a.tmps) = true := by simp [Region.wanted, hgd]
  rw [if_pos hw]
  obtain ⟨v', w', hr, h2, h3, _⟩ := run_append_own (P := P) w base t o.type e i z size bytes ht hi hz hsize hby hzs hpos v n xs hown ad m c news hl hn h1 h63 hbytes hbase
  unfold Oper.wp execOp
  simp only [ho, resolve, invoke, builtin, Sem.run_bind, Sem.run_pure, Result.andThen_ok, List.map_toArray, List.map_cons, List.map_nil, hs, hx, hr]
  exact h v' w' h2 h3
theorem Tryz.infoReg : (Tryz.prog.info? 101).map (fun i => (i.zero, i.size, i.bytes)) = some (some (.agg #[.string ⟨#[]⟩, .int .i64 0, .int .i64 0, .slice none 0 0]), 4, 56) := by kernel_rfl
theorem encO_one (o : Og) : ∀ u ∈ encO o, u.oneCell' = true := by
  intro u hu
  unfold encO at hu
  simp only [List.mem_cons, List.not_mem_nil, or_false] at hu
  rcases hu with rfl | rfl | rfl | rfl <;> rfl

set_option maxHeartbeats 1000000 in
theorem region2_any (o : Og) (x : Ex) (B : Nat) (mv : Value) (W : World) (hB : W.heap[B]? = some (.cells #[.string ⟨x.name.toArray⟩, .int .i64 x.b, .int .i64 x.e, mv] 101 (0, 0))) :
    Calls Tryz.prog 62 (#[.agg (encO o).toArray] ++ #[.pointer (some ⟨B, 0, none⟩)]) W fun e w' => e = .returned (.bool (decide (o.x.name = x.name) && decide (o.x.e < x.e))) ∧ Below W.heap.size W w' := by
  unfold encO
  obtain ⟨⟨nm, ob, oe, ps⟩, A, l, cp⟩ := o
  obtain ⟨xn, xb, xe, xp⟩ := x
  simp only at hB ⊢
  have he := str_eq nm xn
  obtain ⟨P, hP⟩ : ∃ s : ByteArray, (⟨nm.toArray⟩ : ByteArray) = s := ⟨_, rfl⟩
  obtain ⟨Q, hQ⟩ : ∃ s : ByteArray, (⟨xn.toArray⟩ : ByteArray) = s := ⟨_, rfl⟩
  rw [hP, hQ] at he
  rw [hQ] at hB
  rw [hP, ← he]
  have c0 : (W.alloc (.cells #[.string P, .int .i64 ob, .int .i64 oe, .slice A l cp] 101)).cell? ⟨B, 0, none⟩ = some (.string Q) := cell_of (block_alloc _ hB) rfl
  have c1 : (W.alloc (.cells #[.string P, .int .i64 ob, .int .i64 oe, .slice A l cp] 101)).cell? ⟨B, 2, none⟩ = some (.int .i64 xe) := cell_of (block_alloc _ hB) rfl
  obtain ⟨q, hq⟩ : ∃ q, (P.toList == Q.toList) = q := ⟨_, rfl⟩
  rw [hq]
  clear he hP hQ hB
  cases q with
  | true =>
    go_enter Tryz.func62, Tryz.ntmps62
    go_wp2_with fail
    go_ret
    exact ⟨rfl, below_box W _⟩
  | false =>
    go_enter Tryz.func62, Tryz.ntmps62
    go_wp2_with fail
    go_ret
    exact ⟨rfl, below_box W _⟩
theorem cells4_set {w : World} {N B : Nat} {a b c d : Value} {i : Nat} {u : Value} (hne : N ≠ B) (h : w.cell? ⟨N, 0, none⟩ = some a ∧ w.cell? ⟨N, 1, none⟩ = some b ∧ w.cell? ⟨N, 2, none⟩ = some c ∧ w.cell? ⟨N, 3, none⟩ = some d) :
    (w.setCell ⟨B, i, none⟩ u).cell? ⟨N, 0, none⟩ = some a ∧ (w.setCell ⟨B, i, none⟩ u).cell? ⟨N, 1, none⟩ = some b ∧ (w.setCell ⟨B, i, none⟩ u).cell? ⟨N, 2, none⟩ = some c ∧ (w.setCell ⟨B, i, none⟩ u).cell? ⟨N, 3, none⟩ = some d := by
  have e : ∀ j, (w.setCell ⟨B, i, none⟩ u).cell? ⟨N, j, none⟩ = w.cell? ⟨N, j, none⟩ := fun j => World.cell?_of_block (Below.heap_setCell w ⟨B, i, none⟩ u N hne)
  rw [e, e, e, e]
  exact h
theorem reg_kept {w w' : World} {N : Nat} {a b c d : Value} {T : TypeId} {o : Obj} {row : Option Nat} (hR : w.heap[N]? = some (.cells #[a, b, c, d] T (0, 0))) (hne : some N ≠ row) (hg : (w.alloc o).grownBy w' row) :
    w'.cell? ⟨N, 0, none⟩ = some a ∧ w'.cell? ⟨N, 1, none⟩ = some b ∧ w'.cell? ⟨N, 2, none⟩ = some c ∧ w'.cell? ⟨N, 3, none⟩ = some d := by
  have h1 := block_alloc o hR
  have h2 := (hg.block N (Array.getElem?_eq_some_iff.1 h1).1 hne).trans h1
  exact ⟨cell_of h2 rfl, cell_of h2 rfl, cell_of h2 rfl, cell_of h2 rfl⟩
theorem v_kept {w w' : World} {B : Nat} {s : Sv} {ov p y : Value} {o : Obj} {row : Option Nat} (hV : VAt w B s ov p y) (hne : some B ≠ row) (hg : (w.alloc o).grownBy w' row) : VAt w' B s ov p y :=
  (hg.block B (by simp; have := hV.lt; omega) hne).trans (block_alloc o hV)
/-- The open regions in memory. -/
def OpenAt (W : World) (base : Nat) (ov : Value) (l : List Ex) : Prop := ∃ os : List Og, os.map (·.x) = l ∧ W.ownsRow base 101 4 ov os.length (os.flatMap encO)
/-- What the check of region i answers and leaves behind. -/
def RegV (c : Cor) (s : Sv) (p y : Value) (B i : Nat) (W : World) (r : Ending) (w' : World) : Prop :=
  r = .returned (.int .i64 (regE c i : Nat)) ∧ Below B W w' ∧ KeepP W w' ∧ (regE c i = 0 → ∃ ov', VAt w' B s ov' p y ∧ OpenAt w' (B + 1) ov' (openAll (c.regs.take (i + 1))))
theorem keep_open (os : List Og) (x : Ex) : (os.filter (keepO x.b)).map (·.x) = (os.map (·.x)).filter (fun y => decide (x.b < y.e)) := by
  induction os with
  | nil => rfl
  | cons o l ih =>
    by_cases h : x.b < o.x.e
    · simp [keepO, h, ih]
    · simp [keepO, h, ih]

set_option maxRecDepth 100000 in
set_option maxHeartbeats 16000000 in
theorem vRegion {c : Cor} {s : Sv} {ov p y : Value} {B : Nat} {W : World} (hV : VAt W B s ov p y) (h : CorAt W s c) (hl2 : c.texts.length ≤ maxLen) (hT : ∀ i, i < c.texts.length → textE c i = 0)
    (i : Nat) (hi : i < c.regs.length) (hrl : c.regs.length ≤ 1000000) (hs : ∀ t ∈ c.regs, t.name.length ≤ maxLen ∧ t.ps.length ≤ maxLen ∧ ∀ q ∈ t.ps, q.1.length ≤ maxLen ∧ q.2.length ≤ maxLen)
    (hpr : ∀ j, j < i → regE c j = 0) (hop : OpenAt W (B + 1) ov (openAll (c.regs.take i))) (hol : (openAll (c.regs.take i)).length ≤ i) :
    Calls Tryz.prog 26 #[.pointer (some ⟨B, 0, none⟩), .int .i64 (i : Int)] W (RegV c s p y B i W) := by
  obtain ⟨x, hx⟩ : ∃ x, c.regs[i]? = some x := ⟨_, List.getElem?_eq_getElem hi⟩
  obtain ⟨hz1, hz2, hz3⟩ := hs x (List.mem_of_getElem? hx)
  have hro := reg_open hx hpr
  have hae : regE c i = if nameB x.name = false then 4 else if within c x.b x.e = false then 8 else if pairsE x.ps ≠ 0 then pairsE x.ps
    else if badOrder c.regs i x then 6 else if (c.regs.take i).any (crosses x) then 13 else if 40 < ((c.regs.take (i + 1)).filter (holds x)).length then 2 else 0 := by unfold regE; rw [hx]
  have hop1 : openAll (c.regs.take (i + 1)) = openR (openAll (c.regs.take i)) x := by
    rw [List.take_add_one, hx]
    exact openAll_snoc _ _
  obtain ⟨os, hos, hown⟩ := hop
  rw [← hos] at hop1 hol
  rw [List.length_map] at hol
  have hwt := fun W' (hb : Below W.heap.size W W') => withinText_any (hV.below hb) (h.x.below stays_ex hb) hl2 hT x.b x.e
  obtain ⟨-, -, -, c3, -, -, -, c7, -⟩ := hV.c
  have hBl := hV.lt
  obtain ⟨A2, cap2, hvr, hc2⟩ := h.r.form
  have hrx := h.r
  rw [hvr] at hrx c3
  obtain ⟨bk, off, rfl, hbl, hj⟩ := at_ex hrx (by omega)
  obtain ⟨mv, hmv, k0, k1, k2, k3⟩ := hj i x hx
  have hcp := fun W' (hb : Below W.heap.size W W') => checkPairs_any (hmv.below stays_pair hb) hz2 hz3
  obtain ⟨Am, cm, hmf, -⟩ := hmv.form
  obtain ⟨lm, hlm⟩ : ∃ lm, x.ps.length = lm := ⟨_, rfl⟩
  rw [hlm] at hmf
  subst hmf
  have hbo : i = 0 → badOrder c.regs i x = false := fun e => by unfold badOrder; simp [e]
  have hprev : ∀ m : Nat, i = m + 1 → ∃ (nb : ByteArray) (pb pe : Int) (pA : Option Addr) (pl pc : Nat) (z : Int), W.cell? ⟨bk, off + m * 4, none⟩ = some (.string nb) ∧ W.cell? ⟨bk, off + m * 4 + 1, none⟩ = some (.int .i64 pb) ∧ W.cell? ⟨bk, off + m * 4 + 2, none⟩ = some (.int .i64 pe) ∧ W.cell? ⟨bk, off + m * 4 + 3, none⟩ = some (.slice pA pl pc) ∧ badOrder c.regs i x = decide (0 < z) ∧
      ∀ W', Below W.heap.size W W' → Calls Tryz.prog 58 #[.agg #[.string nb, .int .i64 pb, .int .i64 pe, .slice pA pl pc], .agg #[.string ⟨x.name.toArray⟩, .int .i64 x.b, .int .i64 x.e, .slice Am lm cm]] W' fun e w' => e = .returned (.int .i64 z) ∧ Below W'.heap.size W' w' := by
    intro m hm
    obtain ⟨z, hz⟩ : ∃ z, c.regs[m]? = some z := ⟨_, List.getElem?_eq_getElem (by omega)⟩
    obtain ⟨pv, hpv, e0, e1, e2, e3⟩ := hj m z hz
    obtain ⟨pA, pc, hpf, -⟩ := hpv.form
    subst hpf
    refine ⟨_, _, _, pA, _, pc, cmpR z x, e0, e1, e2, e3, ?_, fun W' hb => ?_⟩
    · unfold badOrder
      rw [hm, Nat.add_sub_cancel, hz]
      simp
    · have := compareRegions_any z x (.slice pA z.ps.length pc) (.slice (some ⟨0, 0, none⟩) 0 0) (hpv.below stays_pair hb)
      exact compareRegions_any z x _ _ (hpv.below stays_pair hb) (hmv.below stays_pair hb) (hs z (List.mem_of_getElem? hz)).2.1 hz2
  obtain ⟨P, hP⟩ : ∃ s : ByteArray, (⟨x.name.toArray⟩ : ByteArray) = s := ⟨_, rfl⟩
  have hPl : P.data.toList = x.name := by rw [← hP]
  have hvn := fun W => validName_any P (by rw [Lib.size_eq, hPl]; exact hz1) W
  rw [hPl] at hvn
  rw [hP] at k0
  obtain ⟨a, ha⟩ : ∃ a, nameB x.name = a := ⟨_, rfl⟩
  obtain ⟨q, hq⟩ : ∃ q, within c x.b x.e = q := ⟨_, rfl⟩
  obtain ⟨z, hz⟩ : ∃ z, pairsE x.ps = z := ⟨_, rfl⟩
  obtain ⟨bo, hbo1⟩ : ∃ bo, badOrder c.regs i x = bo := ⟨_, rfl⟩
  have hw' : q = true → x.b < x.e := fun e => within_pos (hq.trans e)
  rw [ha] at hae hvn
  rw [hq] at hae hwt
  rw [hz] at hae hcp
  rw [hbo1] at hae hro hbo
  simp only [hbo1, hP] at hprev
  obtain ⟨r0, hr0⟩ : ∃ r0, regE c i = r0 := ⟨_, rfl⟩
  have hgoal : RegV c s p y B i W = fun r w' => r = .returned (.int .i64 (r0 : Nat)) ∧ Below B W w' ∧ KeepP W w' ∧ (r0 = 0 → ∃ ov', VAt w' B s ov' p y ∧ OpenAt w' (B + 1) ov' (openAll (c.regs.take (i + 1)))) := by
    funext r w'
    unfold RegV
    rw [hr0]
  rw [hgoal]
  rw [hr0] at hae
  obtain ⟨n, hn⟩ : ∃ n, c.regs.length = n := ⟨_, rfl⟩
  rw [hn] at c3 hi hrl
  obtain ⟨xb, hxb⟩ : ∃ xb, x.b = xb := ⟨_, rfl⟩
  obtain ⟨xe, hxe⟩ : ∃ xe, x.e = xe := ⟨_, rfl⟩
  rw [hxb] at k1
  rw [hxe] at k2
  rw [hxb, hxe] at hwt
  simp only [hxb, hxe] at hprev
  have hlt : (i : Int) < (n : Int) := by omega
  obtain ⟨X, hX⟩ : ∃ X, W.alloc (.cells #[.string P, .int .i64 xb, .int .i64 xe, .slice Am lm cm] 101) = X := ⟨_, rfl⟩
  have hbX : Below W.heap.size W X := by rw [← hX]; exact below_box W _
  obtain ⟨N0, hN0⟩ : ∃ N0, W.heap.size = N0 := ⟨_, rfl⟩
  have hRX : X.heap[N0]? = some (.cells #[.string P, .int .i64 xb, .int .i64 xe, .slice Am lm cm] 101 (0, 0)) := by rw [← hX, ← hN0]; exact block_new W _
  have g0 := cell_of (i := 0) hRX rfl
  have g1 := cell_of (i := 1) hRX rfl
  have g2 := cell_of (i := 2) hRX rfl
  have g3 := cell_of (i := 3) hRX rfl
  have hX7 : X.cell? ⟨B, 3, none⟩ = some (.slice (some ⟨bk, off, none⟩) n cap2) := (hbX.cell hBl).trans c3
  have HX := Lib.hid hX
  have HN0 := Lib.hid hN0
  have HBX := Lib.hid hbX
  have HRX := Lib.hid hRX
  have HVX := Lib.hid (hV.below hbX)
  have HOX := Lib.hid (own_after hown hbX)
  have HOL := Lib.hid (fun k (h : ov.ownBlock = some k) => hN0 ▸ (own_low hown k h))
  have HVN := Lib.hid hvn
  have HWT := Lib.hid hwt
  have HCP := Lib.hid hcp
  have HPV := Lib.hid hprev
  have HBO := Lib.hid hbo
  have HRO := Lib.hid hro
  have HAE := Lib.hid hae
  have HOP := Lib.hid hop1
  have HW' := Lib.hid hw'
  have HBL := Lib.hid hBl
  have HC3 := Lib.hid c3
  have HXB := Lib.hid hxb
  have HXE := Lib.hid hxe
  have HP := Lib.hid hP
  have HBK := Lib.hid hbl
  have HNC : Hid (n ≤ cap2) := Lib.hid (by rw [← hn]; exact hc2)
  clear hvn hwt hcp hprev hbo hro hae hop1 hw' hxb hxe hX hbX hN0 hRX hown hx hj hmv hrx hP hPl hq hz ha hbo1 hr0 hn hgoal h hV hos hlm hz1 hz2 hz3 hs hpr hbl hvr hc2
  go_enter Tryz.func26, Tryz.ntmps26
  go_wp2_with fail
  rw [HX.out, HN0.out]
  clear k0 k1 k2 k3 c3 c7
  go_wp2_with fail
  refine (HVN.out _).mono ?_
  rintro e w1 ⟨rfl, rfl⟩
  cases a with
  | false =>
    go_wp2_with fail
    go_ret
    exact ⟨by rw [HAE.out]; rfl, HBX.out.mono (by have := HN0.out; have := HBL.out; omega), keep_below HBX.out, fun h => by rw [HAE.out] at h; cases h⟩
  | true =>
    go_wp2_with fail
    refine (HWT.out _ HBX.out).mono ?_
    rintro e w2 ⟨rfl, hb2⟩
    have HB2 := Lib.hid (HBX.out.trans (hb2.mono HBX.out.size))
    have HR2 := Lib.hid (block_below HRX.out hb2 (Array.getElem?_eq_some_iff.1 HRX.out).1)
    have HV2 := Lib.hid (HVX.out.below hb2)
    have HO2 := Lib.hid (own_after HOX.out hb2)
    clear hb2 g0 g1 g2 g3 hX7
    cases q with
    | false =>
      go_wp2_with fail
      go_ret
      exact ⟨by rw [HAE.out]; rfl, HB2.out.mono (by have := HN0.out; have := HBL.out; omega), keep_below HB2.out, fun h => by rw [HAE.out] at h; cases h⟩
    | true =>
      have HXX : Hid (xb < xe) := Lib.hid (by rw [← HXB.out, ← HXE.out]; exact HW'.out rfl)
      have g3 := cell_of (i := 3) HR2.out rfl
      go_wp2_with fail
      refine (HCP.out _ HB2.out).mono ?_
      rintro e w3 ⟨rfl, hb3⟩
      have HB3 := Lib.hid (HB2.out.trans (hb3.mono HB2.out.size))
      have HR3 := Lib.hid (block_below HR2.out hb3 (Array.getElem?_eq_some_iff.1 HR2.out).1)
      have HV3 := Lib.hid (HV2.out.below hb3)
      have HO3 := Lib.hid (own_after HO2.out hb3)
      clear hb3 g3
      by_cases h0 : z = 0
      · subst h0
        rcases Nat.eq_zero_or_pos i with hi0 | hi0
        · have hbf := HBO.out hi0
          subst hi0
          subst hbf
          go_wp2_with fail
          go_quiet (fail)
          obtain ⟨w4, hw4⟩ : ∃ w4, w3.drewN nq = w4 := ⟨_, rfl⟩
          rw [hw4]
          have HB4 := Lib.hid (show Below W.heap.size W w4 from hw4 ▸ below_drewN HB3.out _)
          have HR4 := Lib.hid (show w4.heap[N0]? = some (.cells #[.string P, .int .i64 xb, .int .i64 xe, .slice Am lm cm] 101 (0, 0)) from hw4 ▸ HR3.out)
          have HV4 := Lib.hid (show VAt w4 B s ov p y from hw4 ▸ HV3.out)
          have HO4 := Lib.hid (show w4.ownsRow (B + 1) 101 4 ov os.length (os.flatMap encO) from hw4 ▸ HO3.out)
          clear hw4
          obtain ⟨-, -, -, d3, -, -, -, d7, -⟩ := HV4.out.c
          obtain ⟨va, vt, vx, vr, vn, vh, vl⟩ := s
          have HDF := Lib.hid (deleteFunc_any HO4.out (by omega) xb N0 (Array.getElem?_eq_some_iff.1 HR4.out).1 (fun e => by have := (HOL.out N0 e).2; omega) (cell_of (i := 1) HR4.out rfl))
          obtain ⟨oA, oc, hov, hoc⟩ := own_form HO4.out
          subst hov
          go_wp2_with fail
          refine HDF.out.mono ?_
          rintro e w5 ⟨⟨v5, rfl, hown5, hob5⟩, hg5⟩
          obtain ⟨m5, hm5⟩ : ∃ m5, (os.filter (keepO xb)).length = m5 := ⟨_, rfl⟩
          have hm5l : m5 ≤ 1000000 := by have := List.length_filter_le (keepO xb) os; omega
          rw [hm5] at hown5
          obtain ⟨A5, c5, hv5, hc5⟩ := own_form hown5
          subst hv5
          have hBr : some B ≠ (Value.slice oA os.length oc).ownBlock := fun e => by have := (HOL.out B e.symm).1; omega
          have hNr : some N0 ≠ (Value.slice oA os.length oc).ownBlock := fun e => by have := (HOL.out N0 e.symm).2; omega
          have hV5 : VAt w5 B ⟨va, vt, vx, vr, vn, vh, vl⟩ (.slice oA os.length oc) p y := (hg5.block B HV4.out.lt hBr).trans HV4.out
          have hR5 : w5.heap[N0]? = some (.cells #[.string P, .int .i64 xb, .int .i64 xe, .slice Am lm cm] 101 (0, 0)) := (hg5.block N0 (Array.getElem?_eq_some_iff.1 HR4.out).1 hNr).trans HR4.out
          have hB5 : Below B W w5 := (HB4.out.mono (by have := HN0.out; have := HBL.out; omega)).trans (below_of_grown hg5 (by have := HV4.out.lt; omega) (fun k e => by have := (HOL.out k e).1; omega))
          obtain ⟨w6, hw6⟩ : ∃ w6, w5.setCell ⟨B, 7, none⟩ (.slice A5 m5 c5) = w6 := ⟨_, rfl⟩
          have hV6 : VAt w6 B ⟨va, vt, vx, vr, vn, vh, vl⟩ (.slice A5 m5 c5) p y := by rw [← hw6]; exact set_of hV5 _
          have hR6 : w6.heap[N0]? = some (.cells #[.string P, .int .i64 xb, .int .i64 xe, .slice Am lm cm] 101 (0, 0)) := by rw [← hw6]; exact block_other _ hR5 (by have := HBL.out; have := HN0.out; omega)
          have hO6 : w6.ownsRow (B + 1) 101 4 (.slice A5 m5 c5) m5 ((os.filter (keepO xb)).flatMap encO) := by rw [← hw6]; exact ownsRow_setCell_below hown5 (by show B < B + 1; omega) _
          have hB6 : Below B W w6 := by
            rw [← hw6]
            exact hB5.trans ⟨rfl, rfl, rfl, by simp [World.setCell], fun k hk => Below.heap_setCell _ _ _ k (by show k ≠ B; omega)⟩
          have e7 : w5.cell? ⟨B, 7, none⟩ = some (.slice oA os.length oc) := cell_of hV5 rfl
          have f7 : w5.frozen? ⟨B, 7, none⟩ = false := frozen_of hV5
          have HK6 := Lib.hid (show KeepP W w6 from hw6 ▸ ((keep_below HB4.out).trans (keep_grown hg5 (own_typed HO4.out (by decide)))).trans (keep_set hV5))
          have HW6 := Lib.hid hw6
          have HV6 := Lib.hid hV6
          have HR6 := Lib.hid hR6
          have HO6 := Lib.hid hO6
          have HB6 := Lib.hid hB6
          have HM5 := Lib.hid hm5
          have HOB5 := Lib.hid (show some B ≠ (Value.slice A5 m5 c5).ownBlock from fun e => by have := (own_low hO6 B e.symm).1; omega)
          have HOL5 := Lib.hid (show some N0 ≠ (Value.slice A5 m5 c5).ownBlock from by rw [hob5]; exact hNr)
          have HEO := Lib.hid (encO_one ⟨⟨x.name, xb, xe, x.ps⟩, Am, lm, cm⟩)
          unfold encO at HEO
          simp only [HP.out] at HEO
          clear hown5 hob5 hg5 hm5 hBr hNr hV5 hR5 hB5 hw6 hV6 hR6 hO6 hB6 d3 d7
          go_wp2_with fail
          rw [HW6.out]
          clear e7 f7
          have s7 : w6.cell? ⟨B, 7, none⟩ = some (.slice A5 m5 c5) := cell_of HV6.out rfl
          have r0' : w6.cell? ⟨N0, 0, none⟩ = some (.string P) := cell_of HR6.out rfl
          have r1 : w6.cell? ⟨N0, 1, none⟩ = some (.int .i64 xb) := cell_of HR6.out rfl
          have r2 : w6.cell? ⟨N0, 2, none⟩ = some (.int .i64 xe) := cell_of HR6.out rfl
          have r3 : w6.cell? ⟨N0, 3, none⟩ = some (.slice Am lm cm) := cell_of HR6.out rfl
          obtain ⟨i0, hin, hz0, hz1, hz2⟩ := info_parts' Tryz.infoReg
          have hBs := HV6.out.lt
          have s7d : w6.drew.cell? ⟨B, 7, none⟩ = some (.slice A5 m5 c5) := s7
          have r0d : w6.drew.cell? ⟨N0, 0, none⟩ = some (.string P) := r0'
          have r1d : w6.drew.cell? ⟨N0, 1, none⟩ = some (.int .i64 xb) := r1
          have r2d : w6.drew.cell? ⟨N0, 2, none⟩ = some (.int .i64 xe) := r2
          have r3d : w6.drew.cell? ⟨N0, 3, none⟩ = some (.slice Am lm cm) := r3
          have s7a : (w6.drew.alloc (.cells #[.string P, .int .i64 xb, .int .i64 xe, .slice Am lm cm] 101)).cell? ⟨B, 7, none⟩ = some (.slice A5 m5 c5) := Lib.cell?_alloc_some _ s7d
          refine wp_region_any (by kernel_rfl) ?_
          change wpAny _ _ _ _ _ _ _ (World.drew _)
          refine wpAny_take (i := 0) (oi := ?oi1) (v := ?v1) ?hi1 (by kernel_rfl) (by kernel_rfl) (by kernel_rfl) ?hq1 ?hy1 ?hr1
          case hi1 => (simp only [List.getElem?_toArray, List.getElem?_cons_zero]; rfl)
          case hq1 => exact fun _ _ _ h => h
          case hy1 => exact Or.inl ⟨by rfl, by intro w; (first | (go_simp; done) | (go_simp; with_reducible rfl))⟩
          try simp only [Act.put, List.setIfInBounds_toArray, List.set_cons_zero, List.set_cons_succ]
          refine wpAny_take (i := 1) (oi := ?oi2) (v := ?v2) ?hi2 (by kernel_rfl) (by kernel_rfl) (by kernel_rfl) ?hq2 ?hy2 ?hr2
          case hi2 => (simp only [List.getElem?_toArray, List.getElem?_cons_succ, List.getElem?_cons_zero]; rfl)
          case hq2 => exact fun _ _ _ h => h
          case hy2 => exact Or.inl ⟨by rfl, by intro w; (first | (go_simp; done) | (go_simp; with_reducible rfl))⟩
          try simp only [Act.put, List.setIfInBounds_toArray, List.set_cons_zero, List.set_cons_succ]
          refine wpAny_take (i := 2) (oi := ?oi3) (v := ?v3) ?hi3 (by kernel_rfl) (by kernel_rfl) (by kernel_rfl) ?hq3 ?hy3 ?hr3
          case hi3 => (simp only [List.getElem?_toArray, List.getElem?_cons_succ, List.getElem?_cons_zero]; rfl)
          case hq3 => exact fun _ _ _ h => h
          case hy3 => exact Or.inl ⟨by rfl, by intro w; (first | (go_simp; done) | (go_simp; with_reducible rfl))⟩
          try simp only [Act.put, List.setIfInBounds_toArray, List.set_cons_zero, List.set_cons_succ]
          refine wpAny_take (i := 3) (oi := ?oi4) (v := ?v4) ?hi4 (by kernel_rfl) (by kernel_rfl) (by kernel_rfl) ?hq4 ?hy4 ?hr4
          case hi4 => (simp only [List.getElem?_toArray, List.getElem?_cons_succ, List.getElem?_cons_zero]; rfl)
          case hq4 => exact fun _ _ _ h => h
          case hy4 => exact Or.inl ⟨by rfl, by intro w; (first | (go_simp; done) | (go_simp; with_reducible rfl))⟩
          try simp only [Act.put, List.setIfInBounds_toArray, List.set_cons_zero, List.set_cons_succ]
          refine wpAny_ready (rs := [4, 5]) (by kernel_rfl) (by simp) ?_
          refine AllReady.cons (o := ?oo5) ?hi5 (fun K hK => ?hs5) ?hm5
          case hi5 => (simp only [List.getElem?_toArray, List.getElem?_cons_succ, List.getElem?_cons_zero]; rfl)
          · go_simp
            refine hK _ _ ?_; clear hK K
            try simp only [Act.put, List.setIfInBounds_toArray, List.set_cons_zero, List.set_cons_succ]
            refine wpAny_ready (rs := [5]) (by kernel_rfl) (by simp) ?_
            refine AllReady.cons (o := ?oo6) ?hi6 (fun K hK => ?hs6) ?hm6
            case hi6 => (simp only [List.getElem?_toArray, List.getElem?_cons_succ, List.getElem?_cons_zero]; rfl)
            · go_simp
              refine hK _ _ ?_; clear hK K
              try simp only [Act.put, List.setIfInBounds_toArray, List.set_cons_zero, List.set_cons_succ]
              refine wpAny_ready (rs := [6]) (by kernel_rfl) (by simp) ?_
              refine AllReady.cons (o := ?oo7) ?hi7 (fun K hK => ?hs7) ?hm7
              case hi7 => (simp only [List.getElem?_toArray, List.getElem?_cons_succ, List.getElem?_cons_zero]; rfl)
              · go_simp
                refine hK _ _ ?_; clear hK K
                try simp only [Act.put, List.setIfInBounds_toArray, List.set_cons_zero, List.set_cons_succ]
                refine wpAny_ready (rs := [7]) (by kernel_rfl) (by simp) ?_
                refine AllReady.cons (o := ?oo8) ?hi8 (fun K hK => ?hs8) ?hm8
                case hi8 => (simp only [List.getElem?_toArray, List.getElem?_cons_succ, List.getElem?_cons_zero]; rfl)
                · refine step_append_own (by rfl) (.tmp 63) (.tmp 65) 32 (by rfl) (B + 1) 101 i0 _ 4 56 Tryz.underlying32 hin hz0 hz1 hz2 (by rfl) (by decide) _ m5 _ (by rfl) (World.ownsRow.alloc (w := w6.drew) HO6.out _) _ 1 1 [.string P, .int .i64 xb, .int .i64 xe, .slice Am lm cm] (by rfl) (by rfl) (news_at _ _ _) (HEO.out) (by unfold maxLen; omega) (by omega) (by have : B < w6.drew.heap.size := hBs; simp; omega) ?_
                  intro v7 w7 hown7 hg7
                  obtain ⟨A7, c7, hv7, hc7⟩ := own_form hown7
                  subst hv7
                  have hV7 : VAt w7 B ⟨va, vt, vx, vr, vn, vh, vl⟩ (.slice A5 m5 c5) p y := v_kept (w := w6.drew) HV6.out HOB5.out hg7
                  have hR7 : w7.heap[N0]? = some (.cells #[.string P, .int .i64 xb, .int .i64 xe, .slice Am lm cm] 101 (0, 0)) := by
                    have h1 := block_alloc (W := w6.drew) (.cells #[.string P, .int .i64 xb, .int .i64 xe, .slice Am lm cm] 101) HR6.out
                    exact (hg7.block N0 (Array.getElem?_eq_some_iff.1 h1).1 HOL5.out).trans h1
                  have hB7 : Below B W w7 := (((HB6.out.drew).alloc (by have : B < w6.drew.heap.size := hBs; omega) _).grown hg7 (by have : B < w6.drew.heap.size := hBs; simp; omega) (fun k e => by have := (own_low HO6.out k e).1; omega))
                  have e7 : w7.cell? ⟨B, 7, none⟩ = some (.slice A5 m5 c5) := cell_of hV7 rfl
                  have f7 : w7.frozen? ⟨B, 7, none⟩ = false := frozen_of hV7
                  have HK7 := Lib.hid (show KeepP W w7 from (HK6.out.trans (keep_below (w' := w6.drew.alloc (.cells #[.string P, .int .i64 xb, .int .i64 xe, .slice Am lm cm] 101)) ((Below.refl _ w6).drew.alloc (Nat.le_refl _) _))).trans (keep_grown hg7 (own_typed (World.ownsRow.alloc (w := w6.drew) HO6.out _) (by decide))))
                  have HOWN7 := Lib.hid hown7
                  have HV7 := Lib.hid hV7
                  have HR7 := Lib.hid hR7
                  have HB7 := Lib.hid hB7
                  clear hown7 hg7 hV7 hR7 hB7 s7 s7d s7a r0' r1 r2 r3 r0d r1d r2d r3d
                  refine hK _ _ ?_; clear hK K
                  try simp only [Act.put, List.setIfInBounds_toArray, List.set_cons_zero, List.set_cons_succ]
                  refine wpAny_take (i := 8) (oi := ?oi9) (v := ?v9) ?hi9 (by kernel_rfl) (by kernel_rfl) (by kernel_rfl) ?hq9 ?hy9 ?hr9
                  case hi9 => (simp only [List.getElem?_toArray, List.getElem?_cons_succ, List.getElem?_cons_zero]; rfl)
                  case hq9 => exact fun _ _ _ h => h
                  case hy9 => exact Or.inl ⟨by rfl, by intro w; (first | (go_simp; done) | (go_simp; with_reducible rfl))⟩
                  try simp only [Act.put, List.setIfInBounds_toArray, List.set_cons_zero, List.set_cons_succ]
                  refine wpAny_take (i := 9) (oi := ?oi10) (v := ?v10) ?hi10 (by kernel_rfl) (by kernel_rfl) (by kernel_rfl) ?hq10 ?hy10 ?hr10
                  case hi10 => (simp only [List.getElem?_toArray, List.getElem?_cons_succ, List.getElem?_cons_zero]; rfl)
                  case hq10 => exact fun _ _ _ h => h
                  case hy10 => exact Or.inl ⟨by rfl, by intro w; (first | (go_simp; done) | (go_simp; with_reducible rfl))⟩
                  try simp only [Act.put, List.setIfInBounds_toArray, List.set_cons_zero, List.set_cons_succ]
                  refine wpAny_ready (rs := [10]) (by kernel_rfl) (by simp) ?_
                  refine AllReady.cons (o := ?oo11) ?hi11 (fun K hK => ?hs11) ?hm11
                  case hi11 => (simp only [List.getElem?_toArray, List.getElem?_cons_succ, List.getElem?_cons_zero]; rfl)
                  · go_simp
                    refine hK _ _ ?_; clear hK K
                    try simp only [Act.put, List.setIfInBounds_toArray, List.set_cons_zero, List.set_cons_succ]
                    refine wpAny_done (by kernel_rfl) ?_ _
                    have hown7 := HOWN7.out
                    have hV7 := HV7.out
                    have hR7 := HR7.out
                    have hB7 := HB7.out
                    obtain ⟨w8, hw8⟩ : ∃ w8, w7.setCell ⟨B, 7, none⟩ (.slice A7 (m5 + 1) c7) = w8 := ⟨_, rfl⟩
                    have hV8 : VAt w8 B ⟨va, vt, vx, vr, vn, vh, vl⟩ (.slice A7 (m5 + 1) c7) p y := by rw [← hw8]; exact set_of hV7 _
                    have hR8 : w8.heap[N0]? = some (.cells #[.string P, .int .i64 xb, .int .i64 xe, .slice Am lm cm] 101 (0, 0)) := by rw [← hw8]; exact block_other _ hR7 (by have := HBL.out; have := HN0.out; omega)
                    have hO8 : w8.ownsRow (B + 1) 101 4 (.slice A7 (m5 + 1) c7) (m5 + 1) ((os.filter (keepO xb)).flatMap encO ++ [.string P, .int .i64 xb, .int .i64 xe, .slice Am lm cm]) := by rw [← hw8]; exact ownsRow_setCell_below hown7 (by show B < B + 1; omega) _
                    have hB8 : Below B W w8 := by
                      rw [← hw8]
                      exact hB7.trans ⟨rfl, rfl, rfl, by simp [World.setCell], fun k hk => Below.heap_setCell _ _ _ k (by show k ≠ B; omega)⟩
                    -- the new open regions
                    have hos2 : ((os.filter (keepO xb)) ++ [(⟨x, Am, lm, cm⟩ : Og)]).map (·.x) = openAll (c.regs.take (0 + 1)) := by
                      rw [HOP.out, List.map_append, ← HXB.out, keep_open]
                      rfl
                    have hfl : (os.filter (keepO xb)).flatMap encO ++ [.string P, .int .i64 xb, .int .i64 xe, .slice Am lm cm] = ((os.filter (keepO xb)) ++ [(⟨x, Am, lm, cm⟩ : Og)]).flatMap encO := by
                      rw [List.flatMap_append, List.flatMap_singleton]
                      unfold encO
                      rw [HP.out, HXB.out, HXE.out]
                    have hlen : ((os.filter (keepO xb)) ++ [(⟨x, Am, lm, cm⟩ : Og)]).length = m5 + 1 := by rw [List.length_append, HM5.out]; rfl
                    obtain ⟨os2, hos2'⟩ : ∃ os2, ((os.filter (keepO xb)) ++ [(⟨x, Am, lm, cm⟩ : Og)]) = os2 := ⟨_, rfl⟩
                    rw [hos2'] at hos2 hfl hlen
                    rw [hfl, ← hlen] at hO8
                    obtain ⟨t1, t2⟩ := HRO.out (by rw [HXB.out, HXE.out]; exact HXX.out) (by first | rfl | trivial)
                    have hcn := containsFunc_reg stays_og (rows_of_own encO_len hO8) (by unfold maxLen; omega) 62 #[.pointer (some ⟨N0, 0, none⟩)] (enters_of Tryz.func62 (by kernel_rfl) rfl) (fun o => decide (o.x.name = x.name) && decide (o.x.e < x.e)) (by
                      intro W' o u0 u1 u2 u3 hW' _ hE
                      have hE : [u0, u1, u2, u3] = encO o := hE
                      have := region2_any o x N0 (.slice Am lm cm) W' (by rw [HP.out, HXB.out, HXE.out]; exact block_below hR8 hW' (Array.getElem?_eq_some_iff.1 hR8).1)
                      rw [← hE] at this
                      exact this)
                    have hany : os2.any (fun o => decide (o.x.name = x.name) && decide (o.x.e < x.e)) = (c.regs.take 0).any (crosses x) := by
                      rw [← t2, ← hos2, List.any_map]
                      rfl
                    rw [hany, hlen] at hcn
                    have hdeep : ((c.regs.take (0 + 1)).filter (holds x)).length = m5 + 1 := by rw [← t1, ← hos2, List.length_map, hlen]
                    rw [hlen] at hO8
                    have HAE2 := Lib.hid (HAE.out)
                    have hae2 : r0 = if (c.regs.take 0).any (crosses x) then 13 else if 40 < m5 + 1 then 2 else 0 := by
                      rw [HAE.out, hdeep]
                      rfl
                    obtain ⟨cr, hcr⟩ : ∃ cr, (c.regs.take 0).any (crosses x) = cr := ⟨_, rfl⟩
                    rw [hcr] at hcn hae2
                    have HCN := Lib.hid hcn
                    have HA2 := Lib.hid hae2
                    have HK8 := Lib.hid (show KeepP W w8 from hw8 ▸ HK7.out.trans (keep_set hV7))
                    have HW8 := Lib.hid hw8
                    have HV8 := Lib.hid hV8
                    have HO8 := Lib.hid hO8
                    have HB8 := Lib.hid hB8
                    have HOS2 := Lib.hid hos2
                    have HLEN := Lib.hid hlen
                    clear hown7 hV7 hR7 hB7 hw8 hV8 hR8 hO8 hB8 hos2 hfl hos2' t1 t2 hcn hany hdeep hcr hae2 hlen hBs
                    rw [HW8.out]
                    clear e7 f7
                    have s7 : w8.cell? ⟨B, 7, none⟩ = some (.slice A7 (m5 + 1) c7) := cell_of HV8.out rfl
                    go_wp2_with fail
                    refine HCN.out.mono ?_
                    rintro e w9 ⟨rfl, hb9⟩
                    have HV9 := Lib.hid (HV8.out.below hb9)
                    have HO9 := Lib.hid (own_after HO8.out hb9)
                    have HB9 := Lib.hid (HB8.out.trans (hb9.mono (by have := HV8.out.lt; omega)))
                    have HK9 := Lib.hid (HK8.out.trans (keep_below hb9))
                    have s9 : w9.cell? ⟨B, 7, none⟩ = some (.slice A7 (m5 + 1) c7) := cell_of HV9.out rfl
                    clear hb9 s7
                    cases cr with
                    | true =>
                      go_wp2_with fail
                      go_ret
                      exact ⟨by rw [HA2.out]; rfl, HB9.out, HK9.out, fun h => by rw [HA2.out] at h; cases h⟩
                    | false =>
                      by_cases h40 : 40 < m5 + 1
                      · have hr2 : Hid (r0 = 2) := Lib.hid (by rw [HA2.out, if_neg (by decide), if_pos h40])
                        have h40i : (40 : Int) < (m5 : Int) + 1 := by omega
                        go_wp2_with fail
                        go_ret
                        exact ⟨by rw [hr2.out]; rfl, HB9.out, HK9.out, fun h => by rw [hr2.out] at h; cases h⟩
                      · have hr2 : Hid (r0 = 0) := Lib.hid (by rw [HA2.out, if_neg (by decide), if_neg h40])
                        have h40i : ¬ (40 : Int) < (m5 : Int) + 1 := by omega
                        go_wp2_with fail
                        go_ret
                        exact ⟨by rw [hr2.out]; rfl, HB9.out, HK9.out, fun _ => ⟨_, HV9.out, os2, HOS2.out, by rw [HLEN.out]; exact HO9.out⟩⟩
                  exact AllReady.nil
                exact AllReady.nil
              exact AllReady.nil
            exact AllReady.nil
          refine AllReady.cons (o := ?oo12) ?hi12 (fun K hK => ?hs12) ?hm12
          case hi12 => (simp only [List.getElem?_toArray, List.getElem?_cons_succ, List.getElem?_cons_zero]; rfl)
          · go_simp
            refine hK _ _ ?_; clear hK K
            try simp only [Act.put, List.setIfInBounds_toArray, List.set_cons_zero, List.set_cons_succ]
            refine wpAny_ready (rs := [4, 6]) (by kernel_rfl) (by simp) ?_
            refine AllReady.cons (o := ?oo13) ?hi13 (fun K hK => ?hs13) ?hm13
            case hi13 => (simp only [List.getElem?_toArray, List.getElem?_cons_succ, List.getElem?_cons_zero]; rfl)
            · go_simp
              refine hK _ _ ?_; clear hK K
              try simp only [Act.put, List.setIfInBounds_toArray, List.set_cons_zero, List.set_cons_succ]
              refine wpAny_ready (rs := [6]) (by kernel_rfl) (by simp) ?_
              refine AllReady.cons (o := ?oo14) ?hi14 (fun K hK => ?hs14) ?hm14
              case hi14 => (simp only [List.getElem?_toArray, List.getElem?_cons_succ, List.getElem?_cons_zero]; rfl)
              · go_simp
                refine hK _ _ ?_; clear hK K
                try simp only [Act.put, List.setIfInBounds_toArray, List.set_cons_zero, List.set_cons_succ]
                refine wpAny_ready (rs := [7]) (by kernel_rfl) (by simp) ?_
                refine AllReady.cons (o := ?oo15) ?hi15 (fun K hK => ?hs15) ?hm15
                case hi15 => (simp only [List.getElem?_toArray, List.getElem?_cons_succ, List.getElem?_cons_zero]; rfl)
                · refine step_append_own (by rfl) (.tmp 63) (.tmp 65) 32 (by rfl) (B + 1) 101 i0 _ 4 56 Tryz.underlying32 hin hz0 hz1 hz2 (by rfl) (by decide) _ m5 _ (by rfl) (World.ownsRow.alloc (w := w6.drew) HO6.out _) _ 1 1 [.string P, .int .i64 xb, .int .i64 xe, .slice Am lm cm] (by rfl) (by rfl) (news_at _ _ _) (HEO.out) (by unfold maxLen; omega) (by omega) (by have : B < w6.drew.heap.size := hBs; simp; omega) ?_
                  intro v7 w7 hown7 hg7
                  obtain ⟨A7, c7, hv7, hc7⟩ := own_form hown7
                  subst hv7
                  have hV7 : VAt w7 B ⟨va, vt, vx, vr, vn, vh, vl⟩ (.slice A5 m5 c5) p y := v_kept (w := w6.drew) HV6.out HOB5.out hg7
                  have hR7 : w7.heap[N0]? = some (.cells #[.string P, .int .i64 xb, .int .i64 xe, .slice Am lm cm] 101 (0, 0)) := by
                    have h1 := block_alloc (W := w6.drew) (.cells #[.string P, .int .i64 xb, .int .i64 xe, .slice Am lm cm] 101) HR6.out
                    exact (hg7.block N0 (Array.getElem?_eq_some_iff.1 h1).1 HOL5.out).trans h1
                  have hB7 : Below B W w7 := (((HB6.out.drew).alloc (by have : B < w6.drew.heap.size := hBs; omega) _).grown hg7 (by have : B < w6.drew.heap.size := hBs; simp; omega) (fun k e => by have := (own_low HO6.out k e).1; omega))
                  have e7 : w7.cell? ⟨B, 7, none⟩ = some (.slice A5 m5 c5) := cell_of hV7 rfl
                  have f7 : w7.frozen? ⟨B, 7, none⟩ = false := frozen_of hV7
                  have HK7 := Lib.hid (show KeepP W w7 from (HK6.out.trans (keep_below (w' := w6.drew.alloc (.cells #[.string P, .int .i64 xb, .int .i64 xe, .slice Am lm cm] 101)) ((Below.refl _ w6).drew.alloc (Nat.le_refl _) _))).trans (keep_grown hg7 (own_typed (World.ownsRow.alloc (w := w6.drew) HO6.out _) (by decide))))
                  have HOWN7 := Lib.hid hown7
                  have HV7 := Lib.hid hV7
                  have HR7 := Lib.hid hR7
                  have HB7 := Lib.hid hB7
                  clear hown7 hg7 hV7 hR7 hB7 s7 s7d s7a r0' r1 r2 r3 r0d r1d r2d r3d
                  refine hK _ _ ?_; clear hK K
                  try simp only [Act.put, List.setIfInBounds_toArray, List.set_cons_zero, List.set_cons_succ]
                  refine wpAny_take (i := 8) (oi := ?oi16) (v := ?v16) ?hi16 (by kernel_rfl) (by kernel_rfl) (by kernel_rfl) ?hq16 ?hy16 ?hr16
                  case hi16 => (simp only [List.getElem?_toArray, List.getElem?_cons_succ, List.getElem?_cons_zero]; rfl)
                  case hq16 => exact fun _ _ _ h => h
                  case hy16 => exact Or.inl ⟨by rfl, by intro w; (first | (go_simp; done) | (go_simp; with_reducible rfl))⟩
                  try simp only [Act.put, List.setIfInBounds_toArray, List.set_cons_zero, List.set_cons_succ]
                  refine wpAny_take (i := 9) (oi := ?oi17) (v := ?v17) ?hi17 (by kernel_rfl) (by kernel_rfl) (by kernel_rfl) ?hq17 ?hy17 ?hr17
                  case hi17 => (simp only [List.getElem?_toArray, List.getElem?_cons_succ, List.getElem?_cons_zero]; rfl)
                  case hq17 => exact fun _ _ _ h => h
                  case hy17 => exact Or.inl ⟨by rfl, by intro w; (first | (go_simp; done) | (go_simp; with_reducible rfl))⟩
                  try simp only [Act.put, List.setIfInBounds_toArray, List.set_cons_zero, List.set_cons_succ]
                  refine wpAny_ready (rs := [10]) (by kernel_rfl) (by simp) ?_
                  refine AllReady.cons (o := ?oo18) ?hi18 (fun K hK => ?hs18) ?hm18
                  case hi18 => (simp only [List.getElem?_toArray, List.getElem?_cons_succ, List.getElem?_cons_zero]; rfl)
                  · go_simp
                    refine hK _ _ ?_; clear hK K
                    try simp only [Act.put, List.setIfInBounds_toArray, List.set_cons_zero, List.set_cons_succ]
                    refine wpAny_done (by kernel_rfl) ?_ _
                    have hown7 := HOWN7.out
                    have hV7 := HV7.out
                    have hR7 := HR7.out
                    have hB7 := HB7.out
                    obtain ⟨w8, hw8⟩ : ∃ w8, w7.setCell ⟨B, 7, none⟩ (.slice A7 (m5 + 1) c7) = w8 := ⟨_, rfl⟩
                    have hV8 : VAt w8 B ⟨va, vt, vx, vr, vn, vh, vl⟩ (.slice A7 (m5 + 1) c7) p y := by rw [← hw8]; exact set_of hV7 _
                    have hR8 : w8.heap[N0]? = some (.cells #[.string P, .int .i64 xb, .int .i64 xe, .slice Am lm cm] 101 (0, 0)) := by rw [← hw8]; exact block_other _ hR7 (by have := HBL.out; have := HN0.out; omega)
                    have hO8 : w8.ownsRow (B + 1) 101 4 (.slice A7 (m5 + 1) c7) (m5 + 1) ((os.filter (keepO xb)).flatMap encO ++ [.string P, .int .i64 xb, .int .i64 xe, .slice Am lm cm]) := by rw [← hw8]; exact ownsRow_setCell_below hown7 (by show B < B + 1; omega) _
                    have hB8 : Below B W w8 := by
                      rw [← hw8]
                      exact hB7.trans ⟨rfl, rfl, rfl, by simp [World.setCell], fun k hk => Below.heap_setCell _ _ _ k (by show k ≠ B; omega)⟩
                    -- the new open regions
                    have hos2 : ((os.filter (keepO xb)) ++ [(⟨x, Am, lm, cm⟩ : Og)]).map (·.x) = openAll (c.regs.take (0 + 1)) := by
                      rw [HOP.out, List.map_append, ← HXB.out, keep_open]
                      rfl
                    have hfl : (os.filter (keepO xb)).flatMap encO ++ [.string P, .int .i64 xb, .int .i64 xe, .slice Am lm cm] = ((os.filter (keepO xb)) ++ [(⟨x, Am, lm, cm⟩ : Og)]).flatMap encO := by
                      rw [List.flatMap_append, List.flatMap_singleton]
                      unfold encO
                      rw [HP.out, HXB.out, HXE.out]
                    have hlen : ((os.filter (keepO xb)) ++ [(⟨x, Am, lm, cm⟩ : Og)]).length = m5 + 1 := by rw [List.length_append, HM5.out]; rfl
                    obtain ⟨os2, hos2'⟩ : ∃ os2, ((os.filter (keepO xb)) ++ [(⟨x, Am, lm, cm⟩ : Og)]) = os2 := ⟨_, rfl⟩
                    rw [hos2'] at hos2 hfl hlen
                    rw [hfl, ← hlen] at hO8
                    obtain ⟨t1, t2⟩ := HRO.out (by rw [HXB.out, HXE.out]; exact HXX.out) (by first | rfl | trivial)
                    have hcn := containsFunc_reg stays_og (rows_of_own encO_len hO8) (by unfold maxLen; omega) 62 #[.pointer (some ⟨N0, 0, none⟩)] (enters_of Tryz.func62 (by kernel_rfl) rfl) (fun o => decide (o.x.name = x.name) && decide (o.x.e < x.e)) (by
                      intro W' o u0 u1 u2 u3 hW' _ hE
                      have hE : [u0, u1, u2, u3] = encO o := hE
                      have := region2_any o x N0 (.slice Am lm cm) W' (by rw [HP.out, HXB.out, HXE.out]; exact block_below hR8 hW' (Array.getElem?_eq_some_iff.1 hR8).1)
                      rw [← hE] at this
                      exact this)
                    have hany : os2.any (fun o => decide (o.x.name = x.name) && decide (o.x.e < x.e)) = (c.regs.take 0).any (crosses x) := by
                      rw [← t2, ← hos2, List.any_map]
                      rfl
                    rw [hany, hlen] at hcn
                    have hdeep : ((c.regs.take (0 + 1)).filter (holds x)).length = m5 + 1 := by rw [← t1, ← hos2, List.length_map, hlen]
                    rw [hlen] at hO8
                    have HAE2 := Lib.hid (HAE.out)
                    have hae2 : r0 = if (c.regs.take 0).any (crosses x) then 13 else if 40 < m5 + 1 then 2 else 0 := by
                      rw [HAE.out, hdeep]
                      rfl
                    obtain ⟨cr, hcr⟩ : ∃ cr, (c.regs.take 0).any (crosses x) = cr := ⟨_, rfl⟩
                    rw [hcr] at hcn hae2
                    have HCN := Lib.hid hcn
                    have HA2 := Lib.hid hae2
                    have HK8 := Lib.hid (show KeepP W w8 from hw8 ▸ HK7.out.trans (keep_set hV7))
                    have HW8 := Lib.hid hw8
                    have HV8 := Lib.hid hV8
                    have HO8 := Lib.hid hO8
                    have HB8 := Lib.hid hB8
                    have HOS2 := Lib.hid hos2
                    have HLEN := Lib.hid hlen
                    clear hown7 hV7 hR7 hB7 hw8 hV8 hR8 hO8 hB8 hos2 hfl hos2' t1 t2 hcn hany hdeep hcr hae2 hlen hBs
                    rw [HW8.out]
                    clear e7 f7
                    have s7 : w8.cell? ⟨B, 7, none⟩ = some (.slice A7 (m5 + 1) c7) := cell_of HV8.out rfl
                    go_wp2_with fail
                    refine HCN.out.mono ?_
                    rintro e w9 ⟨rfl, hb9⟩
                    have HV9 := Lib.hid (HV8.out.below hb9)
                    have HO9 := Lib.hid (own_after HO8.out hb9)
                    have HB9 := Lib.hid (HB8.out.trans (hb9.mono (by have := HV8.out.lt; omega)))
                    have HK9 := Lib.hid (HK8.out.trans (keep_below hb9))
                    have s9 : w9.cell? ⟨B, 7, none⟩ = some (.slice A7 (m5 + 1) c7) := cell_of HV9.out rfl
                    clear hb9 s7
                    cases cr with
                    | true =>
                      go_wp2_with fail
                      go_ret
                      exact ⟨by rw [HA2.out]; rfl, HB9.out, HK9.out, fun h => by rw [HA2.out] at h; cases h⟩
                    | false =>
                      by_cases h40 : 40 < m5 + 1
                      · have hr2 : Hid (r0 = 2) := Lib.hid (by rw [HA2.out, if_neg (by decide), if_pos h40])
                        have h40i : (40 : Int) < (m5 : Int) + 1 := by omega
                        go_wp2_with fail
                        go_ret
                        exact ⟨by rw [hr2.out]; rfl, HB9.out, HK9.out, fun h => by rw [hr2.out] at h; cases h⟩
                      · have hr2 : Hid (r0 = 0) := Lib.hid (by rw [HA2.out, if_neg (by decide), if_neg h40])
                        have h40i : ¬ (40 : Int) < (m5 : Int) + 1 := by omega
                        go_wp2_with fail
                        go_ret
                        exact ⟨by rw [hr2.out]; rfl, HB9.out, HK9.out, fun _ => ⟨_, HV9.out, os2, HOS2.out, by rw [HLEN.out]; exact HO9.out⟩⟩
                  exact AllReady.nil
                exact AllReady.nil
              exact AllReady.nil
            refine AllReady.cons (o := ?oo19) ?hi19 (fun K hK => ?hs19) ?hm19
            case hi19 => (simp only [List.getElem?_toArray, List.getElem?_cons_succ, List.getElem?_cons_zero]; rfl)
            · go_simp
              refine hK _ _ ?_; clear hK K
              try simp only [Act.put, List.setIfInBounds_toArray, List.set_cons_zero, List.set_cons_succ]
              refine wpAny_ready (rs := [4]) (by kernel_rfl) (by simp) ?_
              refine AllReady.cons (o := ?oo20) ?hi20 (fun K hK => ?hs20) ?hm20
              case hi20 => (simp only [List.getElem?_toArray, List.getElem?_cons_succ, List.getElem?_cons_zero]; rfl)
              · go_simp
                refine hK _ _ ?_; clear hK K
                try simp only [Act.put, List.setIfInBounds_toArray, List.set_cons_zero, List.set_cons_succ]
                refine wpAny_ready (rs := [7]) (by kernel_rfl) (by simp) ?_
                refine AllReady.cons (o := ?oo21) ?hi21 (fun K hK => ?hs21) ?hm21
                case hi21 => (simp only [List.getElem?_toArray, List.getElem?_cons_succ, List.getElem?_cons_zero]; rfl)
                · refine step_append_own (by rfl) (.tmp 63) (.tmp 65) 32 (by rfl) (B + 1) 101 i0 _ 4 56 Tryz.underlying32 hin hz0 hz1 hz2 (by rfl) (by decide) _ m5 _ (by rfl) (World.ownsRow.alloc (w := w6.drew) HO6.out _) _ 1 1 [.string P, .int .i64 xb, .int .i64 xe, .slice Am lm cm] (by rfl) (by rfl) (news_at _ _ _) (HEO.out) (by unfold maxLen; omega) (by omega) (by have : B < w6.drew.heap.size := hBs; simp; omega) ?_
                  intro v7 w7 hown7 hg7
                  obtain ⟨A7, c7, hv7, hc7⟩ := own_form hown7
                  subst hv7
                  have hV7 : VAt w7 B ⟨va, vt, vx, vr, vn, vh, vl⟩ (.slice A5 m5 c5) p y := v_kept (w := w6.drew) HV6.out HOB5.out hg7
                  have hR7 : w7.heap[N0]? = some (.cells #[.string P, .int .i64 xb, .int .i64 xe, .slice Am lm cm] 101 (0, 0)) := by
                    have h1 := block_alloc (W := w6.drew) (.cells #[.string P, .int .i64 xb, .int .i64 xe, .slice Am lm cm] 101) HR6.out
                    exact (hg7.block N0 (Array.getElem?_eq_some_iff.1 h1).1 HOL5.out).trans h1
                  have hB7 : Below B W w7 := (((HB6.out.drew).alloc (by have : B < w6.drew.heap.size := hBs; omega) _).grown hg7 (by have : B < w6.drew.heap.size := hBs; simp; omega) (fun k e => by have := (own_low HO6.out k e).1; omega))
                  have e7 : w7.cell? ⟨B, 7, none⟩ = some (.slice A5 m5 c5) := cell_of hV7 rfl
                  have f7 : w7.frozen? ⟨B, 7, none⟩ = false := frozen_of hV7
                  have HK7 := Lib.hid (show KeepP W w7 from (HK6.out.trans (keep_below (w' := w6.drew.alloc (.cells #[.string P, .int .i64 xb, .int .i64 xe, .slice Am lm cm] 101)) ((Below.refl _ w6).drew.alloc (Nat.le_refl _) _))).trans (keep_grown hg7 (own_typed (World.ownsRow.alloc (w := w6.drew) HO6.out _) (by decide))))
                  have HOWN7 := Lib.hid hown7
                  have HV7 := Lib.hid hV7
                  have HR7 := Lib.hid hR7
                  have HB7 := Lib.hid hB7
                  clear hown7 hg7 hV7 hR7 hB7 s7 s7d s7a r0' r1 r2 r3 r0d r1d r2d r3d
                  refine hK _ _ ?_; clear hK K
                  try simp only [Act.put, List.setIfInBounds_toArray, List.set_cons_zero, List.set_cons_succ]
                  refine wpAny_take (i := 8) (oi := ?oi22) (v := ?v22) ?hi22 (by kernel_rfl) (by kernel_rfl) (by kernel_rfl) ?hq22 ?hy22 ?hr22
                  case hi22 => (simp only [List.getElem?_toArray, List.getElem?_cons_succ, List.getElem?_cons_zero]; rfl)
                  case hq22 => exact fun _ _ _ h => h
                  case hy22 => exact Or.inl ⟨by rfl, by intro w; (first | (go_simp; done) | (go_simp; with_reducible rfl))⟩
                  try simp only [Act.put, List.setIfInBounds_toArray, List.set_cons_zero, List.set_cons_succ]
                  refine wpAny_take (i := 9) (oi := ?oi23) (v := ?v23) ?hi23 (by kernel_rfl) (by kernel_rfl) (by kernel_rfl) ?hq23 ?hy23 ?hr23
                  case hi23 => (simp only [List.getElem?_toArray, List.getElem?_cons_succ, List.getElem?_cons_zero]; rfl)
                  case hq23 => exact fun _ _ _ h => h
                  case hy23 => exact Or.inl ⟨by rfl, by intro w; (first | (go_simp; done) | (go_simp; with_reducible rfl))⟩
                  try simp only [Act.put, List.setIfInBounds_toArray, List.set_cons_zero, List.set_cons_succ]
                  refine wpAny_ready (rs := [10]) (by kernel_rfl) (by simp) ?_
                  refine AllReady.cons (o := ?oo24) ?hi24 (fun K hK => ?hs24) ?hm24
                  case hi24 => (simp only [List.getElem?_toArray, List.getElem?_cons_succ, List.getElem?_cons_zero]; rfl)
                  · go_simp
                    refine hK _ _ ?_; clear hK K
                    try simp only [Act.put, List.setIfInBounds_toArray, List.set_cons_zero, List.set_cons_succ]
                    refine wpAny_done (by kernel_rfl) ?_ _
                    have hown7 := HOWN7.out
                    have hV7 := HV7.out
                    have hR7 := HR7.out
                    have hB7 := HB7.out
                    obtain ⟨w8, hw8⟩ : ∃ w8, w7.setCell ⟨B, 7, none⟩ (.slice A7 (m5 + 1) c7) = w8 := ⟨_, rfl⟩
                    have hV8 : VAt w8 B ⟨va, vt, vx, vr, vn, vh, vl⟩ (.slice A7 (m5 + 1) c7) p y := by rw [← hw8]; exact set_of hV7 _
                    have hR8 : w8.heap[N0]? = some (.cells #[.string P, .int .i64 xb, .int .i64 xe, .slice Am lm cm] 101 (0, 0)) := by rw [← hw8]; exact block_other _ hR7 (by have := HBL.out; have := HN0.out; omega)
                    have hO8 : w8.ownsRow (B + 1) 101 4 (.slice A7 (m5 + 1) c7) (m5 + 1) ((os.filter (keepO xb)).flatMap encO ++ [.string P, .int .i64 xb, .int .i64 xe, .slice Am lm cm]) := by rw [← hw8]; exact ownsRow_setCell_below hown7 (by show B < B + 1; omega) _
                    have hB8 : Below B W w8 := by
                      rw [← hw8]
                      exact hB7.trans ⟨rfl, rfl, rfl, by simp [World.setCell], fun k hk => Below.heap_setCell _ _ _ k (by show k ≠ B; omega)⟩
                    -- the new open regions
                    have hos2 : ((os.filter (keepO xb)) ++ [(⟨x, Am, lm, cm⟩ : Og)]).map (·.x) = openAll (c.regs.take (0 + 1)) := by
                      rw [HOP.out, List.map_append, ← HXB.out, keep_open]
                      rfl
                    have hfl : (os.filter (keepO xb)).flatMap encO ++ [.string P, .int .i64 xb, .int .i64 xe, .slice Am lm cm] = ((os.filter (keepO xb)) ++ [(⟨x, Am, lm, cm⟩ : Og)]).flatMap encO := by
                      rw [List.flatMap_append, List.flatMap_singleton]
                      unfold encO
                      rw [HP.out, HXB.out, HXE.out]
                    have hlen : ((os.filter (keepO xb)) ++ [(⟨x, Am, lm, cm⟩ : Og)]).length = m5 + 1 := by rw [List.length_append, HM5.out]; rfl
                    obtain ⟨os2, hos2'⟩ : ∃ os2, ((os.filter (keepO xb)) ++ [(⟨x, Am, lm, cm⟩ : Og)]) = os2 := ⟨_, rfl⟩
                    rw [hos2'] at hos2 hfl hlen
                    rw [hfl, ← hlen] at hO8
                    obtain ⟨t1, t2⟩ := HRO.out (by rw [HXB.out, HXE.out]; exact HXX.out) (by first | rfl | trivial)
                    have hcn := containsFunc_reg stays_og (rows_of_own encO_len hO8) (by unfold maxLen; omega) 62 #[.pointer (some ⟨N0, 0, none⟩)] (enters_of Tryz.func62 (by kernel_rfl) rfl) (fun o => decide (o.x.name = x.name) && decide (o.x.e < x.e)) (by
                      intro W' o u0 u1 u2 u3 hW' _ hE
                      have hE : [u0, u1, u2, u3] = encO o := hE
                      have := region2_any o x N0 (.slice Am lm cm) W' (by rw [HP.out, HXB.out, HXE.out]; exact block_below hR8 hW' (Array.getElem?_eq_some_iff.1 hR8).1)
                      rw [← hE] at this
                      exact this)
                    have hany : os2.any (fun o => decide (o.x.name = x.name) && decide (o.x.e < x.e)) = (c.regs.take 0).any (crosses x) := by
                      rw [← t2, ← hos2, List.any_map]
                      rfl
                    rw [hany, hlen] at hcn
                    have hdeep : ((c.regs.take (0 + 1)).filter (holds x)).length = m5 + 1 := by rw [← t1, ← hos2, List.length_map, hlen]
                    rw [hlen] at hO8
                    have HAE2 := Lib.hid (HAE.out)
                    have hae2 : r0 = if (c.regs.take 0).any (crosses x) then 13 else if 40 < m5 + 1 then 2 else 0 := by
                      rw [HAE.out, hdeep]
                      rfl
                    obtain ⟨cr, hcr⟩ : ∃ cr, (c.regs.take 0).any (crosses x) = cr := ⟨_, rfl⟩
                    rw [hcr] at hcn hae2
                    have HCN := Lib.hid hcn
                    have HA2 := Lib.hid hae2
                    have HK8 := Lib.hid (show KeepP W w8 from hw8 ▸ HK7.out.trans (keep_set hV7))
                    have HW8 := Lib.hid hw8
                    have HV8 := Lib.hid hV8
                    have HO8 := Lib.hid hO8
                    have HB8 := Lib.hid hB8
                    have HOS2 := Lib.hid hos2
                    have HLEN := Lib.hid hlen
                    clear hown7 hV7 hR7 hB7 hw8 hV8 hR8 hO8 hB8 hos2 hfl hos2' t1 t2 hcn hany hdeep hcr hae2 hlen hBs
                    rw [HW8.out]
                    clear e7 f7
                    have s7 : w8.cell? ⟨B, 7, none⟩ = some (.slice A7 (m5 + 1) c7) := cell_of HV8.out rfl
                    go_wp2_with fail
                    refine HCN.out.mono ?_
                    rintro e w9 ⟨rfl, hb9⟩
                    have HV9 := Lib.hid (HV8.out.below hb9)
                    have HO9 := Lib.hid (own_after HO8.out hb9)
                    have HB9 := Lib.hid (HB8.out.trans (hb9.mono (by have := HV8.out.lt; omega)))
                    have HK9 := Lib.hid (HK8.out.trans (keep_below hb9))
                    have s9 : w9.cell? ⟨B, 7, none⟩ = some (.slice A7 (m5 + 1) c7) := cell_of HV9.out rfl
                    clear hb9 s7
                    cases cr with
                    | true =>
                      go_wp2_with fail
                      go_ret
                      exact ⟨by rw [HA2.out]; rfl, HB9.out, HK9.out, fun h => by rw [HA2.out] at h; cases h⟩
                    | false =>
                      by_cases h40 : 40 < m5 + 1
                      · have hr2 : Hid (r0 = 2) := Lib.hid (by rw [HA2.out, if_neg (by decide), if_pos h40])
                        have h40i : (40 : Int) < (m5 : Int) + 1 := by omega
                        go_wp2_with fail
                        go_ret
                        exact ⟨by rw [hr2.out]; rfl, HB9.out, HK9.out, fun h => by rw [hr2.out] at h; cases h⟩
                      · have hr2 : Hid (r0 = 0) := Lib.hid (by rw [HA2.out, if_neg (by decide), if_neg h40])
                        have h40i : ¬ (40 : Int) < (m5 : Int) + 1 := by omega
                        go_wp2_with fail
                        go_ret
                        exact ⟨by rw [hr2.out]; rfl, HB9.out, HK9.out, fun _ => ⟨_, HV9.out, os2, HOS2.out, by rw [HLEN.out]; exact HO9.out⟩⟩
                  exact AllReady.nil
                exact AllReady.nil
              exact AllReady.nil
            exact AllReady.nil
          exact AllReady.nil
        · obtain ⟨k, rfl⟩ : ∃ k, i = k + 1 := ⟨i - 1, by omega⟩
          obtain ⟨nb, pb, pe, pA, pl, pc, zc, p0, p1, p2, p3, hbz, hcmp⟩ := HPV.out k rfl
          have hk1 : ((k + 1 : Nat) : Int) = (k : Int) + 1 := by omega
          rw [hk1] at hlt ⊢
          clear hk1
          have hpos : (0 : Int) < (k : Int) + 1 := by omega
          have hkc : (k : Int) < (cap2 : Int) := by have := HNC.out; omega
          have hwr : IntKind.i64.wrap ((k : Int) + 1 - 1) = (k : Int) := by rw [IntKind.wrap_i64]; omega
          have hwr2 : IntKind.i64.wrap (k : Int) = (k : Int) := by rw [IntKind.wrap_i64]; omega
          have hk00 : (0 : Int) ≤ (k : Int) := by omega
          have hkn : (k : Int) < (n : Int) := by omega
          have hbW : ∀ {a : Addr} {u : Value}, a.block < W.heap.size → W.cell? a = some u → ∀ W', Below W.heap.size W W' → W'.cell? a = some u := fun ha hu W' hb => (hb.cell ha).trans hu
          have HPC := Lib.hid (fun W' (hb : Below W.heap.size W W') => And.intro (hbW (a := ⟨bk, off + k * 4, none⟩) HBK.out p0 W' hb) (And.intro (hbW (a := ⟨bk, off + k * 4 + 1, none⟩) HBK.out p1 W' hb) (And.intro (hbW (a := ⟨bk, off + k * 4 + 2, none⟩) HBK.out p2 W' hb) (And.intro (hbW (a := ⟨bk, off + k * 4 + 3, none⟩) HBK.out p3 W' hb) (hbW (a := ⟨B, 3, none⟩) HBL.out HC3.out W' hb)))))
          have HRC := Lib.hid (fun W' (hb : Below w3.heap.size w3 W') => And.intro (cell_of (i := 0) (block_below HR3.out hb (Array.getElem?_eq_some_iff.1 HR3.out).1) rfl) (And.intro (cell_of (i := 1) (block_below HR3.out hb (Array.getElem?_eq_some_iff.1 HR3.out).1) rfl) (And.intro (cell_of (i := 2) (block_below HR3.out hb (Array.getElem?_eq_some_iff.1 HR3.out).1) rfl) (cell_of (i := 3) (block_below HR3.out hb (Array.getElem?_eq_some_iff.1 HR3.out).1) rfl))))
          obtain ⟨p0, p1, p2, p3, d3⟩ := HPC.out w3 HB3.out
          obtain ⟨g0, g1, g2, g3⟩ := HRC.out w3 (Below.refl _ _)
          have HCM := Lib.hid (fun W' (hb : Below w3.heap.size w3 W') => hcmp W' (HB3.out.trans (hb.mono HB3.out.size)))
          have HBZ := Lib.hid hbz
          have HBD := Lib.hid (fun W' (hb : Below w3.heap.size w3 W') => HB3.out.trans (hb.mono HB3.out.size))
          clear hcmp hbz hbW
          go_wp2_with fail
          go_region_held3 (fun w' => w'.cell? ⟨B, 3, none⟩ = some (.slice (some ⟨bk, off, none⟩) n cap2) ∧ w'.cell? ⟨bk, off + k * 4, none⟩ = some (.string nb) ∧ w'.cell? ⟨bk, off + k * 4 + 1, none⟩ = some (.int .i64 pb) ∧ w'.cell? ⟨bk, off + k * 4 + 2, none⟩ = some (.int .i64 pe) ∧ w'.cell? ⟨bk, off + k * 4 + 3, none⟩ = some (.slice pA pl pc) ∧ w'.cell? ⟨N0, 0, none⟩ = some (.string P) ∧ w'.cell? ⟨N0, 1, none⟩ = some (.int .i64 xb) ∧ w'.cell? ⟨N0, 2, none⟩ = some (.int .i64 xe) ∧ w'.cell? ⟨N0, 3, none⟩ = some (.slice Am lm cm))
            (first
              | go_keep
              | (exact ⟨(HPC.out _ (HBD.out _ ((Below.refl _ w3).drew.trans hb4))).2.2.2.2, (HPC.out _ (HBD.out _ ((Below.refl _ w3).drew.trans hb4))).1, (HPC.out _ (HBD.out _ ((Below.refl _ w3).drew.trans hb4))).2.1, (HPC.out _ (HBD.out _ ((Below.refl _ w3).drew.trans hb4))).2.2.1, (HPC.out _ (HBD.out _ ((Below.refl _ w3).drew.trans hb4))).2.2.2.1, (HRC.out _ ((Below.refl _ w3).drew.trans hb4)).1, (HRC.out _ ((Below.refl _ w3).drew.trans hb4)).2.1, (HRC.out _ ((Below.refl _ w3).drew.trans hb4)).2.2.1, (HRC.out _ ((Below.refl _ w3).drew.trans hb4)).2.2.2⟩)
              | fail)
            ((first
              | (go_at_call 58; (with_reducible refine (HCM.out _ (Below.refl _ w3).drew).mono ?_); rintro e w4 ⟨rfl, hb4⟩)
              | fail))
          have HB4 := Lib.hid (HBD.out _ ((Below.refl _ w3).drew.trans hb4))
          have HR4 := Lib.hid (block_below HR3.out ((Below.refl _ w3).drew.trans hb4) (Array.getElem?_eq_some_iff.1 HR3.out).1)
          have HV4 := Lib.hid (HV3.out.below ((Below.refl _ w3).drew.trans hb4))
          have HO4 := Lib.hid (own_after HO3.out ((Below.refl _ w3).drew.trans hb4))
          clear hb4 p0 p1 p2 p3 d3 g0 g1 g2 g3
          by_cases hz0 : 0 < zc
          · have hbt : bo = true := by rw [HBZ.out]; simp [hz0]
            subst hbt
            have HH : Hid (r0 = 6) := Lib.hid (by rw [HAE.out]; rfl)
            go_wp2_with fail
            go_ret
            exact ⟨by rw [HH.out]; rfl, HB4.out.mono (by have := HN0.out; have := HBL.out; omega), keep_below HB4.out, fun h => by rw [HH.out] at h; cases h⟩
          · have hbt : bo = false := by rw [HBZ.out]; simp; omega
            subst hbt
            obtain ⟨-, -, -, d3, -, -, -, d7, -⟩ := HV4.out.c
            obtain ⟨va, vt, vx, vr, vn, vh, vl⟩ := s
            have HDF := Lib.hid (deleteFunc_any HO4.out (by omega) xb N0 (Array.getElem?_eq_some_iff.1 HR4.out).1 (fun e => by have := (HOL.out N0 e).2; omega) (cell_of (i := 1) HR4.out rfl))
            obtain ⟨oA, oc, hov, hoc⟩ := own_form HO4.out
            subst hov
            go_wp2_with fail
            refine HDF.out.mono ?_
            rintro e w5 ⟨⟨v5, rfl, hown5, hob5⟩, hg5⟩
            obtain ⟨m5, hm5⟩ : ∃ m5, (os.filter (keepO xb)).length = m5 := ⟨_, rfl⟩
            have hm5l : m5 ≤ 1000000 := by have := List.length_filter_le (keepO xb) os; omega
            rw [hm5] at hown5
            obtain ⟨A5, c5, hv5, hc5⟩ := own_form hown5
            subst hv5
            have hBr : some B ≠ (Value.slice oA os.length oc).ownBlock := fun e => by have := (HOL.out B e.symm).1; omega
            have hNr : some N0 ≠ (Value.slice oA os.length oc).ownBlock := fun e => by have := (HOL.out N0 e.symm).2; omega
            have hV5 : VAt w5 B ⟨va, vt, vx, vr, vn, vh, vl⟩ (.slice oA os.length oc) p y := (hg5.block B HV4.out.lt hBr).trans HV4.out
            have hR5 : w5.heap[N0]? = some (.cells #[.string P, .int .i64 xb, .int .i64 xe, .slice Am lm cm] 101 (0, 0)) := (hg5.block N0 (Array.getElem?_eq_some_iff.1 HR4.out).1 hNr).trans HR4.out
            have hB5 : Below B W w5 := (HB4.out.mono (by have := HN0.out; have := HBL.out; omega)).trans (below_of_grown hg5 (by have := HV4.out.lt; omega) (fun k e => by have := (HOL.out k e).1; omega))
            obtain ⟨w6, hw6⟩ : ∃ w6, w5.setCell ⟨B, 7, none⟩ (.slice A5 m5 c5) = w6 := ⟨_, rfl⟩
            have hV6 : VAt w6 B ⟨va, vt, vx, vr, vn, vh, vl⟩ (.slice A5 m5 c5) p y := by rw [← hw6]; exact set_of hV5 _
            have hR6 : w6.heap[N0]? = some (.cells #[.string P, .int .i64 xb, .int .i64 xe, .slice Am lm cm] 101 (0, 0)) := by rw [← hw6]; exact block_other _ hR5 (by have := HBL.out; have := HN0.out; omega)
            have hO6 : w6.ownsRow (B + 1) 101 4 (.slice A5 m5 c5) m5 ((os.filter (keepO xb)).flatMap encO) := by rw [← hw6]; exact ownsRow_setCell_below hown5 (by show B < B + 1; omega) _
            have hB6 : Below B W w6 := by
              rw [← hw6]
              exact hB5.trans ⟨rfl, rfl, rfl, by simp [World.setCell], fun k hk => Below.heap_setCell _ _ _ k (by show k ≠ B; omega)⟩
            have e7 : w5.cell? ⟨B, 7, none⟩ = some (.slice oA os.length oc) := cell_of hV5 rfl
            have f7 : w5.frozen? ⟨B, 7, none⟩ = false := frozen_of hV5
            have HK6 := Lib.hid (show KeepP W w6 from hw6 ▸ ((keep_below HB4.out).trans (keep_grown hg5 (own_typed HO4.out (by decide)))).trans (keep_set hV5))
            have HW6 := Lib.hid hw6
            have HV6 := Lib.hid hV6
            have HR6 := Lib.hid hR6
            have HO6 := Lib.hid hO6
            have HB6 := Lib.hid hB6
            have HM5 := Lib.hid hm5
            have HOB5 := Lib.hid (show some B ≠ (Value.slice A5 m5 c5).ownBlock from fun e => by have := (own_low hO6 B e.symm).1; omega)
            have HOL5 := Lib.hid (show some N0 ≠ (Value.slice A5 m5 c5).ownBlock from by rw [hob5]; exact hNr)
            have HEO := Lib.hid (encO_one ⟨⟨x.name, xb, xe, x.ps⟩, Am, lm, cm⟩)
            unfold encO at HEO
            simp only [HP.out] at HEO
            clear hown5 hob5 hg5 hm5 hBr hNr hV5 hR5 hB5 hw6 hV6 hR6 hO6 hB6 d3 d7
            go_wp2_with fail
            rw [HW6.out]
            clear e7 f7
            have s7 : w6.cell? ⟨B, 7, none⟩ = some (.slice A5 m5 c5) := cell_of HV6.out rfl
            have r0' : w6.cell? ⟨N0, 0, none⟩ = some (.string P) := cell_of HR6.out rfl
            have r1 : w6.cell? ⟨N0, 1, none⟩ = some (.int .i64 xb) := cell_of HR6.out rfl
            have r2 : w6.cell? ⟨N0, 2, none⟩ = some (.int .i64 xe) := cell_of HR6.out rfl
            have r3 : w6.cell? ⟨N0, 3, none⟩ = some (.slice Am lm cm) := cell_of HR6.out rfl
            obtain ⟨i0, hin, hz0, hz1, hz2⟩ := info_parts' Tryz.infoReg
            have hBs := HV6.out.lt
            have s7d : w6.drew.cell? ⟨B, 7, none⟩ = some (.slice A5 m5 c5) := s7
            have r0d : w6.drew.cell? ⟨N0, 0, none⟩ = some (.string P) := r0'
            have r1d : w6.drew.cell? ⟨N0, 1, none⟩ = some (.int .i64 xb) := r1
            have r2d : w6.drew.cell? ⟨N0, 2, none⟩ = some (.int .i64 xe) := r2
            have r3d : w6.drew.cell? ⟨N0, 3, none⟩ = some (.slice Am lm cm) := r3
            have s7a : (w6.drew.alloc (.cells #[.string P, .int .i64 xb, .int .i64 xe, .slice Am lm cm] 101)).cell? ⟨B, 7, none⟩ = some (.slice A5 m5 c5) := Lib.cell?_alloc_some _ s7d
            refine wp_region_any (by kernel_rfl) ?_
            change wpAny _ _ _ _ _ _ _ (World.drew _)
            refine wpAny_take (i := 0) (oi := ?oi1001) (v := ?v1001) ?hi1001 (by kernel_rfl) (by kernel_rfl) (by kernel_rfl) ?hq1001 ?hy1001 ?hr1001
            case hi1001 => (simp only [List.getElem?_toArray, List.getElem?_cons_zero]; rfl)
            case hq1001 => exact fun _ _ _ h => h
            case hy1001 => exact Or.inl ⟨by rfl, by intro w; (first | (go_simp; done) | (go_simp; with_reducible rfl))⟩
            try simp only [Act.put, List.setIfInBounds_toArray, List.set_cons_zero, List.set_cons_succ]
            refine wpAny_take (i := 1) (oi := ?oi1002) (v := ?v1002) ?hi1002 (by kernel_rfl) (by kernel_rfl) (by kernel_rfl) ?hq1002 ?hy1002 ?hr1002
            case hi1002 => (simp only [List.getElem?_toArray, List.getElem?_cons_succ, List.getElem?_cons_zero]; rfl)
            case hq1002 => exact fun _ _ _ h => h
            case hy1002 => exact Or.inl ⟨by rfl, by intro w; (first | (go_simp; done) | (go_simp; with_reducible rfl))⟩
            try simp only [Act.put, List.setIfInBounds_toArray, List.set_cons_zero, List.set_cons_succ]
            refine wpAny_take (i := 2) (oi := ?oi1003) (v := ?v1003) ?hi1003 (by kernel_rfl) (by kernel_rfl) (by kernel_rfl) ?hq1003 ?hy1003 ?hr1003
            case hi1003 => (simp only [List.getElem?_toArray, List.getElem?_cons_succ, List.getElem?_cons_zero]; rfl)
            case hq1003 => exact fun _ _ _ h => h
            case hy1003 => exact Or.inl ⟨by rfl, by intro w; (first | (go_simp; done) | (go_simp; with_reducible rfl))⟩
            try simp only [Act.put, List.setIfInBounds_toArray, List.set_cons_zero, List.set_cons_succ]
            refine wpAny_take (i := 3) (oi := ?oi1004) (v := ?v1004) ?hi1004 (by kernel_rfl) (by kernel_rfl) (by kernel_rfl) ?hq1004 ?hy1004 ?hr1004
            case hi1004 => (simp only [List.getElem?_toArray, List.getElem?_cons_succ, List.getElem?_cons_zero]; rfl)
            case hq1004 => exact fun _ _ _ h => h
            case hy1004 => exact Or.inl ⟨by rfl, by intro w; (first | (go_simp; done) | (go_simp; with_reducible rfl))⟩
            try simp only [Act.put, List.setIfInBounds_toArray, List.set_cons_zero, List.set_cons_succ]
            refine wpAny_ready (rs := [4, 5]) (by kernel_rfl) (by simp) ?_
            refine AllReady.cons (o := ?oo1005) ?hi1005 (fun K hK => ?hs1005) ?hm1005
            case hi1005 => (simp only [List.getElem?_toArray, List.getElem?_cons_succ, List.getElem?_cons_zero]; rfl)
            · go_simp
              refine hK _ _ ?_; clear hK K
              try simp only [Act.put, List.setIfInBounds_toArray, List.set_cons_zero, List.set_cons_succ]
              refine wpAny_ready (rs := [5]) (by kernel_rfl) (by simp) ?_
              refine AllReady.cons (o := ?oo1006) ?hi1006 (fun K hK => ?hs1006) ?hm1006
              case hi1006 => (simp only [List.getElem?_toArray, List.getElem?_cons_succ, List.getElem?_cons_zero]; rfl)
              · go_simp
                refine hK _ _ ?_; clear hK K
                try simp only [Act.put, List.setIfInBounds_toArray, List.set_cons_zero, List.set_cons_succ]
                refine wpAny_ready (rs := [6]) (by kernel_rfl) (by simp) ?_
                refine AllReady.cons (o := ?oo1007) ?hi1007 (fun K hK => ?hs1007) ?hm1007
                case hi1007 => (simp only [List.getElem?_toArray, List.getElem?_cons_succ, List.getElem?_cons_zero]; rfl)
                · go_simp
                  refine hK _ _ ?_; clear hK K
                  try simp only [Act.put, List.setIfInBounds_toArray, List.set_cons_zero, List.set_cons_succ]
                  refine wpAny_ready (rs := [7]) (by kernel_rfl) (by simp) ?_
                  refine AllReady.cons (o := ?oo1008) ?hi1008 (fun K hK => ?hs1008) ?hm1008
                  case hi1008 => (simp only [List.getElem?_toArray, List.getElem?_cons_succ, List.getElem?_cons_zero]; rfl)
                  · refine step_append_own (by rfl) (.tmp 63) (.tmp 65) 32 (by rfl) (B + 1) 101 i0 _ 4 56 Tryz.underlying32 hin hz0 hz1 hz2 (by rfl) (by decide) _ m5 _ (by rfl) (World.ownsRow.alloc (w := w6.drew) HO6.out _) _ 1 1 [.string P, .int .i64 xb, .int .i64 xe, .slice Am lm cm] (by rfl) (by rfl) (news_at _ _ _) (HEO.out) (by unfold maxLen; omega) (by omega) (by have : B < w6.drew.heap.size := hBs; simp; omega) ?_
                    intro v7 w7 hown7 hg7
                    obtain ⟨A7, c7, hv7, hc7⟩ := own_form hown7
                    subst hv7
                    have hV7 : VAt w7 B ⟨va, vt, vx, vr, vn, vh, vl⟩ (.slice A5 m5 c5) p y := v_kept (w := w6.drew) HV6.out HOB5.out hg7
                    have hR7 : w7.heap[N0]? = some (.cells #[.string P, .int .i64 xb, .int .i64 xe, .slice Am lm cm] 101 (0, 0)) := by
                      have h1 := block_alloc (W := w6.drew) (.cells #[.string P, .int .i64 xb, .int .i64 xe, .slice Am lm cm] 101) HR6.out
                      exact (hg7.block N0 (Array.getElem?_eq_some_iff.1 h1).1 HOL5.out).trans h1
                    have hB7 : Below B W w7 := (((HB6.out.drew).alloc (by have : B < w6.drew.heap.size := hBs; omega) _).grown hg7 (by have : B < w6.drew.heap.size := hBs; simp; omega) (fun k e => by have := (own_low HO6.out k e).1; omega))
                    have e7 : w7.cell? ⟨B, 7, none⟩ = some (.slice A5 m5 c5) := cell_of hV7 rfl
                    have f7 : w7.frozen? ⟨B, 7, none⟩ = false := frozen_of hV7
                    have HK7 := Lib.hid (show KeepP W w7 from (HK6.out.trans (keep_below (w' := w6.drew.alloc (.cells #[.string P, .int .i64 xb, .int .i64 xe, .slice Am lm cm] 101)) ((Below.refl _ w6).drew.alloc (Nat.le_refl _) _))).trans (keep_grown hg7 (own_typed (World.ownsRow.alloc (w := w6.drew) HO6.out _) (by decide))))
                    have HOWN7 := Lib.hid hown7
                    have HV7 := Lib.hid hV7
                    have HR7 := Lib.hid hR7
                    have HB7 := Lib.hid hB7
                    clear hown7 hg7 hV7 hR7 hB7 s7 s7d s7a r0' r1 r2 r3 r0d r1d r2d r3d
                    refine hK _ _ ?_; clear hK K
                    try simp only [Act.put, List.setIfInBounds_toArray, List.set_cons_zero, List.set_cons_succ]
                    refine wpAny_take (i := 8) (oi := ?oi1009) (v := ?v1009) ?hi1009 (by kernel_rfl) (by kernel_rfl) (by kernel_rfl) ?hq1009 ?hy1009 ?hr1009
                    case hi1009 => (simp only [List.getElem?_toArray, List.getElem?_cons_succ, List.getElem?_cons_zero]; rfl)
                    case hq1009 => exact fun _ _ _ h => h
                    case hy1009 => exact Or.inl ⟨by rfl, by intro w; (first | (go_simp; done) | (go_simp; with_reducible rfl))⟩
                    try simp only [Act.put, List.setIfInBounds_toArray, List.set_cons_zero, List.set_cons_succ]
                    refine wpAny_take (i := 9) (oi := ?oi1010) (v := ?v1010) ?hi1010 (by kernel_rfl) (by kernel_rfl) (by kernel_rfl) ?hq1010 ?hy1010 ?hr1010
                    case hi1010 => (simp only [List.getElem?_toArray, List.getElem?_cons_succ, List.getElem?_cons_zero]; rfl)
                    case hq1010 => exact fun _ _ _ h => h
                    case hy1010 => exact Or.inl ⟨by rfl, by intro w; (first | (go_simp; done) | (go_simp; with_reducible rfl))⟩
                    try simp only [Act.put, List.setIfInBounds_toArray, List.set_cons_zero, List.set_cons_succ]
                    refine wpAny_ready (rs := [10]) (by kernel_rfl) (by simp) ?_
                    refine AllReady.cons (o := ?oo1011) ?hi1011 (fun K hK => ?hs1011) ?hm1011
                    case hi1011 => (simp only [List.getElem?_toArray, List.getElem?_cons_succ, List.getElem?_cons_zero]; rfl)
                    · go_simp
                      refine hK _ _ ?_; clear hK K
                      try simp only [Act.put, List.setIfInBounds_toArray, List.set_cons_zero, List.set_cons_succ]
                      refine wpAny_done (by kernel_rfl) ?_ _
                      have hown7 := HOWN7.out
                      have hV7 := HV7.out
                      have hR7 := HR7.out
                      have hB7 := HB7.out
                      obtain ⟨w8, hw8⟩ : ∃ w8, w7.setCell ⟨B, 7, none⟩ (.slice A7 (m5 + 1) c7) = w8 := ⟨_, rfl⟩
                      have hV8 : VAt w8 B ⟨va, vt, vx, vr, vn, vh, vl⟩ (.slice A7 (m5 + 1) c7) p y := by rw [← hw8]; exact set_of hV7 _
                      have hR8 : w8.heap[N0]? = some (.cells #[.string P, .int .i64 xb, .int .i64 xe, .slice Am lm cm] 101 (0, 0)) := by rw [← hw8]; exact block_other _ hR7 (by have := HBL.out; have := HN0.out; omega)
                      have hO8 : w8.ownsRow (B + 1) 101 4 (.slice A7 (m5 + 1) c7) (m5 + 1) ((os.filter (keepO xb)).flatMap encO ++ [.string P, .int .i64 xb, .int .i64 xe, .slice Am lm cm]) := by rw [← hw8]; exact ownsRow_setCell_below hown7 (by show B < B + 1; omega) _
                      have hB8 : Below B W w8 := by
                        rw [← hw8]
                        exact hB7.trans ⟨rfl, rfl, rfl, by simp [World.setCell], fun k hk => Below.heap_setCell _ _ _ k (by show k ≠ B; omega)⟩
                      -- the new open regions
                      have hos2 : ((os.filter (keepO xb)) ++ [(⟨x, Am, lm, cm⟩ : Og)]).map (·.x) = openAll (c.regs.take ((k + 1) + 1)) := by
                        rw [HOP.out, List.map_append, ← HXB.out, keep_open]
                        rfl
                      have hfl : (os.filter (keepO xb)).flatMap encO ++ [.string P, .int .i64 xb, .int .i64 xe, .slice Am lm cm] = ((os.filter (keepO xb)) ++ [(⟨x, Am, lm, cm⟩ : Og)]).flatMap encO := by
                        rw [List.flatMap_append, List.flatMap_singleton]
                        unfold encO
                        rw [HP.out, HXB.out, HXE.out]
                      have hlen : ((os.filter (keepO xb)) ++ [(⟨x, Am, lm, cm⟩ : Og)]).length = m5 + 1 := by rw [List.length_append, HM5.out]; rfl
                      obtain ⟨os2, hos2'⟩ : ∃ os2, ((os.filter (keepO xb)) ++ [(⟨x, Am, lm, cm⟩ : Og)]) = os2 := ⟨_, rfl⟩
                      rw [hos2'] at hos2 hfl hlen
                      rw [hfl, ← hlen] at hO8
                      obtain ⟨t1, t2⟩ := HRO.out (by rw [HXB.out, HXE.out]; exact HXX.out) (by first | rfl | trivial)
                      have hcn := containsFunc_reg stays_og (rows_of_own encO_len hO8) (by unfold maxLen; omega) 62 #[.pointer (some ⟨N0, 0, none⟩)] (enters_of Tryz.func62 (by kernel_rfl) rfl) (fun o => decide (o.x.name = x.name) && decide (o.x.e < x.e)) (by
                        intro W' o u0 u1 u2 u3 hW' _ hE
                        have hE : [u0, u1, u2, u3] = encO o := hE
                        have := region2_any o x N0 (.slice Am lm cm) W' (by rw [HP.out, HXB.out, HXE.out]; exact block_below hR8 hW' (Array.getElem?_eq_some_iff.1 hR8).1)
                        rw [← hE] at this
                        exact this)
                      have hany : os2.any (fun o => decide (o.x.name = x.name) && decide (o.x.e < x.e)) = (c.regs.take (k + 1)).any (crosses x) := by
                        rw [← t2, ← hos2, List.any_map]
                        rfl
                      rw [hany, hlen] at hcn
                      have hdeep : ((c.regs.take ((k + 1) + 1)).filter (holds x)).length = m5 + 1 := by rw [← t1, ← hos2, List.length_map, hlen]
                      rw [hlen] at hO8
                      have HAE2 := Lib.hid (HAE.out)
                      have hae2 : r0 = if (c.regs.take (k + 1)).any (crosses x) then 13 else if 40 < m5 + 1 then 2 else 0 := by
                        rw [HAE.out, hdeep]
                        rfl
                      obtain ⟨cr, hcr⟩ : ∃ cr, (c.regs.take (k + 1)).any (crosses x) = cr := ⟨_, rfl⟩
                      rw [hcr] at hcn hae2
                      have HCN := Lib.hid hcn
                      have HA2 := Lib.hid hae2
                      have HK8 := Lib.hid (show KeepP W w8 from hw8 ▸ HK7.out.trans (keep_set hV7))
                      have HW8 := Lib.hid hw8
                      have HV8 := Lib.hid hV8
                      have HO8 := Lib.hid hO8
                      have HB8 := Lib.hid hB8
                      have HOS2 := Lib.hid hos2
                      have HLEN := Lib.hid hlen
                      clear hown7 hV7 hR7 hB7 hw8 hV8 hR8 hO8 hB8 hos2 hfl hos2' t1 t2 hcn hany hdeep hcr hae2 hlen hBs
                      rw [HW8.out]
                      clear e7 f7
                      have s7 : w8.cell? ⟨B, 7, none⟩ = some (.slice A7 (m5 + 1) c7) := cell_of HV8.out rfl
                      go_wp2_with fail
                      refine HCN.out.mono ?_
                      rintro e w9 ⟨rfl, hb9⟩
                      have HV9 := Lib.hid (HV8.out.below hb9)
                      have HO9 := Lib.hid (own_after HO8.out hb9)
                      have HB9 := Lib.hid (HB8.out.trans (hb9.mono (by have := HV8.out.lt; omega)))
                      have HK9 := Lib.hid (HK8.out.trans (keep_below hb9))
                      have s9 : w9.cell? ⟨B, 7, none⟩ = some (.slice A7 (m5 + 1) c7) := cell_of HV9.out rfl
                      clear hb9 s7
                      cases cr with
                      | true =>
                        go_wp2_with fail
                        go_ret
                        exact ⟨by rw [HA2.out]; rfl, HB9.out, HK9.out, fun h => by rw [HA2.out] at h; cases h⟩
                      | false =>
                        by_cases h40 : 40 < m5 + 1
                        · have hr2 : Hid (r0 = 2) := Lib.hid (by rw [HA2.out, if_neg (by decide), if_pos h40])
                          have h40i : (40 : Int) < (m5 : Int) + 1 := by omega
                          go_wp2_with fail
                          go_ret
                          exact ⟨by rw [hr2.out]; rfl, HB9.out, HK9.out, fun h => by rw [hr2.out] at h; cases h⟩
                        · have hr2 : Hid (r0 = 0) := Lib.hid (by rw [HA2.out, if_neg (by decide), if_neg h40])
                          have h40i : ¬ (40 : Int) < (m5 : Int) + 1 := by omega
                          go_wp2_with fail
                          go_ret
                          exact ⟨by rw [hr2.out]; rfl, HB9.out, HK9.out, fun _ => ⟨_, HV9.out, os2, HOS2.out, by rw [HLEN.out]; exact HO9.out⟩⟩
                    exact AllReady.nil
                  exact AllReady.nil
                exact AllReady.nil
              exact AllReady.nil
            refine AllReady.cons (o := ?oo1012) ?hi1012 (fun K hK => ?hs1012) ?hm1012
            case hi1012 => (simp only [List.getElem?_toArray, List.getElem?_cons_succ, List.getElem?_cons_zero]; rfl)
            · go_simp
              refine hK _ _ ?_; clear hK K
              try simp only [Act.put, List.setIfInBounds_toArray, List.set_cons_zero, List.set_cons_succ]
              refine wpAny_ready (rs := [4, 6]) (by kernel_rfl) (by simp) ?_
              refine AllReady.cons (o := ?oo1013) ?hi1013 (fun K hK => ?hs1013) ?hm1013
              case hi1013 => (simp only [List.getElem?_toArray, List.getElem?_cons_succ, List.getElem?_cons_zero]; rfl)
              · go_simp
                refine hK _ _ ?_; clear hK K
                try simp only [Act.put, List.setIfInBounds_toArray, List.set_cons_zero, List.set_cons_succ]
                refine wpAny_ready (rs := [6]) (by kernel_rfl) (by simp) ?_
                refine AllReady.cons (o := ?oo1014) ?hi1014 (fun K hK => ?hs1014) ?hm1014
                case hi1014 => (simp only [List.getElem?_toArray, List.getElem?_cons_succ, List.getElem?_cons_zero]; rfl)
                · go_simp
                  refine hK _ _ ?_; clear hK K
                  try simp only [Act.put, List.setIfInBounds_toArray, List.set_cons_zero, List.set_cons_succ]
                  refine wpAny_ready (rs := [7]) (by kernel_rfl) (by simp) ?_
                  refine AllReady.cons (o := ?oo1015) ?hi1015 (fun K hK => ?hs1015) ?hm1015
                  case hi1015 => (simp only [List.getElem?_toArray, List.getElem?_cons_succ, List.getElem?_cons_zero]; rfl)
                  · refine step_append_own (by rfl) (.tmp 63) (.tmp 65) 32 (by rfl) (B + 1) 101 i0 _ 4 56 Tryz.underlying32 hin hz0 hz1 hz2 (by rfl) (by decide) _ m5 _ (by rfl) (World.ownsRow.alloc (w := w6.drew) HO6.out _) _ 1 1 [.string P, .int .i64 xb, .int .i64 xe, .slice Am lm cm] (by rfl) (by rfl) (news_at _ _ _) (HEO.out) (by unfold maxLen; omega) (by omega) (by have : B < w6.drew.heap.size := hBs; simp; omega) ?_
                    intro v7 w7 hown7 hg7
                    obtain ⟨A7, c7, hv7, hc7⟩ := own_form hown7
                    subst hv7
                    have hV7 : VAt w7 B ⟨va, vt, vx, vr, vn, vh, vl⟩ (.slice A5 m5 c5) p y := v_kept (w := w6.drew) HV6.out HOB5.out hg7
                    have hR7 : w7.heap[N0]? = some (.cells #[.string P, .int .i64 xb, .int .i64 xe, .slice Am lm cm] 101 (0, 0)) := by
                      have h1 := block_alloc (W := w6.drew) (.cells #[.string P, .int .i64 xb, .int .i64 xe, .slice Am lm cm] 101) HR6.out
                      exact (hg7.block N0 (Array.getElem?_eq_some_iff.1 h1).1 HOL5.out).trans h1
                    have hB7 : Below B W w7 := (((HB6.out.drew).alloc (by have : B < w6.drew.heap.size := hBs; omega) _).grown hg7 (by have : B < w6.drew.heap.size := hBs; simp; omega) (fun k e => by have := (own_low HO6.out k e).1; omega))
                    have e7 : w7.cell? ⟨B, 7, none⟩ = some (.slice A5 m5 c5) := cell_of hV7 rfl
                    have f7 : w7.frozen? ⟨B, 7, none⟩ = false := frozen_of hV7
                    have HK7 := Lib.hid (show KeepP W w7 from (HK6.out.trans (keep_below (w' := w6.drew.alloc (.cells #[.string P, .int .i64 xb, .int .i64 xe, .slice Am lm cm] 101)) ((Below.refl _ w6).drew.alloc (Nat.le_refl _) _))).trans (keep_grown hg7 (own_typed (World.ownsRow.alloc (w := w6.drew) HO6.out _) (by decide))))
                    have HOWN7 := Lib.hid hown7
                    have HV7 := Lib.hid hV7
                    have HR7 := Lib.hid hR7
                    have HB7 := Lib.hid hB7
                    clear hown7 hg7 hV7 hR7 hB7 s7 s7d s7a r0' r1 r2 r3 r0d r1d r2d r3d
                    refine hK _ _ ?_; clear hK K
                    try simp only [Act.put, List.setIfInBounds_toArray, List.set_cons_zero, List.set_cons_succ]
                    refine wpAny_take (i := 8) (oi := ?oi1016) (v := ?v1016) ?hi1016 (by kernel_rfl) (by kernel_rfl) (by kernel_rfl) ?hq1016 ?hy1016 ?hr1016
                    case hi1016 => (simp only [List.getElem?_toArray, List.getElem?_cons_succ, List.getElem?_cons_zero]; rfl)
                    case hq1016 => exact fun _ _ _ h => h
                    case hy1016 => exact Or.inl ⟨by rfl, by intro w; (first | (go_simp; done) | (go_simp; with_reducible rfl))⟩
                    try simp only [Act.put, List.setIfInBounds_toArray, List.set_cons_zero, List.set_cons_succ]
                    refine wpAny_take (i := 9) (oi := ?oi1017) (v := ?v1017) ?hi1017 (by kernel_rfl) (by kernel_rfl) (by kernel_rfl) ?hq1017 ?hy1017 ?hr1017
                    case hi1017 => (simp only [List.getElem?_toArray, List.getElem?_cons_succ, List.getElem?_cons_zero]; rfl)
                    case hq1017 => exact fun _ _ _ h => h
                    case hy1017 => exact Or.inl ⟨by rfl, by intro w; (first | (go_simp; done) | (go_simp; with_reducible rfl))⟩
                    try simp only [Act.put, List.setIfInBounds_toArray, List.set_cons_zero, List.set_cons_succ]
                    refine wpAny_ready (rs := [10]) (by kernel_rfl) (by simp) ?_
                    refine AllReady.cons (o := ?oo1018) ?hi1018 (fun K hK => ?hs1018) ?hm1018
                    case hi1018 => (simp only [List.getElem?_toArray, List.getElem?_cons_succ, List.getElem?_cons_zero]; rfl)
                    · go_simp
                      refine hK _ _ ?_; clear hK K
                      try simp only [Act.put, List.setIfInBounds_toArray, List.set_cons_zero, List.set_cons_succ]
                      refine wpAny_done (by kernel_rfl) ?_ _
                      have hown7 := HOWN7.out
                      have hV7 := HV7.out
                      have hR7 := HR7.out
                      have hB7 := HB7.out
                      obtain ⟨w8, hw8⟩ : ∃ w8, w7.setCell ⟨B, 7, none⟩ (.slice A7 (m5 + 1) c7) = w8 := ⟨_, rfl⟩
                      have hV8 : VAt w8 B ⟨va, vt, vx, vr, vn, vh, vl⟩ (.slice A7 (m5 + 1) c7) p y := by rw [← hw8]; exact set_of hV7 _
                      have hR8 : w8.heap[N0]? = some (.cells #[.string P, .int .i64 xb, .int .i64 xe, .slice Am lm cm] 101 (0, 0)) := by rw [← hw8]; exact block_other _ hR7 (by have := HBL.out; have := HN0.out; omega)
                      have hO8 : w8.ownsRow (B + 1) 101 4 (.slice A7 (m5 + 1) c7) (m5 + 1) ((os.filter (keepO xb)).flatMap encO ++ [.string P, .int .i64 xb, .int .i64 xe, .slice Am lm cm]) := by rw [← hw8]; exact ownsRow_setCell_below hown7 (by show B < B + 1; omega) _
                      have hB8 : Below B W w8 := by
                        rw [← hw8]
                        exact hB7.trans ⟨rfl, rfl, rfl, by simp [World.setCell], fun k hk => Below.heap_setCell _ _ _ k (by show k ≠ B; omega)⟩
                      -- the new open regions
                      have hos2 : ((os.filter (keepO xb)) ++ [(⟨x, Am, lm, cm⟩ : Og)]).map (·.x) = openAll (c.regs.take ((k + 1) + 1)) := by
                        rw [HOP.out, List.map_append, ← HXB.out, keep_open]
                        rfl
                      have hfl : (os.filter (keepO xb)).flatMap encO ++ [.string P, .int .i64 xb, .int .i64 xe, .slice Am lm cm] = ((os.filter (keepO xb)) ++ [(⟨x, Am, lm, cm⟩ : Og)]).flatMap encO := by
                        rw [List.flatMap_append, List.flatMap_singleton]
                        unfold encO
                        rw [HP.out, HXB.out, HXE.out]
                      have hlen : ((os.filter (keepO xb)) ++ [(⟨x, Am, lm, cm⟩ : Og)]).length = m5 + 1 := by rw [List.length_append, HM5.out]; rfl
                      obtain ⟨os2, hos2'⟩ : ∃ os2, ((os.filter (keepO xb)) ++ [(⟨x, Am, lm, cm⟩ : Og)]) = os2 := ⟨_, rfl⟩
                      rw [hos2'] at hos2 hfl hlen
                      rw [hfl, ← hlen] at hO8
                      obtain ⟨t1, t2⟩ := HRO.out (by rw [HXB.out, HXE.out]; exact HXX.out) (by first | rfl | trivial)
                      have hcn := containsFunc_reg stays_og (rows_of_own encO_len hO8) (by unfold maxLen; omega) 62 #[.pointer (some ⟨N0, 0, none⟩)] (enters_of Tryz.func62 (by kernel_rfl) rfl) (fun o => decide (o.x.name = x.name) && decide (o.x.e < x.e)) (by
                        intro W' o u0 u1 u2 u3 hW' _ hE
                        have hE : [u0, u1, u2, u3] = encO o := hE
                        have := region2_any o x N0 (.slice Am lm cm) W' (by rw [HP.out, HXB.out, HXE.out]; exact block_below hR8 hW' (Array.getElem?_eq_some_iff.1 hR8).1)
                        rw [← hE] at this
                        exact this)
                      have hany : os2.any (fun o => decide (o.x.name = x.name) && decide (o.x.e < x.e)) = (c.regs.take (k + 1)).any (crosses x) := by
                        rw [← t2, ← hos2, List.any_map]
                        rfl
                      rw [hany, hlen] at hcn
                      have hdeep : ((c.regs.take ((k + 1) + 1)).filter (holds x)).length = m5 + 1 := by rw [← t1, ← hos2, List.length_map, hlen]
                      rw [hlen] at hO8
                      have HAE2 := Lib.hid (HAE.out)
                      have hae2 : r0 = if (c.regs.take (k + 1)).any (crosses x) then 13 else if 40 < m5 + 1 then 2 else 0 := by
                        rw [HAE.out, hdeep]
                        rfl
                      obtain ⟨cr, hcr⟩ : ∃ cr, (c.regs.take (k + 1)).any (crosses x) = cr := ⟨_, rfl⟩
                      rw [hcr] at hcn hae2
                      have HCN := Lib.hid hcn
                      have HA2 := Lib.hid hae2
                      have HK8 := Lib.hid (show KeepP W w8 from hw8 ▸ HK7.out.trans (keep_set hV7))
                      have HW8 := Lib.hid hw8
                      have HV8 := Lib.hid hV8
                      have HO8 := Lib.hid hO8
                      have HB8 := Lib.hid hB8
                      have HOS2 := Lib.hid hos2
                      have HLEN := Lib.hid hlen
                      clear hown7 hV7 hR7 hB7 hw8 hV8 hR8 hO8 hB8 hos2 hfl hos2' t1 t2 hcn hany hdeep hcr hae2 hlen hBs
                      rw [HW8.out]
                      clear e7 f7
                      have s7 : w8.cell? ⟨B, 7, none⟩ = some (.slice A7 (m5 + 1) c7) := cell_of HV8.out rfl
                      go_wp2_with fail
                      refine HCN.out.mono ?_
                      rintro e w9 ⟨rfl, hb9⟩
                      have HV9 := Lib.hid (HV8.out.below hb9)
                      have HO9 := Lib.hid (own_after HO8.out hb9)
                      have HB9 := Lib.hid (HB8.out.trans (hb9.mono (by have := HV8.out.lt; omega)))
                      have HK9 := Lib.hid (HK8.out.trans (keep_below hb9))
                      have s9 : w9.cell? ⟨B, 7, none⟩ = some (.slice A7 (m5 + 1) c7) := cell_of HV9.out rfl
                      clear hb9 s7
                      cases cr with
                      | true =>
                        go_wp2_with fail
                        go_ret
                        exact ⟨by rw [HA2.out]; rfl, HB9.out, HK9.out, fun h => by rw [HA2.out] at h; cases h⟩
                      | false =>
                        by_cases h40 : 40 < m5 + 1
                        · have hr2 : Hid (r0 = 2) := Lib.hid (by rw [HA2.out, if_neg (by decide), if_pos h40])
                          have h40i : (40 : Int) < (m5 : Int) + 1 := by omega
                          go_wp2_with fail
                          go_ret
                          exact ⟨by rw [hr2.out]; rfl, HB9.out, HK9.out, fun h => by rw [hr2.out] at h; cases h⟩
                        · have hr2 : Hid (r0 = 0) := Lib.hid (by rw [HA2.out, if_neg (by decide), if_neg h40])
                          have h40i : ¬ (40 : Int) < (m5 : Int) + 1 := by omega
                          go_wp2_with fail
                          go_ret
                          exact ⟨by rw [hr2.out]; rfl, HB9.out, HK9.out, fun _ => ⟨_, HV9.out, os2, HOS2.out, by rw [HLEN.out]; exact HO9.out⟩⟩
                    exact AllReady.nil
                  exact AllReady.nil
                exact AllReady.nil
              refine AllReady.cons (o := ?oo1019) ?hi1019 (fun K hK => ?hs1019) ?hm1019
              case hi1019 => (simp only [List.getElem?_toArray, List.getElem?_cons_succ, List.getElem?_cons_zero]; rfl)
              · go_simp
                refine hK _ _ ?_; clear hK K
                try simp only [Act.put, List.setIfInBounds_toArray, List.set_cons_zero, List.set_cons_succ]
                refine wpAny_ready (rs := [4]) (by kernel_rfl) (by simp) ?_
                refine AllReady.cons (o := ?oo1020) ?hi1020 (fun K hK => ?hs1020) ?hm1020
                case hi1020 => (simp only [List.getElem?_toArray, List.getElem?_cons_succ, List.getElem?_cons_zero]; rfl)
                · go_simp
                  refine hK _ _ ?_; clear hK K
                  try simp only [Act.put, List.setIfInBounds_toArray, List.set_cons_zero, List.set_cons_succ]
                  refine wpAny_ready (rs := [7]) (by kernel_rfl) (by simp) ?_
                  refine AllReady.cons (o := ?oo1021) ?hi1021 (fun K hK => ?hs1021) ?hm1021
                  case hi1021 => (simp only [List.getElem?_toArray, List.getElem?_cons_succ, List.getElem?_cons_zero]; rfl)
                  · refine step_append_own (by rfl) (.tmp 63) (.tmp 65) 32 (by rfl) (B + 1) 101 i0 _ 4 56 Tryz.underlying32 hin hz0 hz1 hz2 (by rfl) (by decide) _ m5 _ (by rfl) (World.ownsRow.alloc (w := w6.drew) HO6.out _) _ 1 1 [.string P, .int .i64 xb, .int .i64 xe, .slice Am lm cm] (by rfl) (by rfl) (news_at _ _ _) (HEO.out) (by unfold maxLen; omega) (by omega) (by have : B < w6.drew.heap.size := hBs; simp; omega) ?_
                    intro v7 w7 hown7 hg7
                    obtain ⟨A7, c7, hv7, hc7⟩ := own_form hown7
                    subst hv7
                    have hV7 : VAt w7 B ⟨va, vt, vx, vr, vn, vh, vl⟩ (.slice A5 m5 c5) p y := v_kept (w := w6.drew) HV6.out HOB5.out hg7
                    have hR7 : w7.heap[N0]? = some (.cells #[.string P, .int .i64 xb, .int .i64 xe, .slice Am lm cm] 101 (0, 0)) := by
                      have h1 := block_alloc (W := w6.drew) (.cells #[.string P, .int .i64 xb, .int .i64 xe, .slice Am lm cm] 101) HR6.out
                      exact (hg7.block N0 (Array.getElem?_eq_some_iff.1 h1).1 HOL5.out).trans h1
                    have hB7 : Below B W w7 := (((HB6.out.drew).alloc (by have : B < w6.drew.heap.size := hBs; omega) _).grown hg7 (by have : B < w6.drew.heap.size := hBs; simp; omega) (fun k e => by have := (own_low HO6.out k e).1; omega))
                    have e7 : w7.cell? ⟨B, 7, none⟩ = some (.slice A5 m5 c5) := cell_of hV7 rfl
                    have f7 : w7.frozen? ⟨B, 7, none⟩ = false := frozen_of hV7
                    have HK7 := Lib.hid (show KeepP W w7 from (HK6.out.trans (keep_below (w' := w6.drew.alloc (.cells #[.string P, .int .i64 xb, .int .i64 xe, .slice Am lm cm] 101)) ((Below.refl _ w6).drew.alloc (Nat.le_refl _) _))).trans (keep_grown hg7 (own_typed (World.ownsRow.alloc (w := w6.drew) HO6.out _) (by decide))))
                    have HOWN7 := Lib.hid hown7
                    have HV7 := Lib.hid hV7
                    have HR7 := Lib.hid hR7
                    have HB7 := Lib.hid hB7
                    clear hown7 hg7 hV7 hR7 hB7 s7 s7d s7a r0' r1 r2 r3 r0d r1d r2d r3d
                    refine hK _ _ ?_; clear hK K
                    try simp only [Act.put, List.setIfInBounds_toArray, List.set_cons_zero, List.set_cons_succ]
                    refine wpAny_take (i := 8) (oi := ?oi1022) (v := ?v1022) ?hi1022 (by kernel_rfl) (by kernel_rfl) (by kernel_rfl) ?hq1022 ?hy1022 ?hr1022
                    case hi1022 => (simp only [List.getElem?_toArray, List.getElem?_cons_succ, List.getElem?_cons_zero]; rfl)
                    case hq1022 => exact fun _ _ _ h => h
                    case hy1022 => exact Or.inl ⟨by rfl, by intro w; (first | (go_simp; done) | (go_simp; with_reducible rfl))⟩
                    try simp only [Act.put, List.setIfInBounds_toArray, List.set_cons_zero, List.set_cons_succ]
                    refine wpAny_take (i := 9) (oi := ?oi1023) (v := ?v1023) ?hi1023 (by kernel_rfl) (by kernel_rfl) (by kernel_rfl) ?hq1023 ?hy1023 ?hr1023
                    case hi1023 => (simp only [List.getElem?_toArray, List.getElem?_cons_succ, List.getElem?_cons_zero]; rfl)
                    case hq1023 => exact fun _ _ _ h => h
                    case hy1023 => exact Or.inl ⟨by rfl, by intro w; (first | (go_simp; done) | (go_simp; with_reducible rfl))⟩
                    try simp only [Act.put, List.setIfInBounds_toArray, List.set_cons_zero, List.set_cons_succ]
                    refine wpAny_ready (rs := [10]) (by kernel_rfl) (by simp) ?_
                    refine AllReady.cons (o := ?oo1024) ?hi1024 (fun K hK => ?hs1024) ?hm1024
                    case hi1024 => (simp only [List.getElem?_toArray, List.getElem?_cons_succ, List.getElem?_cons_zero]; rfl)
                    · go_simp
                      refine hK _ _ ?_; clear hK K
                      try simp only [Act.put, List.setIfInBounds_toArray, List.set_cons_zero, List.set_cons_succ]
                      refine wpAny_done (by kernel_rfl) ?_ _
                      have hown7 := HOWN7.out
                      have hV7 := HV7.out
                      have hR7 := HR7.out
                      have hB7 := HB7.out
                      obtain ⟨w8, hw8⟩ : ∃ w8, w7.setCell ⟨B, 7, none⟩ (.slice A7 (m5 + 1) c7) = w8 := ⟨_, rfl⟩
                      have hV8 : VAt w8 B ⟨va, vt, vx, vr, vn, vh, vl⟩ (.slice A7 (m5 + 1) c7) p y := by rw [← hw8]; exact set_of hV7 _
                      have hR8 : w8.heap[N0]? = some (.cells #[.string P, .int .i64 xb, .int .i64 xe, .slice Am lm cm] 101 (0, 0)) := by rw [← hw8]; exact block_other _ hR7 (by have := HBL.out; have := HN0.out; omega)
                      have hO8 : w8.ownsRow (B + 1) 101 4 (.slice A7 (m5 + 1) c7) (m5 + 1) ((os.filter (keepO xb)).flatMap encO ++ [.string P, .int .i64 xb, .int .i64 xe, .slice Am lm cm]) := by rw [← hw8]; exact ownsRow_setCell_below hown7 (by show B < B + 1; omega) _
                      have hB8 : Below B W w8 := by
                        rw [← hw8]
                        exact hB7.trans ⟨rfl, rfl, rfl, by simp [World.setCell], fun k hk => Below.heap_setCell _ _ _ k (by show k ≠ B; omega)⟩
                      -- the new open regions
                      have hos2 : ((os.filter (keepO xb)) ++ [(⟨x, Am, lm, cm⟩ : Og)]).map (·.x) = openAll (c.regs.take ((k + 1) + 1)) := by
                        rw [HOP.out, List.map_append, ← HXB.out, keep_open]
                        rfl
                      have hfl : (os.filter (keepO xb)).flatMap encO ++ [.string P, .int .i64 xb, .int .i64 xe, .slice Am lm cm] = ((os.filter (keepO xb)) ++ [(⟨x, Am, lm, cm⟩ : Og)]).flatMap encO := by
                        rw [List.flatMap_append, List.flatMap_singleton]
                        unfold encO
                        rw [HP.out, HXB.out, HXE.out]
                      have hlen : ((os.filter (keepO xb)) ++ [(⟨x, Am, lm, cm⟩ : Og)]).length = m5 + 1 := by rw [List.length_append, HM5.out]; rfl
                      obtain ⟨os2, hos2'⟩ : ∃ os2, ((os.filter (keepO xb)) ++ [(⟨x, Am, lm, cm⟩ : Og)]) = os2 := ⟨_, rfl⟩
                      rw [hos2'] at hos2 hfl hlen
                      rw [hfl, ← hlen] at hO8
                      obtain ⟨t1, t2⟩ := HRO.out (by rw [HXB.out, HXE.out]; exact HXX.out) (by first | rfl | trivial)
                      have hcn := containsFunc_reg stays_og (rows_of_own encO_len hO8) (by unfold maxLen; omega) 62 #[.pointer (some ⟨N0, 0, none⟩)] (enters_of Tryz.func62 (by kernel_rfl) rfl) (fun o => decide (o.x.name = x.name) && decide (o.x.e < x.e)) (by
                        intro W' o u0 u1 u2 u3 hW' _ hE
                        have hE : [u0, u1, u2, u3] = encO o := hE
                        have := region2_any o x N0 (.slice Am lm cm) W' (by rw [HP.out, HXB.out, HXE.out]; exact block_below hR8 hW' (Array.getElem?_eq_some_iff.1 hR8).1)
                        rw [← hE] at this
                        exact this)
                      have hany : os2.any (fun o => decide (o.x.name = x.name) && decide (o.x.e < x.e)) = (c.regs.take (k + 1)).any (crosses x) := by
                        rw [← t2, ← hos2, List.any_map]
                        rfl
                      rw [hany, hlen] at hcn
                      have hdeep : ((c.regs.take ((k + 1) + 1)).filter (holds x)).length = m5 + 1 := by rw [← t1, ← hos2, List.length_map, hlen]
                      rw [hlen] at hO8
                      have HAE2 := Lib.hid (HAE.out)
                      have hae2 : r0 = if (c.regs.take (k + 1)).any (crosses x) then 13 else if 40 < m5 + 1 then 2 else 0 := by
                        rw [HAE.out, hdeep]
                        rfl
                      obtain ⟨cr, hcr⟩ : ∃ cr, (c.regs.take (k + 1)).any (crosses x) = cr := ⟨_, rfl⟩
                      rw [hcr] at hcn hae2
                      have HCN := Lib.hid hcn
                      have HA2 := Lib.hid hae2
                      have HK8 := Lib.hid (show KeepP W w8 from hw8 ▸ HK7.out.trans (keep_set hV7))
                      have HW8 := Lib.hid hw8
                      have HV8 := Lib.hid hV8
                      have HO8 := Lib.hid hO8
                      have HB8 := Lib.hid hB8
                      have HOS2 := Lib.hid hos2
                      have HLEN := Lib.hid hlen
                      clear hown7 hV7 hR7 hB7 hw8 hV8 hR8 hO8 hB8 hos2 hfl hos2' t1 t2 hcn hany hdeep hcr hae2 hlen hBs
                      rw [HW8.out]
                      clear e7 f7
                      have s7 : w8.cell? ⟨B, 7, none⟩ = some (.slice A7 (m5 + 1) c7) := cell_of HV8.out rfl
                      go_wp2_with fail
                      refine HCN.out.mono ?_
                      rintro e w9 ⟨rfl, hb9⟩
                      have HV9 := Lib.hid (HV8.out.below hb9)
                      have HO9 := Lib.hid (own_after HO8.out hb9)
                      have HB9 := Lib.hid (HB8.out.trans (hb9.mono (by have := HV8.out.lt; omega)))
                      have HK9 := Lib.hid (HK8.out.trans (keep_below hb9))
                      have s9 : w9.cell? ⟨B, 7, none⟩ = some (.slice A7 (m5 + 1) c7) := cell_of HV9.out rfl
                      clear hb9 s7
                      cases cr with
                      | true =>
                        go_wp2_with fail
                        go_ret
                        exact ⟨by rw [HA2.out]; rfl, HB9.out, HK9.out, fun h => by rw [HA2.out] at h; cases h⟩
                      | false =>
                        by_cases h40 : 40 < m5 + 1
                        · have hr2 : Hid (r0 = 2) := Lib.hid (by rw [HA2.out, if_neg (by decide), if_pos h40])
                          have h40i : (40 : Int) < (m5 : Int) + 1 := by omega
                          go_wp2_with fail
                          go_ret
                          exact ⟨by rw [hr2.out]; rfl, HB9.out, HK9.out, fun h => by rw [hr2.out] at h; cases h⟩
                        · have hr2 : Hid (r0 = 0) := Lib.hid (by rw [HA2.out, if_neg (by decide), if_neg h40])
                          have h40i : ¬ (40 : Int) < (m5 : Int) + 1 := by omega
                          go_wp2_with fail
                          go_ret
                          exact ⟨by rw [hr2.out]; rfl, HB9.out, HK9.out, fun _ => ⟨_, HV9.out, os2, HOS2.out, by rw [HLEN.out]; exact HO9.out⟩⟩
                    exact AllReady.nil
                  exact AllReady.nil
                exact AllReady.nil
              exact AllReady.nil
            exact AllReady.nil
      · have h0i : ¬ ((z : Int) = 0) := by omega
        have HH : Hid (r0 = z) := Lib.hid (by rw [HAE.out]; simp [h0])
        go_wp2_with fail
        go_ret
        exact ⟨by rw [HH.out]; rfl, HB3.out.mono (by have := HN0.out; have := HBL.out; omega), keep_below HB3.out, fun h => absurd (HH.out.symm.trans h) h0⟩
end Go.Proofs.YtmjmidgfdjcbfaaGreatDoor
