/-
  WALKS over package tokens, first part: Len, Kind, put, countsOf.
  WALKS over package tokens, second part: payload.
-/
import Derived.Test.YteennnhinfnahaaDoorTzR
import Derived.Deep.RegionHeld3
import Derived.Deep.CutRange
namespace Go.Proofs.YteennnhinfnahaaDoor
open Go.RowKit Go.Shelf Go.Lib
set_option linter.unusedVariables false
set_option linter.unusedSimpArgs false

/-- The four cells of a stream. -/
theorem s_cells {W : World} {g : Nat} {sz kd : Int} {vl vb : Value} {t : TypeId} {f : Nat × Nat} (h : W.heap[g]? = some (.cells #[.int .i64 sz, .int .i64 kd, vl, vb] t f)) :
    W.cell? ⟨g, 0, none⟩ = some (.int .i64 sz) ∧ W.cell? ⟨g, 1, none⟩ = some (.int .i64 kd) ∧ W.cell? ⟨g, 2, none⟩ = some vl ∧ W.cell? ⟨g, 3, none⟩ = some vb := ⟨cell_of h rfl, cell_of h rfl, cell_of h rfl, cell_of h rfl⟩
theorem lenT_any {w : World} {g : Nat} {S : Stm} (h : SAt w g S) : Calls Tryd.prog 9 #[.pointer (some ⟨g, 0, none⟩)] w fun e w' => e = .returned (.int .i64 (S.size : Nat)) ∧ w' = w := by
  obtain ⟨vl, vb, h1, -, -⟩ := h
  have c0 := cell_of (i := 0) h1 rfl
  clear h1
  go_enter Tryd.func9, Tryd.ntmps9
  go_wp2_with fail
  go_ret
  exact ⟨rfl, rfl⟩
theorem kindT_any {w : World} {g : Nat} {S : Stm} (h : SAt w g S) : Calls Tryd.prog 16 #[.pointer (some ⟨g, 0, none⟩)] w fun e w' => e = .returned (.int .i64 (S.kind : Nat)) ∧ w' = w := by
  obtain ⟨vl, vb, h1, -, -⟩ := h
  have c0 := cell_of (i := 1) h1 rfl
  clear h1
  go_enter Tryd.func16, Tryd.ntmps16
  go_wp2_with fail
  go_ret
  exact ⟨rfl, rfl⟩
/-- A row of bytes that a function goes on writing. -/
def PutV (base : Nat) (w : World) (v : Value) (L : List UInt8) (e : Ending) (w' : World) : Prop := ∃ v', e = .returned v' ∧ w'.ownsRow base 5 1 v' L.length (Lib.byteCells L) ∧ w.grownBy w' v.ownBlock
theorem grown_other {X Y : World} {base : Nat} {e : TypeId} {size k : Nat} {v : Value} {xs : List Value} (h : X.ownsRow base e size v k xs) (hg : X.grownBy Y v.ownBlock) {B : Nat} {o : Array Value} {t : TypeId} {f : Nat × Nat} (hB : X.heap[B]? = some (.cells o t f)) (hne : t ≠ e) : Y.heap[B]? = some (.cells o t f) := by
  refine (hg.block B (Array.getElem?_eq_some_iff.1 hB).1 fun e' => ?_).trans hB
  obtain ⟨c2, h3⟩ := own_type h e'.symm
  rw [hB] at h3
  injection h3 with h3
  injection h3 with _ h3 _
  exact hne h3
/-- A byte that has been laid to be appended. -/
theorem seesB_new (W : World) (x : Nat) (hx : x < 256) : Sees (W.alloc (.cells #[.int .u8 (x : Int)] 5)) (W.heap.size + 1) (.slice (some ⟨W.heap.size, 0, none⟩) 1 1) [UInt8.ofNat x] := by
  refine .inr ⟨_, 1, rfl, Nat.le_refl _, fun _ => Nat.lt_succ_self _, fun j hj => ?_⟩
  obtain rfl : j = 0 := by simp at hj; omega
  have h := cell_of (i := 0) (block_new W (.cells #[.int .u8 (x : Int)] 5)) rfl
  rw [add_plain]
  rw [h, List.getElem_cons_zero, toNat_ofB x hx]
  rfl
/-- append of bytes that are read, at a step of a region that draws its order. -/
theorem step_catB {w : World} {ops : Array Oper} {o : Oper} {a : Act} {K : Act → World → Prop} {Q : Exit → Act → World → Prop} {E : Prop} (hgd : o.guard = none) (s x : Operand)
    (ho : o.op = .call { callee := .builtin .append, args := #[s, x], argTypes := #[44, 44] }) (base : Nat) (v : Value) (L : List UInt8) (hs : a.eval s = v) (hown : w.ownsRow base 5 1 v L.length (Lib.byteCells L))
    (vx : Value) (B : Nat) (M : List UInt8) (hx : a.eval x = vx) (hn : Sees w B vx M) (h63 : L.length + M.length ≤ 100000) (hbase : base ≤ w.heap.size)
    (h : ∀ v' w', Hid (w'.ownsRow base 5 1 v' (L ++ M).length (Lib.byteCells (L ++ M))) → Hid (w.grownBy w' v.ownBlock) → K (a.put o.dst v') w') :
    if Region.wanted o (yielded ops a.tmps) = true then Oper.wp Tryd.prog o a w K Q else E := by
  obtain ⟨i0, hi, hz0, hz1, hz2⟩ := info_parts' Tryd.infoByte
  have hcl := Lib.byteCells_length M
  refine step_append_any hgd s x 44 ho base 5 i0 _ 1 Tryd.underlying44 hi hz0 hz1 hz2 rfl v L.length (Lib.byteCells L) hs hown vx B (Lib.byteCells M) hx hn.cells (bytes_one M) (by rw [hcl]; unfold maxLen; omega) (by rw [hcl]; omega) hbase ?_
  intro v' w' h1 h2 _
  refine h v' w' (Lib.hid ?_) (Lib.hid h2)
  rw [hcl] at h1
  rw [List.length_append, byteCells_app]
  exact h1
theorem putT_any {w : World} {base : Nat} {v : Value} {L : List UInt8} (ho : w.ownsRow base 5 1 v L.length (Lib.byteCells L)) (hb : base ≤ w.heap.size) (x : Nat) (hx : x < 9223372036854775808) (h63 : L.length ≤ 99000) :
    Calls Tryd.prog 28 #[v, .int .i64 x] w (PutV base w v (L ++ enc x)) := by
  have HP := Lib.hid (put_any (w := w) (Sees.nil w _) (by simp) x (by omega))
  have hten := enc_ten x (by omega)
  have hu : IntKind.u64.wrap (x : Int) = (x : Int) := by rw [IntKind.wrap_u64]; omega
  have HO := Lib.hid ho
  have HTEN := Lib.hid (show L.length + (enc x).length ≤ 100000 by omega)
  obtain ⟨A, cap, rfl, -⟩ := own_form ho
  obtain ⟨n, hn⟩ : ∃ n, L.length = n := ⟨_, rfl⟩
  have HB := Lib.hid hb
  obtain ⟨M, hM⟩ : ∃ M, enc x = M := ⟨_, rfl⟩
  rw [hM, List.nil_append] at HP
  rw [hM] at HTEN ⊢
  rw [hn] at HO ⊢
  have HN := Lib.hid hn
  clear ho hten hx h63 hb hn hM
  go_enter Tryd.func28, Tryd.ntmps28
  go_wp2_with fail
  refine HP.out.mono ?_
  rintro e w2 ⟨v2, rfl, ho2, hb2⟩
  have HO1 : Hid (w2.ownsRow base 5 1 (.slice A n cap) L.length (Lib.byteCells L)) := Lib.hid (by rw [HN.out]; exact own_below HO.out fun k e => hb2.block k (own_low HO.out k e).2)
  have HS2 := Lib.hid (sees_own ho2)
  have HB2 := Lib.hid (grown_below hb2 (Value.slice A n cap).ownBlock)
  have HZ := Lib.hid (show base ≤ w2.heap.size from Nat.le_trans HB.out hb2.size)
  clear ho2 hb2 HP
  go_wp2_with (at_builtin; refine wpList_catB rfl (.tmp 5) (.tmp 8) rfl base _ L rfl HO1.out _ _ M rfl HS2.out HTEN.out HZ.out ?_)
  intro v3 w3 HO3 HG3
  have HF : Hid (PutV base w (.slice A n cap) (L ++ M) (.returned v3) w3) := Lib.hid ⟨v3, rfl, by rw [List.length_append]; exact HO3.out, grown_trans HB2.out HG3.out⟩
  clear HO3 HG3 HO1 HS2 HB2
  go_wp2_with fail
  go_ret
  exact HF.out

/-- Between two numbers of countsOf's second loop. -/
def CoAt (w : World) (D m : Nat) (ns : List Nat) (k : Nat) (wr : World) : Prop := Below w.heap.size w wr ∧ wr.heap[D]? = some (.cells (intRow (cntT m (ns.take k))) 3 (0, 0))
def RowV (w : World) (l : List Int) (e : Ending) (w' : World) : Prop := ∃ v, e = .returned v ∧ Rows 1 EInt w' v l ∧ Below w.heap.size w w'
theorem make_intT (n : Nat) (hn : n ≤ 100000) (W : World) : (Instr.makeSlice 22 (.int .i64 n) (.int .i64 n)).run Tryd.prog W = .ok (.slice (some ⟨W.heap.size, 0, none⟩) n n) (W.alloc (.cells (intRow (List.replicate n 0)) 3)) := by
  obtain ⟨i1, hi1, hy0, hy1, hy2⟩ := info_parts' Tryd.infoInt2
  have := run_make (P := Tryd.prog) W 22 3 i1 _ Tryd.underlying22 hi1 hy0 .i64 .i64 n n (by omega) (by omega) (by rw [hy2]; omega) (by omega)
  rw [Int.toNat_natCast, hy1, Nat.mul_one] at this
  rw [← made_int]
  exact this
set_option maxRecDepth 100000 in
set_option maxHeartbeats 4000000 in
theorem countsT_any {w : World} {v : Value} {ns : List Nat} (hv : Rows 1 EInt w v (castN' ns)) (hok : okT ns) :
    Calls Tryd.prog 26 #[v] w (RowV w (cntT (topT ns) ns)) := by
  obtain ⟨A, cap, rfl, hc⟩ := hv.form
  obtain ⟨n, hn⟩ : ∃ n, ns.length = n := ⟨_, rfl⟩
  have HV := Lib.hid (fun W (hb : Below w.heap.size w W) => hv.below stays_int hb)
  have HN := Lib.hid hn
  have HOK := Lib.hid hok
  have hn4 : n ≤ 4096 := by rw [← hn]; exact hok.1
  rw [castN'_len, hn] at HV ⊢
  obtain ⟨T, hT⟩ : ∃ T, topT ns = T := ⟨_, rfl⟩
  have hT4 : T ≤ 1024 := by rw [← hT]; exact topT_le hok.2
  have HT := Lib.hid hT
  rw [hT]
  clear hv hc hn hok hT
  go_enter Tryd.func26, Tryd.ntmps26
  go_wp2_with fail
  go_loopw [3, 11] (fun tv iv wr => wr = w ∧ ∃ k t : Nat, k ≤ n ∧ iv = .int .i64 k ∧ tv = .int .i64 t ∧ Hid (topT (ns.take k) = t)) (fun _ iv _ => n - (Go.RowKit.intOf iv).toNat)
  case atStart => exact ⟨rfl, 0, 0, Nat.zero_le _, rfl, rfl, Lib.hid rfl⟩
  case round =>
    obtain ⟨rfl, k, t, hk, rfl, rfl, HTK⟩ := hrel
    by_cases hlt : k < n
    · have hlti : (k : Int) < (n : Int) := by omega
      obtain ⟨x, hx⟩ : ∃ x, ns[k]? = some x := ⟨_, List.getElem?_eq_getElem (by rw [HN.out]; exact hlt)⟩
      obtain ⟨b, o, rfl, -, hj⟩ := at_int (HV.out _ (Below.refl _ _)) (by rw [castN'_len, HN.out]; omega)
      have u0 := hj k (x : Int) (by unfold castN'; rw [List.getElem?_map, hx]; rfl)
      have hx10 := HOK.out.2 x (List.mem_of_getElem? hx)
      have ht10 : t ≤ 1024 := by rw [← HTK.out]; exact topT_le fun y hy => HOK.out.2 y (List.mem_of_mem_take hy)
      obtain ⟨s, hs⟩ : ∃ s, max t (x + 1) = s := ⟨_, rfl⟩
      have HNX : Hid (topT (ns.take (k + 1)) = s) := Lib.hid (by rw [topT_step hx, HTK.out, hs])
      have hmx : max (t : Int) ((x : Int) + 1) = (s : Int) := by omega
      have hw1 : IntKind.i64.wrap ((x : Int) + 1) = (x : Int) + 1 := by rw [IntKind.wrap_i64]; omega
      clear hj hx hs HTK
      go_wp2_with fail
      exact ⟨⟨trivial, k + 1, s, by omega, by go_num, rfl, HNX⟩, by simp only [Go.RowKit.intOf]; omega⟩
    · obtain rfl : k = n := by omega
      have hlti : ¬ (k : Int) < (k : Int) := by omega
      have htT : t = T := by rw [← HTK.out, ← HT.out, List.take_of_length_le (Nat.le_of_eq HN.out)]
      subst htT
      have hmk := make_intT t (by omega) wr
      have h0t : (0 : Int) ≤ (t : Int) := by omega
      obtain ⟨D, hD⟩ : ∃ D, wr.heap.size = D := ⟨_, rfl⟩
      have HST : Hid (CoAt wr D t ns 0 (wr.alloc (.cells (intRow (List.replicate t 0)) 3))) := Lib.hid ⟨below_box _ _, by rw [List.take_zero, cntT_nil, ← hD]; exact block_new wr _⟩
      have HDD := Lib.hid hD
      clear HTK hD
      obtain ⟨w1, rfl⟩ : ∃ w1, w1 = wr := ⟨_, rfl⟩
      go_wp2_with fail
      rw [HDD.out]
      go_loopw [24] (fun iv w9 => ∃ j : Nat, j ≤ k ∧ iv = .int .i64 j ∧ Hid (CoAt w1 D t ns j w9)) (fun iv _ => k - (Go.RowKit.intOf iv).toNat)
      case atStart => exact ⟨0, Nat.zero_le _, rfl, HST⟩
      case round =>
        clear HST hmk
        obtain ⟨j, hj, rfl, HC⟩ := hrel
        by_cases hlt : j < k
        · have hlj : (j : Int) < (k : Int) := by omega
          obtain ⟨x, hx⟩ : ∃ x, ns[j]? = some x := ⟨_, List.getElem?_eq_getElem (by rw [HN.out]; exact hlt)⟩
          obtain ⟨b, o, rfl, -, hjj⟩ := at_int (HV.out _ HC.out.1) (by rw [castN'_len, HN.out]; omega)
          have u0 := hjj j (x : Int) (by unfold castN'; rw [List.getElem?_map, hx]; rfl)
          have hxT : x < t := by rw [← HT.out]; exact topT_lt (List.mem_of_getElem? hx)
          obtain ⟨c, hc⟩ : ∃ c, (ns.take j).count x = c := ⟨_, rfl⟩
          have hc4 : c ≤ 4096 := by
            have h1 := List.count_le_length (a := x) (l := ns.take j)
            rw [List.length_take, HN.out] at h1
            omega
          have hstep := cntT_step hx hxT
          rw [hc] at hstep
          have hat := cntT_at (ns.take j) hxT
          rw [hc] at hat
          have q0 : wr.cell? ⟨D, x, none⟩ = some (.int .i64 (c : Int)) := cell_of HC.out.2 (by
            have := intRow_get (l := cntT t (ns.take j)) (i := x) (by rw [cntT_len]; exact hxT)
            rw [this, List.getD_eq_getElem?_getD, hat]; rfl)
          have q1 : wr.frozen? ⟨D, x, none⟩ = false := frozen_of HC.out.2
          have hw1 : IntKind.i64.wrap ((c : Int) + 1) = (c : Int) + 1 := by rw [IntKind.wrap_i64]; omega
          have hxi : (x : Int) < (t : Int) := by omega
          have HNX : Hid (CoAt w1 D t ns (j + 1) (wr.setCell ⟨D, x, none⟩ (.int .i64 ((c : Int) + 1)))) := Lib.hid ⟨HC.out.1.setCell (p := ⟨D, x, none⟩) (Nat.le_of_eq HDD.out) _, by rw [← hstep, ← intRow_set]; exact Lib.heap_setCell_same HC.out.2 _⟩
          clear hjj hx hc hstep hat HC
          go_wp2_with fail
          exact ⟨⟨j + 1, by omega, by go_num, HNX⟩, by simp only [Go.RowKit.intOf]; omega⟩
        · obtain rfl : j = k := by omega
          have hlj : ¬ (j : Int) < (j : Int) := by omega
          have HE : Hid (RowV w1 (cntT t ns) (.returned (.slice (some ⟨D, 0, none⟩) t t)) wr) := Lib.hid ⟨_, rfl, by
            have h := HC.out.2
            rw [List.take_of_length_le (Nat.le_of_eq HN.out)] at h
            exact rows_int (cntT_len _ _) (Nat.le_refl _) h, HC.out.1⟩
          clear HC
          go_wp2_with fail
          go_ret
          exact HE.out
end Go.Proofs.YteennnhinfnahaaDoor
namespace Go.Proofs.YteennnhinfnahaaDoor
open Go.RowKit Go.Shelf Go.Lib
set_option linter.unusedVariables false
set_option linter.unusedSimpArgs false

/-- A payload that is being written. -/
structure PyAt (w : World) (bv : Value) (L : List UInt8) (wr : World) : Prop where
  bl : Below w.heap.size w wr
  own : wr.ownsRow w.heap.size 5 1 bv L.length (Lib.byteCells L)
theorem PyAt.put {w wr w2 : World} {bv v2 : Value} {L M : List UInt8} (h : PyAt w bv L wr) (ho : w2.ownsRow w.heap.size 5 1 v2 M.length (Lib.byteCells M)) (hg : wr.grownBy w2 bv.ownBlock) : PyAt w v2 M w2 :=
  ⟨h.bl.grown hg h.bl.size (fun c ec => (own_low h.own c ec).1), ho⟩
theorem payP_snoc (l : List (Nat × List UInt8)) (p : Nat × List UInt8) : payP (l ++ [p]) = payP l ++ (enc p.1 ++ p.2) := by simp [payP]
theorem payP_step {l : List (Nat × List UInt8)} {k : Nat} {p : Nat × List UInt8} (h : l[k]? = some p) : payP (l.take (k + 1)) = payP (l.take k) ++ (enc p.1 ++ p.2) := by
  rw [List.take_add_one, h]; exact payP_snoc _ _
theorem payP_part (l : List (Nat × List UInt8)) (k : Nat) : (payP (l.take k)).length ≤ (payP l).length := by
  have h := congrArg List.length (show payP l = payP (l.take k) ++ payP (l.drop k) by unfold payP; rw [← List.flatMap_append, List.take_append_drop])
  rw [List.length_append] at h
  omega
/-- A stream's blocks, in all later worlds. -/
theorem pc_all {w : World} {A : Option Addr} {n cap : Nat} {xs : List (Nat × List UInt8)} (h : Rows 2 EPc w (.slice A n cap) xs) (h0 : 0 < xs.length) :
    ∃ b off, A = some ⟨b, off, none⟩ ∧ ∀ (j : Nat) (p : Nat × List UInt8), xs[j]? = some p → ∃ A2 c2, ∀ W, Below w.heap.size w W → W.cell? ⟨b, off + j * 2, none⟩ = some (.int .i64 (p.1 : Nat)) ∧ W.cell? ⟨b, off + j * 2 + 1, none⟩ = some (.slice A2 p.2.length c2) ∧ Sees W w.heap.size (.slice A2 p.2.length c2) p.2 := by
  obtain ⟨b, off, hA, hb, hj⟩ := at_pc h h0
  refine ⟨b, off, hA, fun j p hp => ?_⟩
  obtain ⟨v, h1, h2, h3⟩ := hj j p hp
  obtain ⟨A2, c2, rfl, -, -⟩ := h3.form2
  exact ⟨A2, c2, fun W hW => ⟨(hW.cell (p := ⟨b, off + j * 2, none⟩) hb).trans h1, (hW.cell (p := ⟨b, off + j * 2 + 1, none⟩) hb).trans h2, h3.below hW⟩⟩
set_option maxRecDepth 100000 in
set_option maxHeartbeats 4000000 in
theorem payloadT_any {w : World} {g : Nat} {S : Stm} (h : SAt w g S) (hok : okS S) (hlen : (payS S).length ≤ 90400) :
    Calls Tryd.prog 20 #[.pointer (some ⟨g, 0, none⟩)] w fun e w' => ∃ v', e = .returned v' ∧ w'.ownsRow w.heap.size 5 1 v' (payS S).length (Lib.byteCells (payS S)) ∧ Below w.heap.size w w' := by
  obtain ⟨vl, vb, h1, h2, h3⟩ := h
  have hgl : g < w.heap.size := (Array.getElem?_eq_some_iff.1 h1).1
  have HV := Lib.hid (fun W (hb : Below w.heap.size w W) => And.intro (block_below h1 hb hgl) (And.intro (h2.below stays_int hb) (h3.below stays_pc hb)))
  obtain ⟨Al, cl, rfl, -⟩ := h2.form
  obtain ⟨Ab, cb, rfl, -⟩ := h3.form
  obtain ⟨sz, kd, ls, bs⟩ := S
  obtain ⟨k1, k2, k3, k4, k5, k6⟩ := hok
  simp only at h1 HV k1 k2 k3 k4 k5 k6
  have hpay : payS ⟨sz, kd, ls, bs⟩ = enc sz ++ enc kd ++ payH ⟨sz, kd, ls, bs⟩ ++ payP bs := rfl
  have hH : payH ⟨sz, kd, ls, bs⟩ = if kd = 1 then enc ls.length ++ ls.map UInt8.ofNat else [] := rfl
  obtain ⟨PL, hPL⟩ : ∃ PL, payS ⟨sz, kd, ls, bs⟩ = PL := ⟨_, rfl⟩
  obtain ⟨H, hHH⟩ : ∃ H, payH ⟨sz, kd, ls, bs⟩ = H := ⟨_, rfl⟩
  rw [hHH] at hpay hH
  rw [hPL] at hpay hlen ⊢
  have HPL := Lib.hid hpay
  have HHE := Lib.hid hH
  have HPC := Lib.hid (fun h0 => pc_all h3 h0)
  clear hpay hH hHH hPL
  obtain ⟨n, hn⟩ : ∃ n, ls.length = n := ⟨_, rfl⟩
  obtain ⟨m, hm⟩ : ∃ m, bs.length = m := ⟨_, rfl⟩
  rw [castN'_len] at h1 HV
  rw [hn, hm] at h1 HV
  rw [hn] at k3 HHE
  rw [hm] at HPC
  have HN := Lib.hid hn
  have HM := Lib.hid hm
  have hm64 : m ≤ 64 := by rw [← hm, k5]; exact nbT_le k1
  clear k5
  have H4 := Lib.hid k4
  have H6 := Lib.hid k6
  have c0 := (s_cells h1).1
  have c1 := (s_cells h1).2.1
  have HLEN := Lib.hid hlen
  have hl1 := enc_ten sz (by omega)
  have HP1 := Lib.hid (putT_any (w := w.drew) (base := w.heap.size) (v := .slice none 0 0) (L := []) (World.ownsRow_nil _ _ _ _) (Nat.le_refl _) sz (by omega) (by decide))
  have HP2 := Lib.hid (fun (W : World) (v : Value) (h : W.ownsRow w.heap.size 5 1 v (enc sz).length (Lib.byteCells (enc sz))) (hb : w.heap.size ≤ W.heap.size) => putT_any h hb kd (by omega) (by omega))
  have HCL := Lib.hid (fun (W : World) (hb : Below w.heap.size w W) => show W.cell? ⟨g, 0, none⟩ = some (.int .i64 (sz : Nat)) ∧ W.cell? ⟨g, 1, none⟩ = some (.int .i64 (kd : Nat)) from ⟨(s_cells (HV.out W hb).1).1, (s_cells (HV.out W hb).1).2.1⟩)
  rw [List.nil_append] at HP1
  obtain ⟨N, hN⟩ : ∃ N, w.heap.size = N := ⟨_, rfl⟩
  rw [hN] at HP1 HP2 HCL HV HPC hgl
  have HNN := Lib.hid hN
  have HBD := Lib.hid (show Below N w w.drew from (Below.refl _ _).drew)
  clear h1 h2 h3 hn hm k4 k6 hlen hN hl1
  go_enter Tryd.func20, Tryd.ntmps20
  go_wp2_with fail
  go_region_held3 (fun w' => w'.cell? ⟨g, 0, none⟩ = some (.int .i64 (sz : Nat)) ∧ w'.cell? ⟨g, 1, none⟩ = some (.int .i64 (kd : Nat)))
    (first
      | go_keep
      | (with_reducible exact HCL.out _ HB4.out)
      | (with_reducible exact HCL.out _ HB3.out)
      | fail)
    ((first
      | (go_at_call 28; (with_reducible refine (HP2.out _ _ HO3.out HZ3.out).mono ?_); rintro e w4 ⟨v4, rfl, ho4, hg4⟩; have HO4 := Lib.hid ho4; have HB4 := Lib.hid (show Below N w w4 from HB3.out.grown hg4 HZ3.out (fun k e => (own_low HO3.out k e).1)); clear ho4 hg4)
      | (go_at_call 28; (with_reducible refine HP1.out.mono ?_); rintro e w3 ⟨v3, rfl, ho3, hg3⟩; have HO3 := Lib.hid ho3; have HB3 := Lib.hid (show Below N w w3 from HBD.out.grown hg3 (Nat.le_of_eq HNN.out.symm) (fun k e => by cases e)); have HZ3 := Lib.hid (show N ≤ w3.heap.size by rw [← HNN.out]; exact HB3.out.size); clear ho3 hg3)
      | fail))
  have hr4 := HV.out w4 HB4.out
  have d1 := (s_cells hr4.1).2.1
  have HPY : Hid (PyAt w v4 (enc sz ++ enc kd) w4) := Lib.hid ⟨by rw [HNN.out]; exact HB4.out, by rw [HNN.out]; exact HO4.out⟩
  clear hr4 HP1 HP2 HO3 HB3 HZ3 HB4 HO4 HBD c0 c1
  go_upto_if 22 with fail
  go_cut [3] from 18 to 44 (fun b3 wx => ∃ (bv : Value) (L0 : List UInt8), bv = b3 ∧ Hid (L0 ++ payP bs = PL) ∧ Hid (PyAt w bv L0 wx))
  case first =>
    by_cases hk : kd = 1
    · subst hk
      have hHE := HHE.out
      rw [if_pos rfl] at hHE
      have hlh : (enc n).length + n ≤ H.length := by rw [hHE, List.length_append, List.length_map, HN.out]; exact Nat.le_refl _
      have hlp : (enc sz).length + (enc 1).length + H.length ≤ 90400 := by have := HLEN.out; rw [HPL.out] at this; simp only [List.length_append] at this; omega
      have HHE1 := Lib.hid hHE
      clear hHE
      have d2 := (s_cells (HV.out w4 (by rw [← HNN.out]; exact HPY.out.bl)).1).2.2.1
      have HP3 := Lib.hid (putT_any HPY.out.own HPY.out.bl.size n (by omega) (by simp only [List.length_append]; omega))
      have hk11 : (((1 : Nat) : Int) == 1) = true := rfl
      go_wp2_with fail
      refine HP3.out.mono ?_
      rintro e w5 ⟨v5, rfl, ho5, hg5⟩
      have HPZ : Hid (PyAt w v5 (enc sz ++ enc 1 ++ enc n ++ (ls.take 0).map UInt8.ofNat) w5) := Lib.hid (by rw [List.take_zero, List.map_nil, List.append_nil]; exact HPY.out.put ho5 hg5)
      have d3 := (s_cells (HV.out w5 (by rw [← HNN.out]; exact HPZ.out.bl)).1).2.2.1
      clear HPY HP3 ho5 hg5 d1 d2 hk11
      go_wp2_with fail
      go_loopw [3, 35] (fun bv0 iv wr => ∃ (bv : Value) (k : Nat), bv = bv0 ∧ k ≤ n ∧ iv = .int .i64 k ∧ Hid (PyAt w bv (enc sz ++ enc 1 ++ enc n ++ (ls.take k).map UInt8.ofNat) wr)) (fun _ iv _ => n - (Go.RowKit.intOf iv).toNat)
      case atStart => exact ⟨_, 0, rfl, Nat.zero_le _, rfl, HPZ⟩
      case round =>
        clear HPZ d3
        obtain ⟨bv, k, rfl, hkn, rfl, HT⟩ := hrel
        by_cases hlt : k < n
        · have hlti : (k : Int) < (n : Int) := by omega
          obtain ⟨x, hx⟩ : ∃ x, ls[k]? = some x := ⟨_, List.getElem?_eq_getElem (by rw [HN.out]; exact hlt)⟩
          obtain ⟨b, o, rfl, -, hj⟩ := at_int (HV.out _ (by rw [← HNN.out]; exact HT.out.bl)).2.1 (by rw [castN'_len, HN.out]; omega)
          have u0 := hj k (x : Int) (by unfold castN'; rw [List.getElem?_map, hx]; rfl)
          have hx8 := H4.out x (List.mem_of_getElem? hx)
          have hw1 : IntKind.u8.wrap (x : Int) = (x : Int) := by rw [IntKind.wrap_u8]; omega
          have hst : (ls.take (k + 1)).map UInt8.ofNat = (ls.take k).map UInt8.ofNat ++ [UInt8.ofNat x] := by rw [List.take_add_one, hx, List.map_append]; rfl
          have hl : (enc sz ++ enc 1 ++ enc n ++ (ls.take k).map UInt8.ofNat).length ≤ 90400 := by
            simp only [List.length_append, List.length_map, List.length_take]
            omega
          have HST := Lib.hid hst
          have HL := Lib.hid hl
          have HSN := Lib.hid (seesB_new wr x hx8)
          have HO := Lib.hid (HT.out.own.alloc (.cells #[.int .u8 (x : Int)] 5))
          obtain ⟨LL, hLL⟩ : ∃ LL, enc sz ++ enc 1 ++ enc n ++ (ls.take k).map UInt8.ofNat = LL := ⟨_, rfl⟩
          rw [hLL] at HT HO HL
          have hof := own_form HT.out.own
          obtain ⟨ln, hln⟩ : ∃ ln, LL.length = ln := ⟨_, rfl⟩
          rw [hln] at hof
          obtain ⟨bA, bc, rfl, -⟩ := hof
          have HLL := Lib.hid hLL
          have HLN := Lib.hid hln
          clear hx hx8 hst hl hj hLL hln
          go_wp2_with (at_builtin; refine wpList_catB rfl (.tmp 39) (.tmp 42) rfl w.heap.size _ LL rfl HO.out _ _ [UInt8.ofNat x] rfl HSN.out (by rw [List.length_singleton]; have := HL.out; omega) (by rw [World.size_alloc]; have := HT.out.bl.size; omega) ?_)
          intro v6 w6 HO6 HG6
          have HNX : Hid (PyAt w v6 (enc sz ++ enc 1 ++ enc n ++ (ls.take (k + 1)).map UInt8.ofNat) w6) := Lib.hid (by
            rw [HST.out, ← List.append_assoc, HLL.out]
            have hgr : wr.grownBy w6 (Value.slice bA ln bc).ownBlock := grown_trans (grown_below (below_box wr _) _) HG6.out
            exact ⟨HT.out.bl.grown hgr HT.out.bl.size (fun c ec => (own_low HT.out.own c ec).1), by rw [List.length_append]; exact HO6.out⟩)
          clear HO6 HG6 HT HO HSN
          go_wp2_with fail
          exact ⟨⟨_, k + 1, rfl, by omega, by go_num, HNX⟩, by simp only [Go.RowKit.intOf]; omega⟩
        · obtain rfl : k = n := by omega
          have hlti : ¬ (k : Int) < (k : Int) := by omega
          have HPX : Hid (PyAt w bv (enc sz ++ enc 1 ++ H) wr) := Lib.hid (by
            have h := HT.out
            rw [List.take_of_length_le (Nat.le_of_eq HN.out)] at h
            rw [HHE1.out, ← List.append_assoc]
            exact h)
          have HQ0 : Hid (enc sz ++ enc 1 ++ H ++ payP bs = PL) := Lib.hid HPL.out.symm
          clear HT
          go_wp2_with fail
          go_meet
          exact ⟨_, _, rfl, HQ0, HPX⟩
    · have hk1 : ((kd : Int) == 1) = false := by simp; omega
      have hHE := HHE.out
      rw [if_neg hk] at hHE
      have HQ0 : Hid (enc sz ++ enc kd ++ payP bs = PL) := Lib.hid (by rw [HPL.out, hHE, List.append_nil])
      clear hk hHE
      go_wp2_with fail
      go_meet
      exact ⟨_, _, rfl, HQ0, HPY⟩
  case rest =>
    obtain ⟨bv, L0, rfl, HL0, HPX⟩ := hcut
    obtain ⟨wx, rfl⟩ : ∃ wx, wx = wc := ⟨_, rfl⟩
    clear HPY HCL HHE d1 H4 HN HPL
    have HPZ : Hid (PyAt w bv (L0 ++ payP (bs.take 0)) wx) := Lib.hid (by rw [List.take_zero]; unfold payP; rw [List.flatMap_nil, List.append_nil]; exact HPX.out)
    have e3 := (s_cells (HV.out wx (by rw [← HNN.out]; exact HPX.out.bl)).1).2.2.2
    clear HPX
    go_wp2_with fail
    go_loopw [3, 50] (fun bv0 iv wr => ∃ (bv : Value) (k : Nat), bv = bv0 ∧ k ≤ m ∧ iv = .int .i64 k ∧ Hid (PyAt w bv (L0 ++ payP (bs.take k)) wr)) (fun _ iv _ => m - (Go.RowKit.intOf iv).toNat)
    case atStart => exact ⟨_, 0, rfl, Nat.zero_le _, rfl, HPZ⟩
    case round =>
      clear HPZ e3
      obtain ⟨bv, q, rfl, hqm, rfl, HT⟩ := hrel
      by_cases hlt : q < m
      · have hlti : (q : Int) < (m : Int) := by omega
        obtain ⟨⟨x, C⟩, hx⟩ : ∃ x, bs[q]? = some x := ⟨_, List.getElem?_eq_getElem (by rw [HM.out]; exact hlt)⟩
        obtain ⟨b, o, rfl, hpc⟩ := HPC.out (by omega)
        have HQ1 := Lib.hid (show q + 1 ≤ m by omega)
        obtain ⟨A2, c2, hpw⟩ := hpc q _ hx
        have hx6 := H6.out _ (List.mem_of_getElem? hx)
        have hstep := payP_step hx
        have hpart := payP_part bs (q + 1)
        simp only at hpw hx6 hstep
        have hlen2 : (L0 ++ payP (bs.take q)).length + (enc x).length + C.length ≤ 90400 := by
          have h1 := HLEN.out
          rw [← HL0.out, List.length_append] at h1
          rw [hstep] at hpart
          simp only [List.length_append] at hpart ⊢
          omega
        obtain ⟨cl2, hcl2⟩ : ∃ z, C.length = z := ⟨_, rfl⟩
        rw [hcl2] at hpw
        have hBW : Below N w wr := by rw [← HNN.out]; exact HT.out.bl
        obtain ⟨u0, u1, hs0⟩ := hpw wr hBW
        have HSEE := Lib.hid (fun W hW => (hpw W hW).2.2)
        obtain ⟨LL, hLL⟩ : ∃ LL, L0 ++ payP (bs.take q) = LL := ⟨_, rfl⟩
        have HST : Hid (L0 ++ payP (bs.take (q + 1)) = LL ++ enc x ++ C) := Lib.hid (by rw [hstep, ← List.append_assoc, hLL, ← List.append_assoc])
        rw [hLL] at HT hlen2
        have hof := own_form HT.out.own
        obtain ⟨ln, hln⟩ : ∃ ln, LL.length = ln := ⟨_, rfl⟩
        rw [hln] at hof
        obtain ⟨bA, bc, rfl, -⟩ := hof
        obtain ⟨X, hX⟩ : ∃ X, wr.alloc (.cells #[.int .i64 (x : Nat), .slice A2 cl2 c2] 55) = X := ⟨_, rfl⟩
        have hbX : X.heap[wr.heap.size]? = some (.cells #[.int .i64 (x : Nat), .slice A2 cl2 c2] 55 (0, 0)) := by rw [← hX]; exact block_new wr _
        have HOX : Hid (X.drew.ownsRow N 5 1 (.slice bA ln bc) LL.length (Lib.byteCells LL)) := Lib.hid (by
          have h := HT.out.own.alloc (.cells #[.int .i64 (x : Nat), .slice A2 cl2 c2] 55)
          rw [hX, HNN.out] at h
          exact h)
        have HGX : Hid (Below N w X.drew) := Lib.hid (by rw [← hX]; exact (hBW.alloc (by have := hBW.size; rw [HNN.out] at this; exact this) _).drew)
        have HZX : Hid (N ≤ X.drew.heap.size) := Lib.hid (by have := HGX.out.size; rw [HNN.out] at this; exact this)
        have HP := Lib.hid (putT_any (w := X.drew) (v := .slice bA ln bc) HOX.out HZX.out x (by omega) (by omega))
        have p0 : X.cell? ⟨wr.heap.size, 0, none⟩ = some (.int .i64 (x : Nat)) := cell_of hbX rfl
        have p1 : X.cell? ⟨wr.heap.size, 1, none⟩ = some (.slice A2 cl2 c2) := cell_of hbX rfl
        have HBX := Lib.hid (show X.drew.heap[wr.heap.size]? = some (.cells #[.int .i64 (x : Nat), .slice A2 cl2 c2] 55 (0, 0)) from hbX)
        have HXX := Lib.hid hX
        have HLN := Lib.hid hln
        have HL2 := Lib.hid (show (LL ++ enc x).length + C.length ≤ 100000 by rw [List.length_append]; omega)
        clear hx hpc hpw hx6 hstep hpart hlen2 hcl2 hBW hs0 hLL hln hX hbX HT
        go_wp2_with fail
        rw [HXX.out]
        go_region_held3 (fun w' => w'.cell? ⟨wr.heap.size, 0, none⟩ = some (.int .i64 (x : Nat)) ∧ w'.cell? ⟨wr.heap.size, 1, none⟩ = some (.slice A2 cl2 c2))
          (first
            | go_keep
            | (with_reducible exact HC6.out)
            | (with_reducible exact HC5.out)
            | fail)
          ((first
            | (refine step_catB rfl (.tmp 57) (.tmp 59) rfl N _ (LL ++ enc x) (by simp [Act.eval, Act.put]) HO5.out _ _ C (by simp [Act.eval, Act.put]) (HSEE.out _ HB5.out) HL2.out HZ5.out ?_; intro v6 w6 HO6 HG6; have HC6 := Lib.hid (show w6.cell? ⟨wr.heap.size, 0, none⟩ = some (.int .i64 (x : Nat)) ∧ w6.cell? ⟨wr.heap.size, 1, none⟩ = some (.slice A2 cl2 c2) from ⟨cell_of (grown_other HO5.out HG6.out HK5.out (by decide)) rfl, cell_of (grown_other HO5.out HG6.out HK5.out (by decide)) rfl⟩); have HB6 := Lib.hid (show Below N w w6 from HB5.out.grown HG6.out HZ5.out (fun k e => (own_low HO5.out k e).1)); clear HG6)
            | (go_at_call 28; (with_reducible refine HP.out.mono ?_); rintro e w5 ⟨v5, rfl, ho5, hg5⟩; have HO5 := Lib.hid ho5; have HK5 := Lib.hid (grown_other HOX.out hg5 HBX.out (by decide)); have HC5 := Lib.hid (show w5.cell? ⟨wr.heap.size, 0, none⟩ = some (.int .i64 (x : Nat)) ∧ w5.cell? ⟨wr.heap.size, 1, none⟩ = some (.slice A2 cl2 c2) from ⟨cell_of HK5.out rfl, cell_of HK5.out rfl⟩); have HB5 := Lib.hid (show Below N w w5 from HGX.out.grown hg5 HZX.out (fun k e => (own_low HOX.out k e).1)); have HZ5 := Lib.hid (show N ≤ w5.heap.size by have := HB5.out.size; rw [HNN.out] at this; exact this); clear ho5 hg5)
            | fail))
        have HNX : Hid (PyAt w v6 (L0 ++ payP (bs.take (q + 1))) w6) := Lib.hid (by
          rw [HST.out]
          exact ⟨by rw [HNN.out]; exact HB6.out, by rw [HNN.out]; exact HO6.out⟩)
        clear HO6 HB6 HC6
        go_wp2_with fail
        exact ⟨⟨_, q + 1, rfl, HQ1.out, by go_num, HNX⟩, by have := HQ1.out; simp only [Go.RowKit.intOf]; omega⟩
      · obtain rfl : q = m := by omega
        have hlti : ¬ (q : Int) < (q : Int) := by omega
        have HE : Hid (PyAt w bv PL wr) := Lib.hid (by
          have h := HT.out
          rw [List.take_of_length_le (Nat.le_of_eq HM.out), HL0.out] at h
          exact h)
        clear HT
        go_wp2_with fail
        go_ret
        exact ⟨_, rfl, HE.out.own, HE.out.bl⟩
end Go.Proofs.YteennnhinfnahaaDoor
