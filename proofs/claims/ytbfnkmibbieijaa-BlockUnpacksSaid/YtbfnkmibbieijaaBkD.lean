/-
  WALKS over package block, fourth part: putNumbers, encode, Pack.
-/
import Derived.Test.YtbfnkmibbieijaaBkC
import Derived.Test.YtbfnkmibbieijaaBiJ
import Derived.Laws.Bits64b
namespace Go.Proofs.Ytbfnkmibbieijaa
open Go.RowKit Go.Shelf Go.Lib
set_option linter.unusedVariables false
set_option linter.unusedSimpArgs false

theorem own_baseB {w : World} {b1 b2 : Nat} {e : TypeId} {size n : Nat} {v : Value} {xs : List Value} (h : w.ownsRow b2 e size v n xs) (hb : b1 ≤ b2) : w.ownsRow b1 e size v n xs := by
  rcases h.2 with hn | ⟨g, cap, cur, hv, hg, rest⟩
  · exact ⟨h.1, .inl hn⟩
  · exact ⟨h.1, .inr ⟨g, cap, cur, hv, Nat.le_trans hb hg, rest⟩⟩
/-- An answer that is a row of bytes of the call's own. -/
def OwnB (w : World) (L : List UInt8) (e : Ending) (w' : World) : Prop := ∃ v', e = .returned v' ∧ w'.ownsRow w.heap.size 5 1 v' L.length (byteCells L) ∧ Below w.heap.size w w'
/-- append of bytes that are read to a row of the call's own. -/
theorem wpList_catB {w : World} {ops : Array Oper} {rest : List Oper} {o : Oper} {a : Act} {Q : Exit → Act → World → Prop} (hgd : o.guard = none) (s x : Operand)
    (ho : o.op = .call { callee := .builtin .append, args := #[s, x], argTypes := #[23, 23] }) (base : Nat) (v : Value) (L : List UInt8) (hs : a.eval s = v) (hown : w.ownsRow base 5 1 v L.length (byteCells L))
    (vx : Value) (B : Nat) (M : List UInt8) (hx : a.eval x = vx) (hn : Sees w B vx M) (h63 : L.length + M.length ≤ 100000) (hbase : base ≤ w.heap.size)
    (h : ∀ v' w', Hid (w'.ownsRow base 5 1 v' (L ++ M).length (byteCells (L ++ M))) → Hid (w.grownBy w' v.ownBlock) → wpList Try.prog ops Q rest (a.put o.dst v') w') : wpList Try.prog ops Q (o :: rest) a w := by
  obtain ⟨i0, hi, hz0, hz1, hz2⟩ := info_parts' Try.infoByte
  have hcl := byteCells_length M
  refine wpList_append_sees hgd s x 23 ho base 5 i0 _ 1 Try.underlying23 hi hz0 hz1 hz2 rfl v L.length (byteCells L) hs hown vx B (byteCells M) hx hn.cells (bytes_one M) (by rw [hcl]; unfold maxLen; omega) (by rw [hcl]; omega) hbase ?_
  intro v' w' h1 h2 _
  refine h v' w' (Lib.hid ?_) (Lib.hid h2)
  rw [hcl] at h1
  rw [List.length_append, byteCells_app]
  exact h1
theorem WAt.stay {w w' : World} {B g : Nat} {v : Value} {l : List Bool} (h : WAt w B g v l) (hb : Below w.heap.size w w') : WAt w' B g v l :=
  ⟨h.1, (hb.block g h.lt).trans h.2.1, own_below h.2.2 fun k e => hb.block k (own_low h.2.2 k e).2⟩
theorem block_rowsB {W : World} {B n : Nat} {cs : Array Value} (xs : List Int) (h : W.heap[B]? = some (.cells cs 3 (0, 0))) (hc : cs.toList = xs.map fun x => Value.int .i64 x) (hn : xs.length = n) (hm : n ≤ maxLen) : Rows 1 EInt W (.slice (some ⟨B, 0, none⟩) n n) xs := by
  subst hn
  refine own_rows (base := 0) ⟨by simp, .inr ⟨B, xs.length, cs, rfl, Nat.zero_le _, h, Nat.le_refl _, hm, ?_, ?_⟩⟩
  · rw [← Array.length_toList, hc]; simp
  · rw [hc, List.take_of_length_le (by simp)]
theorem flat_len {ns : List Nat} (hn : ∀ n ∈ ns, n < 2147483648) : (ns.flatMap enc).length ≤ 5 * ns.length := by
  induction ns with
  | nil => simp
  | cons n r ih =>
    have h1 := ih fun m hm => hn m (List.mem_cons_of_mem _ hm)
    have h2 := uvs_five (hn n (List.mem_cons_self ..))
    rw [List.flatMap_cons, List.length_append, enc_uvs, List.length_cons]
    omega
/-- Some of the numbers have been written. -/
def PnAt (w : World) (L : List UInt8) (ns : List Nat) (k : Nat) (bv : Value) (wr : World) : Prop :=
  Below w.heap.size w wr ∧ Sees wr wr.heap.size bv (L ++ (ns.take k).flatMap enc) ∧ (0 < k → wr.ownsRow w.heap.size 5 1 bv (L ++ (ns.take k).flatMap enc).length (byteCells (L ++ (ns.take k).flatMap enc)))
set_option maxRecDepth 100000 in
set_option maxHeartbeats 4000000 in
theorem many_any {w : World} {v vn : Value} {L : List UInt8} {ns : List Nat} (h : Sees w w.heap.size v L) (hr : Rows 1 EInt w vn (castB ns)) (hne : 0 < ns.length) (h3 : ns.length ≤ 3) (hL : L.length ≤ 960) (hn : ∀ n ∈ ns, n < 2147483648) :
    Calls Try.prog 76 #[v, vn] w (OwnB w (L ++ ns.flatMap enc)) := by
  obtain ⟨A, cap, rfl, -⟩ := hr.form
  obtain ⟨m, hm⟩ : ∃ m, ns.length = m := ⟨_, rfl⟩
  rw [castB_len, hm] at hr ⊢
  rw [hm] at hne h3
  have HST0 : Hid (PnAt w L ns 0 v w) := Lib.hid ⟨Below.refl _ _, by simpa using h, fun h => absurd h (by omega)⟩
  have HR := Lib.hid (fun W (hb : Below w.heap.size w W) => hr.below stays_int hb)
  have HN := Lib.hid hn
  have HM := Lib.hid hm
  have HL := Lib.hid hL
  clear h hr hn hm hL
  go_enter Try.func76, Try.ntmps76
  go_wp2_with fail
  go_loopw [0, 9] (fun bv iv wr => ∃ k : Nat, k ≤ m ∧ iv = .int .i64 k ∧ Hid (PnAt w L ns k bv wr)) (fun _ iv _ => m - (Go.RowKit.intOf iv).toNat)
  case atStart => exact ⟨0, Nat.zero_le _, rfl, HST0⟩
  case round =>
    clear HST0
    obtain ⟨k, hk, rfl, HS⟩ := hrel
    by_cases hlt : k < m
    · have hlti : (k : Int) < (m : Int) := by omega
      obtain ⟨x, hx⟩ : ∃ x, ns[k]? = some x := ⟨_, List.getElem?_eq_getElem (by rw [HM.out]; exact hlt)⟩
      obtain ⟨b, o, rfl, -, hj⟩ := at_int (HR.out _ HS.out.1) (by rw [castB_len, HM.out]; omega)
      have u0 := hj k (x : Int) (by unfold castB; rw [List.getElem?_map, hx]; rfl)
      have hx31 := HN.out x (List.mem_of_getElem? hx)
      have hlen : (L ++ (ns.take k).flatMap enc).length ≤ 1000 := by
        have h1 := flat_len (ns := ns.take k) fun n hn => HN.out n (List.mem_of_mem_take hn)
        have h2 := HL.out
        rw [List.length_take] at h1
        rw [List.length_append]
        omega
      have HP := Lib.hid (put_any HS.out.2.1 hlen x (by omega))
      have hst : L ++ (ns.take (k + 1)).flatMap enc = (L ++ (ns.take k).flatMap enc) ++ enc x := by
        rw [List.take_add_one, hx, List.flatMap_append, List.append_assoc]
        simp
      have HST := Lib.hid hst
      have HB := Lib.hid HS.out.1
      clear hj hx hlen hst HS
      go_wp2_with fail
      refine HP.out.mono ?_
      rintro e w2 ⟨v2, rfl, ho2, hb2⟩
      have HNX : Hid (PnAt w L ns (k + 1) v2 w2) := Lib.hid (by
        unfold PnAt
        rw [HST.out]
        exact ⟨HB.out.trans (hb2.mono HB.out.size), sees_own ho2, fun _ => own_baseB ho2 HB.out.size⟩)
      clear ho2 hb2
      go_wp2_with fail
      exact ⟨⟨k + 1, by omega, by go_num, HNX⟩, by simp only [Go.RowKit.intOf]; omega⟩
    · obtain rfl : k = m := by omega
      have hlti : ¬ (k : Int) < (k : Int) := by omega
      obtain ⟨hb, -, ho⟩ := HS.out
      have ho := ho hne
      rw [List.take_of_length_le (by rw [HM.out]; exact Nat.le_refl _)] at ho
      have HO := Lib.hid ho
      have HB := Lib.hid hb
      clear ho hb HS
      go_wp2_with fail
      go_ret
      exact ⟨_, rfl, HO.out, HB.out⟩

theorem low_mod (x : Nat) (W : Nat) : ∀ n, n ≤ W → low (x % 2 ^ W) n = low x n
  | 0, _ => rfl
  | n + 1, h => by
    have e : x % 2 ^ W / 2 ^ n % 2 = x / 2 ^ n % 2 := by
      obtain ⟨d, rfl⟩ : ∃ d, W = n + 1 + d := ⟨W - (n + 1), by omega⟩
      rw [Nat.add_assoc, Nat.pow_add, Nat.mod_mul_right_div_self, Nat.pow_add, Nat.pow_one, Nat.mod_mul_right_mod]
    simp only [low, e, low_mod x W n (by omega)]
theorem mask_low (x W : Nat) (hx : x < 2147483648) (hW : W ≤ 31) : bits .and .u64 (x : Int) (IntKind.u64.wrap (IntKind.u64.wrap ((2 : Int) ^ W) - 1)) = ((x % 2 ^ W : Nat) : Int) := by
  have h31 : 2 ^ W ≤ 2 ^ 31 := Nat.pow_le_pow_right (by omega) hW
  have h32 : (2 : Nat) ^ 31 = 2147483648 := by decide
  have h0 : 1 ≤ 2 ^ W := Nat.one_le_two_pow
  have e0 : (2 : Int) ^ W = ((2 ^ W : Nat) : Int) := by simp
  rw [e0, ← Nat.and_two_pow_sub_one_eq_mod]
  obtain ⟨P, hP⟩ : ∃ P, 2 ^ W = P := ⟨_, rfl⟩
  rw [hP] at h31 h0 ⊢
  have e1 : IntKind.u64.wrap (P : Int) = P := by rw [IntKind.wrap_u64]; omega
  have e2 : IntKind.u64.wrap ((P : Int) - 1) = ((P - 1 : Nat) : Int) := by rw [IntKind.wrap_u64]; omega
  rw [e1, e2, bits_and_u64_nat _ _ (by omega) (by omega)]
/-- Between two numbers of encode. -/
structure EnAt (w : World) (W : Nat) (vs : List Nat) (k e b : Nat) (hv : Value) (wr : World) : Prop where
  bl : Below w.heap.size w wr
  sz : w.heap.size ≤ wr.heap.size
  wat : ∃ v, WAt wr w.heap.size w.heap.size v (lowB W (vs.take k)) ∧ ∀ c, hv.ownBlock = some c → c ≠ w.heap.size ∧ v.ownBlock ≠ some c
  own : wr.ownsRow w.heap.size 5 1 hv (xsK W vs k).hi.length (byteCells (xsK W vs k).hi)
  ex : (xsK W vs k).ex = e
  bf : (xsK W vs k).bf = b
  le : e ≤ k ∧ b ≤ k ∧ (xsK W vs k).hi.length ≤ 7 * k
set_option maxRecDepth 100000 in
set_option maxHeartbeats 4000000 in
theorem encodeB_any {w : World} {v : Value} {vs : List Nat} (hv : Rows 1 EInt w v (castB vs)) (hok : ok31 vs) (W : Nat) (hW : W ≤ 31) :
    Calls Try.prog 37 #[v, .int .i64 W] w (OwnB w (blkB vs W)) := by
  obtain ⟨A, cap, rfl, hc⟩ := hv.form
  obtain ⟨n, hn⟩ : ∃ n, vs.length = n := ⟨_, rfl⟩
  rw [castB_len, hn] at hv hc ⊢
  have HV := Lib.hid (fun W (hb : Below w.heap.size w W) => hv.below stays_int hb)
  have HN := Lib.hid hn
  have HOK := Lib.hid hok
  have hn1 : n ≤ 128 := by rw [← hn]; exact hok.1
  have HNW := Lib.hid (newWriter_any w)
  clear hv hn hok hc
  go_enter Try.func37, Try.ntmps37
  go_wp2_with fail
  refine HNW.out.mono ?_
  rintro e w1 ⟨rfl, hw1⟩
  have HS0 : Hid (EnAt w W vs 0 0 0 (.slice none 0 0) w1) := Lib.hid (by
    have hwn := writer_new w
    rw [← hw1] at hwn
    exact ⟨by rw [hw1]; exact below_box _ _, by rw [hw1]; simp, ⟨_, by simpa [lowB] using hwn, fun c h => by cases h⟩, World.ownsRow_nil _ _ _ _, rfl, rfl, Nat.le_refl _, Nat.le_refl _, Nat.le_refl _⟩)
  clear hw1 HNW
  go_wp2_with fail
  go_loopw [6, 7, 8, 15] (fun hv0 ev bv iv wr => ∃ (hv : Value) (k e b : Nat), hv = hv0 ∧ k ≤ n ∧ ev = .int .i64 e ∧ bv = .int .i64 ((b : Int) - 1) ∧ iv = .int .i64 k ∧ Hid (EnAt w W vs k e b hv wr)) (fun _ _ _ iv _ => n - (Go.RowKit.intOf iv).toNat)
  case atStart => exact ⟨_, 0, 0, 0, rfl, Nat.zero_le _, rfl, rfl, rfl, HS0⟩
  case round =>
    clear HS0
    obtain ⟨hv, k, e, b, rfl, hk, rfl, rfl, rfl, HS⟩ := hrel
    by_cases hlt : k < n
    · have hlti : (k : Int) < (n : Int) := by omega
      obtain ⟨x, hx⟩ : ∃ x, vs[k]? = some x := ⟨_, List.getElem?_eq_getElem (by rw [HN.out]; exact hlt)⟩
      obtain ⟨bb, o, rfl, -, hj⟩ := at_int (HV.out _ HS.out.bl) (by rw [castB_len, HN.out]; omega)
      have u0 := hj k (x : Int) (by unfold castB; rw [List.getElem?_map, hx]; rfl)
      have hx31 := HOK.out.2 x (List.mem_of_getElem? hx)
      clear hj
      obtain ⟨vw, hat, hap⟩ := HS.out.wat
      have hmask := mask_low x W hx31 hW
      have hlw : lowB W (vs.take (k + 1)) = lowB W (vs.take k) ++ low (x % 2 ^ W) W := by rw [lowB_step hx, low_mod x W W (Nat.le_refl _)]
      have hr2 : x % 2 ^ W < 2 ^ W := Nat.mod_lt _ (Nat.pow_pos (by decide))
      have hr3 : x % 2 ^ W ≤ x := Nat.mod_le _ _
      obtain ⟨r, hr⟩ : ∃ r, x % 2 ^ W = r := ⟨_, rfl⟩
      rw [hr] at hmask hlw hr2 hr3
      have hll : (lowB W (vs.take k)).length ≤ 900000 := by
        rw [lowB_len]
        have h1 : (vs.take k).length ≤ 128 := by rw [List.length_take]; omega
        have := Nat.mul_le_mul h1 hW
        omega
      have HWB := Lib.hid (wbits_any hat HS.out.sz r W (by omega) (by omega) hr2 hll)
      have hsh := shr_nat x W
      obtain ⟨q, hq⟩ : ∃ q, x / 2 ^ W = q := ⟨_, rfl⟩
      have hq31 : q < 2147483648 := by rw [← hq]; exact Nat.lt_of_le_of_lt (Nat.div_le_self _ _) hx31
      rw [hq] at hsh
      have hle := HS.out.le
      have HX := Lib.hid hx
      have HQ := Lib.hid hq
      have HLW := Lib.hid hlw
      have HNX2 : Hid (∀ v2 w2, WAt w2 w.heap.size w.heap.size v2 (lowB W (vs.take k) ++ low r W) → Stepped w.heap.size vw wr v2 w2 →
          WAt w2 w.heap.size w.heap.size v2 (lowB W (vs.take (k + 1))) ∧ Below w.heap.size w w2 ∧ w2.ownsRow w.heap.size 5 1 hv (xsK W vs k).hi.length (byteCells (xsK W vs k).hi) ∧ w.heap.size ≤ w2.heap.size ∧ ∀ c, hv.ownBlock = some c → c ≠ w.heap.size ∧ v2.ownBlock ≠ some c) := Lib.hid (fun v2 w2 h1 h2 => by
        refine ⟨by rw [hlw]; exact h1, HS.out.bl.trans (hat.below h2 HS.out.sz), own_below HS.out.own fun c e => h2.block c (own_low HS.out.own c e).2 (hap c e).1 (hap c e).2, Nat.le_trans HS.out.sz h2.size, fun c e => ⟨(hap c e).1, fun e2 => ?_⟩⟩
        rcases h2.own c e2 with h | h
        · exact (hap c e).2 h
        · have := (own_low HS.out.own c e).2
          omega)
      clear hlw hr2 hr3 hr hll hat hap hx hq
      by_cases hq0 : q = 0
      · subst hq0
        go_wp2_with fail
        refine HWB.out.mono ?_
        rintro er w2 ⟨v2, rfl, hw2, hs2⟩
        obtain ⟨a1, a2, a3, a4, a5⟩ := HNX2.out v2 w2 hw2 hs2
        have HNX : Hid (EnAt w W vs (k + 1) e b hv w2) := Lib.hid (by
          have hst := xsK_at (w := W) HX.out
          rw [xstep_no HQ.out] at hst
          refine ⟨a2, a4, ⟨v2, a1, a5⟩, by rw [hst]; exact a3, by rw [hst]; exact HS.out.ex, by rw [hst]; exact HS.out.bf, by rw [hst]; omega⟩)
        clear hw2 hs2 a1 a2 a3 a4 a5 HNX2 HWB HS
        go_wp2_with fail
        exact ⟨⟨_, k + 1, e, b, rfl, by omega, rfl, rfl, by go_num, HNX⟩, by simp only [Go.RowKit.intOf]; omega⟩
      · obtain ⟨g, hg⟩ : ∃ g, k + 1 - b = g := ⟨_, rfl⟩
        have hq0i : ((q : Int) == 0) = false := by simp; omega
        have n1 : (k : Int) - ((b : Int) - 1) = (g : Int) := by omega
        go_wp2_with fail
        refine HWB.out.mono ?_
        rintro er w2 ⟨v2, rfl, hw2, hs2⟩
        obtain ⟨a1, a2, a3, a4, a5⟩ := HNX2.out v2 w2 hw2 hs2
        have hlt2 := a1.lt
        have HP := Lib.hid (many_any (w := w2.alloc (.cells #[.int .i64 (g : Int), .int .i64 (q : Int)] 3)) (ns := [g, q]) (((sees_own a3).below (below_box _ _)).mono (by simp)) (block_rowsB [(g : Int), (q : Int)] (block_new _ _) rfl rfl (by show 2 ≤ maxLen; decide)) (by simp) (by simp) (by omega) (by simp; omega))
        have HNX : Hid (∀ v3 w3, w3.ownsRow (w2.alloc (.cells #[.int .i64 (g : Int), .int .i64 (q : Int)] 3)).heap.size 5 1 v3 ((xsK W vs k).hi ++ [g, q].flatMap enc).length (byteCells ((xsK W vs k).hi ++ [g, q].flatMap enc)) → Below (w2.alloc (.cells #[.int .i64 (g : Int), .int .i64 (q : Int)] 3)).heap.size (w2.alloc (.cells #[.int .i64 (g : Int), .int .i64 (q : Int)] 3)) w3 → EnAt w W vs (k + 1) (e + 1) (k + 1) v3 w3) := Lib.hid (fun v3 w3 h1 h2 => by
          have hst := xsK_at (w := W) HX.out
          rw [xstep_yes (by rw [HQ.out]; exact hq0), HQ.out, HS.out.bf, hg] at hst
          have hbb := below_alloc _ h2
          have hsz : (w2.alloc (.cells #[.int .i64 (g : Int), .int .i64 (q : Int)] 3)).heap.size = w2.heap.size + 1 := alloc_sz _ _
          have e1 := uvs_two (v := g) (by omega)
          have e2 := uvs_five (v := q) hq31
          have hfl : (xsK W vs k).hi ++ [g, q].flatMap enc = (xsK W vs k).hi ++ enc g ++ enc q := by simp
          rw [hfl] at h1
          refine ⟨a2.trans (hbb.mono a4), Nat.le_trans a4 hbb.size, ⟨v2, a1.stay hbb, fun c ec => ?_⟩, ?_, by rw [hst]; simp only [HS.out.ex], by rw [hst], ?_⟩
          · have h5 := own_low h1 c ec
            rw [hsz] at h5
            exact ⟨by omega, fun e2 => by have := (own_low a1.2.2 c e2).2; omega⟩
          · rw [hst]; exact own_baseB h1 (by rw [hsz]; omega)
          · rw [hst]
            simp only [List.length_append, enc_uvs]
            omega)
        clear hw2 hs2 a1 a2 a3 a4 a5 hlt2 HNX2 HWB HS hg
        go_wp2_with fail
        refine HP.out.mono ?_
        rintro er w3 ⟨v3, rfl, ho3, hb3⟩
        have HN3 := Lib.hid (HNX.out v3 w3 ho3 hb3)
        clear ho3 hb3 HNX HP
        go_wp2_with fail
        exact ⟨⟨_, k + 1, e + 1, k + 1, rfl, by omega, by go_num, by go_num, by go_num, HN3⟩, by simp only [Go.RowKit.intOf]; omega⟩
    · obtain rfl : k = n := by omega
      have hlti : ¬ (k : Int) < (k : Int) := by omega
      obtain ⟨vw, hat, hap⟩ := HS.out.wat
      have hle := HS.out.le
      rw [List.take_of_length_le (by rw [HN.out]; exact Nat.le_refl _)] at hat
      have HAT := Lib.hid hat
      have HSH := Lib.hid (sees_own HS.out.own)
      have HBL := Lib.hid HS.out.bl
      have HSZ := Lib.hid HS.out.sz
      have HE : Hid (blkB vs W = (([] ++ [k, W, e].flatMap enc) ++ pack (lowB W vs)) ++ (xsK W vs k).hi) := Lib.hid (by
        unfold blkB
        rw [HN.out, HS.out.ex]
        simp)
      have hpl : (pack (lowB W vs)).length ≤ 600 := by
        rw [pack_len, lowB_len, HN.out]
        have := Nat.mul_le_mul hn1 hW
        omega
      have hll : (lowB W vs).length ≤ 10000000 := by
        rw [lowB_len, HN.out]
        have := Nat.mul_le_mul hn1 hW
        omega
      have HP := Lib.hid (many_any (w := wr.alloc (.cells #[.int .i64 (k : Int), .int .i64 (W : Int), .int .i64 (e : Int)] 3)) (ns := [k, W, e]) (Sees.nil _ _) (block_rowsB [(k : Int), (W : Int), (e : Int)] (block_new _ _) rfl rfl (by show 3 ≤ maxLen; decide)) (by simp) (by simp) (by simp) (by simp; omega))
      obtain ⟨L1, hL1⟩ : ∃ L, [] ++ [k, W, e].flatMap enc = L := ⟨_, rfl⟩
      have hl1 : L1.length ≤ 15 := by
        rw [← hL1]
        have := flat_len (ns := [k, W, e]) (by simp; omega)
        simpa using this
      obtain ⟨L2, hL2⟩ : ∃ L, pack (lowB W vs) = L := ⟨_, rfl⟩
      obtain ⟨L3, hL3⟩ : ∃ L, (xsK W vs k).hi = L := ⟨_, rfl⟩
      have HBY := Lib.hid (fun W2 (hb : Below wr.heap.size wr W2) => bytes_any (hat.stay hb) hll)
      rw [hL1] at HP HE
      rw [hL2] at HE hpl HBY
      rw [hL3] at HE HSH hle
      have hsz1 : (wr.alloc (.cells #[.int .i64 (k : Int), .int .i64 (W : Int), .int .i64 (e : Int)] 3)).heap.size = wr.heap.size + 1 := alloc_sz _ _
      have HS1 := Lib.hid hsz1
      clear hL1 hL2 hL3 hat hap HS hll hsz1
      go_wp2_with fail
      refine HP.out.mono ?_
      rintro er w2 ⟨v2, rfl, ho2, hb2⟩
      have hb2w := below_alloc _ hb2
      have HBY2 := Lib.hid (HBY.out w2 hb2w)
      have HZ2 := Lib.hid (show wr.heap.size + 1 ≤ w2.heap.size by have := hb2.size; rw [HS1.out] at this; exact this)
      have HO2 := Lib.hid ho2
      have HB2 := Lib.hid hb2w
      clear ho2 hb2 hb2w HBY HP
      go_wp2_with fail
      refine HBY2.out.mono ?_
      rintro er w3 ⟨v3, rfl, ho3, hb3⟩
      have HO2' := Lib.hid (own_baseB (b1 := wr.heap.size) (own_below HO2.out fun c ec => hb3.block c (own_low HO2.out c ec).2) (by rw [HS1.out]; omega))
      have HS3 := Lib.hid (sees_own ho3)
      have HB3 := Lib.hid (HB2.out.trans (hb3.mono HB2.out.size))
      clear ho3 hb3 HBY2 HO2 HB2 HZ2 HS1
      go_wp2_with (at_builtin; refine wpList_catB rfl (.tmp 52) (.tmp 54) rfl wr.heap.size v2 L1 rfl HO2'.out v3 _ L2 rfl HS3.out (by omega) HB3.out.size ?_)
      intro v4 w4 HO40 HG4
      have HO4 : Hid (w4.ownsRow wr.heap.size 5 1 v4 (L1 ++ L2).length (byteCells (L1 ++ L2))) := Lib.hid (by rw [List.length_append]; exact HO40.out)
      clear HO40
      have HB4 := Lib.hid (HB3.out.grown HG4.out HB3.out.size (fun c ec => (own_low HO2'.out c ec).1))
      have HS4 := Lib.hid (HSH.out.below HB4.out)
      clear HO2' HS3 HB3 HG4
      go_wp2_with (at_builtin; refine wpList_catB rfl (.tmp 56) (.tmp 57) rfl wr.heap.size v4 (L1 ++ L2) rfl HO4.out hv _ L3 rfl HS4.out (by rw [List.length_append]; omega) HB4.out.size ?_)
      intro v5 w5 HO5 HG5
      have HB5 := Lib.hid (HB4.out.grown HG5.out HB4.out.size (fun c ec => (own_low HO4.out c ec).1))
      have HF : Hid (OwnB w (blkB vs W) (.returned v5) w5) := Lib.hid ⟨v5, rfl, by rw [HE.out]; have h := HO5.out; simp only [List.length_append, List.append_assoc, Nat.add_assoc] at h ⊢; exact own_baseB h HSZ.out, HBL.out.trans (HB5.out.mono HSZ.out)⟩
      clear HO4 HG5 HB4 HS4 HO5 HB5
      go_wp2_with fail
      go_ret
      exact HF.out

/-- What Pack answers. -/
def packB (cs : List Int) : List UInt8 := blkB (natB cs) (wid (natB cs))
def PackV (w : World) (cs : List Int) (e : Ending) (w' : World) : Prop :=
  (chkB cs ≠ 0 ∧ e = .returned (.tuple #[.slice none 0 0, .int .i64 (chkB cs)]) ∧ Below w.heap.size w w') ∨
  (chkB cs = 0 ∧ ∃ v', e = .returned (.tuple #[v', .int .i64 0]) ∧ w'.ownsRow w.heap.size 5 1 v' (packB cs).length (byteCells (packB cs)) ∧ Below w.heap.size w w')
set_option maxRecDepth 100000 in
set_option maxHeartbeats 4000000 in
theorem packB_any {w : World} {v : Value} {cs : List Int} (hv : Rows 1 EInt w v cs) (hlen : cs.length ≤ maxLen) :
    Calls Try.prog 13 #[v] w (PackV w cs) := by
  have HCK := Lib.hid (checkB_any hv hlen)
  have HWD := Lib.hid (widthB_any hv hlen)
  by_cases hk : chkB cs = 0
  · obtain ⟨hcs, hok⟩ := chk_ok hk
    obtain ⟨r, hr⟩ : ∃ r, chkB cs = r := ⟨_, rfl⟩
    rw [if_pos hk] at HWD
    have HF : Hid (∀ v' w', w'.ownsRow w.heap.size 5 1 v' (packB cs).length (byteCells (packB cs)) → Below w.heap.size w w' → PackV w cs (.returned (.tuple #[v', .int .i64 0])) w') := Lib.hid (fun v' w' h1 h2 => .inr ⟨hk, v', rfl, h1, h2⟩)
    rw [hr] at hk HCK
    subst hk
    have HEN := Lib.hid (fun W (hb : Below w.heap.size w W) => encodeB_any (w := W) (by rw [hcs]; exact hv.below stays_int hb) hok (wid (natB cs)) (wid_le _))
    clear hv hok hcs hr
    go_enter Try.func13, Try.ntmps13
    go_wp2_with fail
    refine HCK.out.mono ?_
    rintro e w' ⟨rfl, rfl⟩
    go_wp2_with fail
    refine HWD.out.mono ?_
    rintro e w2 ⟨rfl, hb⟩
    have HE2 := Lib.hid (HEN.out w2 hb)
    have HB := Lib.hid hb
    clear hb HEN
    go_wp2_with fail
    refine HE2.out.mono ?_
    rintro e w3 ⟨v3, rfl, ho3, hb3⟩
    have HG := Lib.hid (HF.out v3 w3 (own_baseB ho3 HB.out.size) (HB.out.trans (hb3.mono HB.out.size)))
    clear ho3 hb3 HE2 HF
    go_wp2_with fail
    go_ret2
    exact HG.out
  · have HF : Hid (PackV w cs (.returned (.tuple #[.slice none 0 0, .int .i64 (chkB cs)])) w) := Lib.hid (.inl ⟨hk, rfl, Below.refl _ _⟩)
    obtain ⟨r, hr⟩ : ∃ r, chkB cs = r := ⟨_, rfl⟩
    rw [hr] at hk HCK HF
    have hb : (r != 0) = true := by simpa using hk
    clear hv hlen hr HWD
    go_enter Try.func13, Try.ntmps13
    go_wp2_with fail
    refine HCK.out.mono ?_
    rintro e w' ⟨rfl, rfl⟩
    go_wp2_with fail
    go_ret2
    exact HF.out
end Go.Proofs.Ytbfnkmibbieijaa
