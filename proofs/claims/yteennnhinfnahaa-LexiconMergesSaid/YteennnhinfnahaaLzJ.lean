/-
  WALKS over package lexicon: numbersOf; the sorted keys of a map; arrange.
-/
import Derived.Test.YteennnhinfnahaaLzI
import Derived.Test.YteennnhinfnahaaLyM
import Derived.Shelf.SlIter.Nil
import Derived.Shelf.SortM.Plain
import Derived.Shelf.SortM.SortNone
import Derived.Maps.OwnOps
import Derived.StringKeys
namespace Go.Proofs.Yteennnhinfnahaa
open Go.RowKit Go.Shelf Go.Lib Go.Sort Go.Maps
set_option linter.unusedVariables false
set_option linter.unusedSimpArgs false

/-- A row that is being filled. -/
def fillZ (xs : List Int) (k : Nat) : List Int := xs.take k ++ List.replicate (xs.length - k) 0
theorem fillZ_len {xs : List Int} {k : Nat} (hk : k ≤ xs.length) : (fillZ xs k).length = xs.length := by simp [fillZ]; omega
theorem fillZ_zero (xs : List Int) : fillZ xs 0 = List.replicate xs.length 0 := by simp [fillZ]
theorem fillZ_set {xs : List Int} {k : Nat} {x : Int} (h : xs[k]? = some x) : (fillZ xs k).set k x = fillZ xs (k + 1) := by
  have hk : k < xs.length := (List.getElem?_eq_some_iff.1 h).1
  unfold fillZ
  rw [List.set_append_right _ _ (by simp; omega)]
  have e : k - (xs.take k).length = 0 := by simp; omega
  rw [e, show xs.length - k = (xs.length - (k + 1)) + 1 by omega, List.replicate_succ, List.set_cons_zero, List.take_add_one, h, List.append_assoc]
  rfl
theorem fillZ_all (xs : List Int) : fillZ xs xs.length = xs := by simp [fillZ]
theorem BlS.keep {w wr W : World} {N : Nat} {l : List Int} (h : BlS w wr N l) (hN : w.heap.size = N) (hb : Below wr.heap.size wr W) : BlS w W N l := by
  have h1 := (Array.getElem?_eq_some_iff.1 h.d).1
  exact ⟨h.below.trans (hb.mono h.below.size), block_below h.d hb h1⟩

set_option maxRecDepth 100000 in
set_option maxHeartbeats 4000000 in
theorem numbersOf_any {w : World} {p : Nat} {ws : List Wd} {cs : List Nat} {v : Value} {vs : List Wd} (h : LexAt w p ws cs) (hv : Rows 1 EStr w v vs) (hn : vs.length ≤ 4096) :
    Calls Try.prog 30 #[.pointer (some ⟨p, 0, none⟩), v] w (NumV w (vs.map (fnd ws))) := by
  have HV := Lib.hid (fun W (hb : Below w.heap.size w W) => hv.below stays_str hb)
  have HL := Lib.hid (fun W (hb : Below w.heap.size w W) => h.below hb)
  obtain ⟨A, cap, rfl, hc⟩ := hv.form
  obtain ⟨n, hcn⟩ : ∃ n, vs.length = n := ⟨_, rfl⟩
  rw [hcn] at hn HV ⊢
  obtain ⟨xs, hxs⟩ : ∃ xs, intsN (vs.map (fnd ws)) = xs := ⟨_, rfl⟩
  have hxl : xs.length = n := by rw [← hxs]; simp [hcn]
  have hxa : ∀ (j : Nat) (x : Wd), vs[j]? = some x → xs[j]? = some ((fnd ws x : Nat) : Int) := fun j x hx => by rw [← hxs]; simp [hx]
  obtain ⟨i1, hi1, hy0, hy1, hy2⟩ := info_parts' Try.infoInt2
  have hmk : ∀ W : World, (Instr.makeSlice 22 (.int .i64 n) (.int .i64 n)).run Try.prog W = .ok (.slice (some ⟨W.heap.size, 0, none⟩) n n) (W.alloc (.cells (intRow (List.replicate n 0)) 3)) := fun W => by
    have := run_make (P := Try.prog) W 22 3 i1 _ Try.underlying22 hi1 hy0 .i64 .i64 n n (by omega) (by omega) (by rw [hy2]; omega) (by omega)
    rw [Int.toNat_natCast, hy1, Nat.mul_one] at this
    rw [← made_int]
    exact this
  obtain ⟨N, hN⟩ : ∃ N, w.heap.size = N := ⟨_, rfl⟩
  obtain ⟨W0, hW0⟩ : ∃ W0, w.alloc (.cells (intRow (List.replicate n 0)) 3) = W0 := ⟨_, rfl⟩
  have hst0 : BlS w W0 N (fillZ xs 0) := by
    have b1 := block_new w (.cells (intRow (List.replicate n 0)) 3)
    rw [hN] at b1
    rw [← hW0, fillZ_zero, hxl]
    exact ⟨below_box w _, b1⟩
  have HST0 := Lib.hid hst0
  have HW0 := Lib.hid hW0
  have HN := Lib.hid hN
  have HCN := Lib.hid hcn
  have HXL := Lib.hid hxl
  have HXA := Lib.hid hxa
  have HEND := Lib.hid (fun (W : World) (hb : Below w.heap.size w W) (hB : W.heap[N]? = some (.cells (intRow xs) 3 (0, 0))) => (show NumV w (vs.map (fnd ws)) (.returned (.slice (some ⟨N, 0, none⟩) n n)) W from
    ⟨_, rfl, by show Rows 1 EInt W _ (intsN (vs.map (fnd ws))); rw [hxs]; exact rows_int hxl (Nat.le_refl _) hB, hb⟩))
  clear h hv hst0 hW0 hN hcn hxl hxa hxs
  go_enter Try.func30, Try.ntmps30
  go_wp2_with fail
  rw [HW0.out, HN.out]
  go_loopw [13] (fun sv wr => ∃ s : Nat, s ≤ n ∧ sv = .int .i64 s ∧ Hid (BlS w wr N (fillZ xs s))) (fun sv _ => n - (Go.RowKit.intOf sv).toNat)
  case atStart => exact ⟨0, Nat.zero_le _, rfl, HST0⟩
  case round =>
    clear HST0 HW0 hmk
    obtain ⟨s, hsn, rfl, HS⟩ := hrel
    by_cases hlt : s < n
    · have hlti : (s : Int) < (n : Int) := by omega
      obtain ⟨x, hx⟩ : ∃ x, vs[s]? = some x := ⟨_, List.getElem?_eq_getElem (by rw [HCN.out]; exact hlt)⟩
      obtain ⟨b1, o1, rfl, -, hj1⟩ := at_str (HV.out wr HS.out.below) (by rw [HCN.out]; omega)
      have u0 := hj1 s x hx
      have HFF := Lib.hid (firstFrom_any (HL.out wr HS.out.below) x)
      have HXX := Lib.hid (HXA.out s x hx)
      obtain ⟨T, hT⟩ : ∃ T : ByteArray, (⟨x.toArray⟩ : ByteArray) = T := ⟨_, rfl⟩
      obtain ⟨r, hr⟩ : ∃ r, fnd ws x = r := ⟨_, rfl⟩
      rw [hT] at u0 HFF
      rw [hr] at HFF HXX
      clear hj1 hx hT hr
      go_wp2_with fail
      refine HFF.out.mono ?_
      rintro e w3 ⟨rfl, hb⟩
      have HS3 := Lib.hid (HS.out.keep HN.out hb)
      have kst : w3.cell? ⟨N, s, none⟩ = some (.int .i64 ((fillZ xs s).getD s 0)) := cell_of HS3.out.d (intRow_get (by rw [fillZ_len (by rw [HXL.out]; exact hsn), HXL.out]; exact hlt))
      have fst : w3.frozen? ⟨N, s, none⟩ = false := frozen_of HS3.out.d
      obtain ⟨c, hcc⟩ : ∃ c, (fillZ xs s).getD s 0 = c := ⟨_, rfl⟩
      rw [hcc] at kst
      have HNX := Lib.hid (show BlS w (w3.setCell ⟨N, s, none⟩ (.int .i64 (r : Int))) N (fillZ xs (s + 1)) by
        rw [← fillZ_set HXX.out]
        exact HS3.out.set HN.out s (r : Int))
      clear hcc HS HS3 HFF hb
      go_wp2_with fail
      exact ⟨⟨s + 1, by omega, by go_num, HNX⟩, by simp only [Go.RowKit.intOf]; omega⟩
    · obtain rfl : s = n := by omega
      have hlti : ¬ (s : Int) < (s : Int) := by omega
      have HE := Lib.hid (HEND.out wr HS.out.below (by have := HS.out.d; rw [← HXL.out, fillZ_all] at this; exact this))
      clear HEND HS
      go_wp2_with fail
      go_ret
      exact HE.out

/-! ### maps of counts -/
theorem lawS : Keyed Try.prog 9 := string_keyed Try.underlying9
theorem zeroI (w : World) : (zeroValue 3).run Try.prog w = .ok (.int .i64 0) w := by kernel_rfl
/-- A map that counts the elements of a list. -/
def MapAt (w : World) (b n : Nat) (vs : List Wd) : Prop := ∃ D : DataW Nat, CntD D vs ∧ w.ownsMap Try.prog 9 (plainElem Try.prog 3) b n D
theorem MapAt.lt {w : World} {b n : Nat} {vs : List Wd} (h : MapAt w b n vs) : b < w.heap.size := by
  obtain ⟨D, _, h2⟩ := h
  exact h2.lt
theorem MapAt.below {w W : World} {b n : Nat} {vs : List Wd} (h : MapAt w b n vs) (hb : Below w.heap.size w W) : MapAt W b n vs := by
  obtain ⟨D, h1, h2⟩ := h
  exact ⟨D, h1, h2.kept (grown_below hb none) (by simp)⟩
theorem key_of (x : Wd) (hx : x.length ≤ maxLen) : keyOf Try.prog 9 (.string ⟨x.toArray⟩) = some (.string x) := by
  have := Go.WideMaps.keyOf_string_mk (P := Try.prog) (k := 9) Try.underlying9 (s := ⟨x.toArray⟩) (by show x.toArray.size ≤ _; rw [List.size_toArray]; exact hx)
  simpa using this
theorem MapAt.look {w : World} {b n : Nat} {vs : List Wd} (h : MapAt w b n vs) (x : Wd) (hx : x.length ≤ maxLen) : (Instr.lookup 93 (.map (some b)) (.string ⟨x.toArray⟩) false).run Try.prog w = .ok (.int .i64 (vs.count x : Nat)) w := by
  obtain ⟨D, h1, h2⟩ := h
  obtain ⟨c, hrun, hat, _⟩ := h2.lookup_int lawS Try.underlying93 Try.underlying3 (zeroI w) (key_of x hx)
  rw [(h1.step hat).1] at hrun
  exact hrun

theorem sortsS (m : Nat) : AnyZ.SortsIn Try.prog Try.laysSorted_ren Fence.wide m :=
  ⟨fun blk off cap ss W hH hblk hsz => callsIn_wide.2 (AnyM.slices_Sort_string Try.laysSortS blk off cap ss W hH hblk hsz),
   fun p cap W => callsIn_wide.2 (AnyM.slices_Sort_string_none Try.laysSortS p cap W)⟩
theorem own_rowsE {w : World} {base : Nat} {v : Value} {xs : List Wd} (h : w.ownsRow base 9 1 v xs.length (xs.map encStr)) : Rows 1 EStr w v xs := by
  exact rows_of_own (enc := fun x => [encStr x]) (fun _ => rfl) (by rw [show xs.flatMap (fun x => [encStr x]) = xs.map encStr from by clear h; induction xs with | nil => rfl | cons a l ih => simp [List.flatMap_cons, ih]]; exact h)
theorem keys_any (mb : Option Nat) (W : World) : Calls Try.prog 67 #[.map mb] W fun e w' => e = .returned (.func (.func 82) #[] #[.pointer (some ⟨W.heap.size, 0, none⟩)]) ∧ w' = W.alloc (.cells #[.map mb] 93) :=
  callsIn_wide.1 (AnyZ.keys_in Try.laysKeys Fence.wide 5 trivial rfl mb W)
theorem sorted_any {w : World} {b n : Nat} {vs : List Wd} (h : MapAt w b n vs) (hn : vs.length ≤ 4096) :
    Calls Try.prog 66 #[.func (.func 82) #[] #[.pointer (some ⟨w.heap.size, 0, none⟩)]] (w.alloc (.cells #[.map (some b)] 93)) fun e w' => ∃ v : Value, e = .returned v ∧ Rows 1 EStr w' v (lexW vs) ∧ Below w.heap.size w w' := by
  have hbl := h.lt
  obtain ⟨D, hD, hown⟩ := h
  have hsz := hD.size Try.underlying9 lawS hown
  have hle := lex_len vs
  have hmax : Maps.size D ≤ maxLen := by rw [hsz]; unfold maxLen; omega
  have hbytes : Maps.size D * 16 ≤ 140737488355328 := by rw [hsz]; omega
  have hseq : SeqGives Fence.wide 2 Try.prog 82 #[.pointer (some ⟨w.heap.size, 0, none⟩)] encStr (fun ss => ss.Perm (strKeys D)) (Maps.size D) (w.alloc (.cells #[.map (some b)] 93)) :=
    AnyZ.keys_gives (ρ := Try.laysKeys_ren) { Try.laysKeys with } Fence.wide _ trivial rfl (by omega) w.heap.size b n D _ (by simp) (by simp) (by
      obtain ⟨es, clock, hb, Ft, hs, hDD⟩ := hown
      exact ⟨es, clock, (Below.heap_alloc _ _ b hbl).trans hb, Ft, hs, hDD⟩)
  have cS := AnyZ.sorted_in Try.laysSorted Fence.wide 5 trivial trivial trivial trivial rfl (by omega) (sortsS _) (enters_of Try.func81 (by kernel_rfl) rfl) 82 #[.pointer (some ⟨w.heap.size, 0, none⟩)] trivial (enters_of Try.func82 (by kernel_rfl) rfl) _ _ hmax hbytes _ hseq
  refine (callsIn_wide.1 cS).mono ?_
  rintro e w' ⟨v, ss, rfl, hS, hrow, _, hb⟩
  have e1 : ss.mergeSort (fun x y => decide (x ≤ y)) = lexW vs := hD.sorted Try.underlying9 lawS hown hS
  have e2 : ss.length = (lexW vs).length := by rw [← e1]; simp
  rw [e1, e2] at hrow
  exact ⟨v, rfl, own_rowsE hrow, ((Below.refl _ w).alloc (Nat.le_refl _) _).trans (hb.mono (by simp))⟩

set_option maxRecDepth 100000 in
set_option maxHeartbeats 4000000 in
theorem arrange_any {w : World} {b n0 : Nat} {vs : List Wd} (h : MapAt w b n0 vs) (hn : vs.length ≤ 4096) (hok : LexOk (lexW vs) (cntW vs (lexW vs))) :
    Calls Try.prog 47 #[.map (some b)] w fun e w' => ∃ p, e = .returned (.pointer (some ⟨p, 0, none⟩)) ∧ LexAt w' p (lexW vs) (cntW vs (lexW vs)) ∧ Below w.heap.size w w' := by
  have HSO := Lib.hid (sorted_any h hn)
  have HM := Lib.hid (fun W (hb : Below w.heap.size w W) => h.below hb)
  have HOK := Lib.hid hok
  have HK := Lib.hid (keys_any (some b) w)
  obtain ⟨ws, hws⟩ : ∃ ws, lexW vs = ws := ⟨_, rfl⟩
  obtain ⟨cs, hcs⟩ : ∃ cs, cntW vs ws = cs := ⟨_, rfl⟩
  rw [hws] at HSO HOK ⊢
  rw [hcs] at HOK ⊢
  have hca : ∀ (j : Nat) (x : Wd), ws[j]? = some x → (intsN cs)[j]? = some ((vs.count x : Nat) : Int) := fun j x hx => by rw [← hcs]; unfold cntW; simp [hx]
  obtain ⟨n, hcn⟩ : ∃ n, ws.length = n := ⟨_, rfl⟩
  obtain ⟨xs, hxs⟩ : ∃ xs, intsN cs = xs := ⟨_, rfl⟩
  have hxl : xs.length = n := by rw [← hxs, List.length_map, HOK.out.len, hcn]
  rw [hxs] at hca
  have hfew : n ≤ 1024 := by rw [← hcn]; exact HOK.out.few
  obtain ⟨i1, hi1, hy0, hy1, hy2⟩ := info_parts' Try.infoInt2
  have hmk : ∀ W : World, (Instr.makeSlice 22 (.int .i64 n) (.int .i64 n)).run Try.prog W = .ok (.slice (some ⟨W.heap.size, 0, none⟩) n n) (W.alloc (.cells (intRow (List.replicate n 0)) 3)) := fun W => by
    have := run_make (P := Try.prog) W 22 3 i1 _ Try.underlying22 hi1 hy0 .i64 .i64 n n (by omega) (by omega) (by rw [hy2]; omega) (by omega)
    rw [Int.toNat_natCast, hy1, Nat.mul_one] at this
    rw [← made_int]
    exact this
  have HMK := Lib.hid hmk
  have HCA := Lib.hid hca
  have HCN := Lib.hid hcn
  have HXL := Lib.hid hxl
  have HXS := Lib.hid hxs
  clear h hok hws hcs hca hcn hxl hxs hmk
  go_enter Try.func47, Try.ntmps47
  go_wp2_with fail
  refine HK.out.mono ?_
  rintro e w1 ⟨rfl, rfl⟩
  go_wp2_with fail
  refine HSO.out.mono ?_
  rintro e w2 ⟨v, rfl, hr, hb⟩
  have HB2 := Lib.hid hb
  have HW2 := Lib.hid (fun W (hbb : Below w2.heap.size w2 W) => hr.below stays_str hbb)
  obtain ⟨A, cap, rfl, hc⟩ := hr.form
  rw [HCN.out] at HW2
  obtain ⟨N, hN⟩ : ∃ N, w2.heap.size = N := ⟨_, rfl⟩
  obtain ⟨W0, hW0⟩ : ∃ W0, w2.alloc (.cells (intRow (List.replicate n 0)) 3) = W0 := ⟨_, rfl⟩
  have hst0 : BlS w2 W0 N (fillZ xs 0) := by
    have b1 := block_new w2 (.cells (intRow (List.replicate n 0)) 3)
    rw [hN] at b1
    rw [← hW0, fillZ_zero, HXL.out]
    exact ⟨below_box w2 _, b1⟩
  have HST0 := Lib.hid hst0
  have HN := Lib.hid hN
  have HW0 := Lib.hid hW0
  have hmk2 := HMK.out w2
  rw [hW0, hN] at hmk2
  rw [HCN.out]
  clear hb hr hst0 hW0 hN HK HSO hc HMK
  go_wp2_with fail
  go_loopw [15] (fun sv wr => ∃ s : Nat, s ≤ n ∧ sv = .int .i64 s ∧ Hid (BlS w2 wr N (fillZ xs s))) (fun sv _ => n - (Go.RowKit.intOf sv).toNat)
  case atStart => exact ⟨0, Nat.zero_le _, rfl, HST0⟩
  case round =>
    clear HST0 hmk2 HW0
    obtain ⟨s, hsn, rfl, HS⟩ := hrel
    have HBB := Lib.hid (show Below w.heap.size w wr from HB2.out.trans (HS.out.below.mono HB2.out.size))
    by_cases hlt : s < n
    · have hlti : (s : Int) < (n : Int) := by omega
      obtain ⟨x, hx⟩ : ∃ x, ws[s]? = some x := ⟨_, List.getElem?_eq_getElem (by rw [HCN.out]; exact hlt)⟩
      obtain ⟨b1, o1, rfl, -, hj1⟩ := at_str (HW2.out wr HS.out.below) (by rw [HCN.out]; omega)
      have u0 := hj1 s x hx
      have hlk := (HM.out wr HBB.out).look x (by have := (HOK.out.val x (List.mem_of_getElem? hx)).1; unfold maxLen; omega)
      have HXX := Lib.hid (HCA.out s x hx)
      obtain ⟨T, hT⟩ : ∃ T : ByteArray, (⟨x.toArray⟩ : ByteArray) = T := ⟨_, rfl⟩
      obtain ⟨r, hr⟩ : ∃ r, vs.count x = r := ⟨_, rfl⟩
      rw [hT] at u0 hlk
      rw [hr] at hlk HXX
      have kst : wr.cell? ⟨N, s, none⟩ = some (.int .i64 ((fillZ xs s).getD s 0)) := cell_of HS.out.d (intRow_get (by rw [fillZ_len (by rw [HXL.out]; exact hsn), HXL.out]; exact hlt))
      have fst : wr.frozen? ⟨N, s, none⟩ = false := frozen_of HS.out.d
      obtain ⟨c, hcc⟩ : ∃ c, (fillZ xs s).getD s 0 = c := ⟨_, rfl⟩
      rw [hcc] at kst
      have HNX := Lib.hid (show BlS w2 (wr.setCell ⟨N, s, none⟩ (.int .i64 (r : Int))) N (fillZ xs (s + 1)) by
        rw [← fillZ_set HXX.out]
        exact HS.out.set HN.out s (r : Int))
      clear hcc HS hj1 hx hT hr HBB
      go_wp2_with fail
      exact ⟨⟨s + 1, by omega, by go_num, HNX⟩, by simp only [Go.RowKit.intOf]; omega⟩
    · obtain rfl : s = n := by omega
      have hlti : ¬ (s : Int) < (s : Int) := by omega
      have HBL := Lib.hid (show wr.heap[N]? = some (.cells (intRow xs) 3 (0, 0)) by have := HS.out.d; rw [← HXL.out, fillZ_all] at this; exact this)
      have hrw := HW2.out wr HS.out.below
      have hrc : Rows 1 EInt wr (.slice (some ⟨N, 0, none⟩) s s) (intsN cs) := by rw [HXS.out]; exact rows_int HXL.out (Nat.le_refl _) HBL.out
      have HR1 := Lib.hid (reverseOrder_any hrw (by rw [HCN.out]; omega) (fun x hx => (HOK.out.val x hx).1) HOK.out.asc (fun x hx => (HOK.out.val x hx).2))
      have HRW := Lib.hid hrw
      have HRC := Lib.hid hrc
      clear hrw hrc HS HM
      go_wp2_with fail
      refine HR1.out.mono ?_
      rintro e w4 ⟨v3, rfl, hr3, hb3⟩
      have HB3 := Lib.hid hb3
      have HR3 := Lib.hid hr3
      have HR2 := Lib.hid (countOrder_any (HRC.out.below stays_int hb3) (by rw [HOK.out.len, HCN.out]; omega))
      clear hr3 hb3 HR1
      go_wp2_with fail
      refine HR2.out.mono ?_
      rintro e w5 ⟨v4, rfl, hr4, hb4⟩
      obtain ⟨A3, c3, rfl, -⟩ := HR3.out.form
      obtain ⟨A4, c4, rfl, -⟩ := hr4.form
      obtain ⟨l3, hl3⟩ : ∃ l, (List.map (fun (j : Nat) => (j : Int)) (ordK (kyL ws) ws.length)).length = l := ⟨_, rfl⟩
      obtain ⟨l4, hl4⟩ : ∃ l, (List.map (fun (j : Nat) => (j : Int)) (ordC (fun i => cs.getD i 0) cs.length)).length = l := ⟨_, rfl⟩
      rw [hl3] at HR3 ⊢
      rw [hl4] at hr4 ⊢
      have HE := Lib.hid (fun (t : TypeId) (ht : t = 70) => (show (∃ p, Ending.returned (.pointer (some ⟨w5.heap.size, 0, none⟩)) = .returned (.pointer (some ⟨p, 0, none⟩)) ∧ LexAt (w5.alloc (.cells #[.slice A s cap, .slice (some ⟨N, 0, none⟩) s s, .slice A3 l3 c3, .slice A4 l4 c4] t)) p ws cs ∧ Below w.heap.size w (w5.alloc (.cells #[.slice A s cap, .slice (some ⟨N, 0, none⟩) s s, .slice A3 l3 c3, .slice A4 l4 c4] t))) by
        subst ht
        have hbx := below_box w5 (.cells #[.slice A s cap, .slice (some ⟨N, 0, none⟩) s s, .slice A3 l3 c3, .slice A4 l4 c4] 70)
        have hb45 : Below w4.heap.size w4 w5 := hb4
        have hb35 : Below wr.heap.size wr w5 := HB3.out.trans (hb4.mono HB3.out.size)
        refine ⟨_, rfl, ⟨HOK.out, _, _, _, _, block_new w5 _, (HRW.out.below stays_str hb35).below stays_str hbx, (HRC.out.below stays_int hb35).below stays_int hbx, (HR3.out.below stays_int hb45).below stays_int hbx, hr4.below stays_int hbx⟩, ?_⟩
        exact HBB.out.trans ((hb35.mono HBB.out.size).trans (hbx.mono (Nat.le_trans HBB.out.size hb35.size)))))
      clear hr4 hb4 HR2 HR3 HB3
      go_wp2_with fail
      go_ret
      exact HE.out _ rfl
end Go.Proofs.Yteennnhinfnahaa
