/-
  WALKS over package lexicon: appendTimes, values.
-/
import Derived.Test.YteennnhinfnahaaLmA
namespace Go.Proofs.Yteennnhinfnahaa
open Go.RowKit Go.Shelf Go.Lib
set_option linter.unusedVariables false
set_option linter.unusedSimpArgs false
namespace Lm

/-- The values of the first k words: each as often as its count. -/
def valsT (ws : List Wd) (cs : List Nat) (k : Nat) : List Wd := ((ws.zip cs).take k).flatMap fun x => List.replicate x.2 x.1
def valsL (ws : List Wd) (cs : List Nat) : List Wd := (ws.zip cs).flatMap fun x => List.replicate x.2 x.1
theorem valsT_zero (ws : List Wd) (cs : List Nat) : valsT ws cs 0 = [] := rfl
theorem valsT_succ {ws : List Wd} {cs : List Nat} {k c : Nat} {x : Wd} (h1 : ws[k]? = some x) (h2 : cs[k]? = some c) : valsT ws cs (k + 1) = valsT ws cs k ++ List.replicate c x := by
  unfold valsT
  have : (ws.zip cs)[k]? = some (x, c) := by rw [List.getElem?_zip_eq_some]; exact ⟨h1, h2⟩
  rw [List.take_add_one, this]
  simp
theorem valsT_all {ws : List Wd} {cs : List Nat} (h : cs.length = ws.length) : valsT ws cs ws.length = valsL ws cs := by
  unfold valsT valsL
  rw [List.take_of_length_le (by simp [h])]
theorem vals_len : ∀ (l : List (Wd × Nat)), (l.flatMap fun x => List.replicate x.2 x.1).length = (l.map (·.2)).sum
  | [] => rfl
  | x :: l => by simp [List.flatMap_cons, vals_len l]
theorem sum_take_le : ∀ (l : List Nat) (k : Nat), (l.take k).sum ≤ l.sum
  | [], k => by simp
  | x :: l, 0 => by simp
  | x :: l, k + 1 => by
    have := sum_take_le l k
    simp only [List.take_succ_cons, List.sum_cons]
    omega
theorem mem_sum_le : ∀ (l : List Nat) (c : Nat), c ∈ l → c ≤ l.sum
  | [], c, h => by cases h
  | x :: l, c, h => by
    rw [List.sum_cons]
    rcases List.mem_cons.1 h with rfl | h
    · omega
    · have := mem_sum_le l c h
      omega
theorem valsL_len {ws : List Wd} {cs : List Nat} (h : cs.length = ws.length) : (valsL ws cs).length = cs.sum := by
  unfold valsL
  rw [vals_len, List.map_snd_zip (by omega)]
theorem valsT_len {ws : List Wd} {cs : List Nat} (h : cs.length = ws.length) (k : Nat) : (valsT ws cs k).length ≤ cs.sum := by
  unfold valsT
  rw [vals_len, List.map_take, List.map_snd_zip (by omega)]
  exact sum_take_le cs k
theorem sv_rep (x : Wd) (c : Nat) : sv (List.replicate c x) = List.replicate c (.string ⟨x.toArray⟩) := by simp [sv]
theorem sv_app (l m : List Wd) : sv (l ++ m) = sv l ++ sv m := by simp [sv]
/-- What Repeat answers is read. -/
theorem sees_rep {s : ByteArray} {g c : Nat} {W : World} (h : RepAt s g c c W) : SeesC W W.heap.size (.slice (some ⟨g, 0, none⟩) c c) (List.replicate c (.string s)) := by
  refine .inr ⟨⟨g, 0, none⟩, c, by simp, by simp, fun _ => (Array.getElem?_eq_some_iff.1 h).1, fun j u hu => ?_⟩
  have hj : j < c := by have := (List.getElem?_eq_some_iff.1 hu).1; simpa using this
  rw [List.getElem?_replicate, if_pos hj] at hu
  rw [add_plain, Nat.zero_add, ← hu]
  exact cell_of h (by rw [List.getElem?_toArray]; exact repRow_get hj)
/-- The answer of appendTimes. -/
def TimesV (w : World) (base n c : Nat) (F : List Value) (s : ByteArray) (e : Ending) (w' : World) : Prop :=
  ∃ v', e = .returned v' ∧ Hid (w'.ownsRow base 9 1 v' (n + c) (F ++ List.replicate c (.string s))) ∧ Hid (∀ B W, Below B W w → B ≤ base → Below B W w')
set_option maxRecDepth 100000 in
set_option maxHeartbeats 4000000 in
theorem times_any {w : World} {base n : Nat} {v : Value} {F : List Value} (s : ByteArray) (c : Nat) (hown : w.ownsRow base 9 1 v n F) (hbase : base ≤ w.heap.size) (hn : n ≤ 100000) (hc : c ≤ 100000) :
    Calls Try.prog 57 #[v, .string s, .int .i64 (c : Int)] w (TimesV w base n c F s) := by
  obtain ⟨vA, vc, rfl, -, -⟩ := own_form' hown
  have HR := Lib.hid (repeat_any (w := w.alloc (.cells #[.string s] 9)) (s := s) w.heap.size c hc (block_new w _))
  have HO := Lib.hid hown
  have HB := Lib.hid hbase
  obtain ⟨i0, hi, hz0, hz1, hz2⟩ := info_parts' Try.infoStr
  have hs1 : ∀ u ∈ List.replicate c (Value.string s), u.oneCell' = true := fun u hu => by rw [List.eq_of_mem_replicate hu]; rfl
  have hsl : (List.replicate c (Value.string s)).length = c := List.length_replicate
  clear hown
  go_enter Try.func57, Try.ntmps57
  go_wp2_with fail
  refine HR.out.mono ?_
  rintro e w2 ⟨rfl, hrep, hb⟩
  have hb0 := below_alloc _ hb
  have hsr := sees_rep hrep
  rw [alloc_sz] at hsr
  have HS := Lib.hid hsr
  clear hsr
  have HO2 := Lib.hid (own_below' (N := 0) HO.out hb0)
  have HW2 := Lib.hid (Nat.le_trans HB.out hb0.size)
  have HB0 := Lib.hid hb0
  clear hrep hb hb0
  go_wp2_with (at_builtin; refine wpList_append_sees rfl (.tmp 7) (.tmp 11) 29 rfl base 9 i0 _ 16 Try.underlying29 hi hz0 hz1 hz2 rfl _ n F rfl HO2.out _ _ (List.replicate c (.string s)) rfl HS.out hs1 (by rw [hsl]; unfold maxLen; omega) (by rw [hsl]; omega) HW2.out ?_)
  intro v' w4 h1 h2 _
  have hlow := own_low HO2.out
  have HE := Lib.hid (show TimesV w base n c F s (.returned v') w4 from ⟨v', rfl, Lib.hid h1, Lib.hid fun B W hb hB => (hb.trans (HB0.out.mono (Nat.le_trans hB HB.out))).grown h2 (by have := HB0.out.size; have := HB.out; omega) (fun k e => Nat.le_trans hB (hlow k e).1)⟩)
  clear h1 h2 hlow
  go_wp2_with fail
  go_ret
  exact HE.out
/-- The answer of values. -/
def ValsV (w : World) (vs : List Wd) (e : Ending) (w' : World) : Prop :=
  ∃ v', e = .returned v' ∧ w'.ownsRow w.heap.size 9 1 v' vs.length (sv vs) ∧ Below w.heap.size w w'
structure ValsI (w wr : World) (v : Value) (l : List Wd) : Prop where
  own : wr.ownsRow w.heap.size 9 1 v l.length (sv l)
  below : Below w.heap.size w wr
set_option maxRecDepth 100000 in
set_option maxHeartbeats 4000000 in
theorem values_any {w : World} {p : Nat} {ws : List Wd} {cs : List Nat} (h : LexAt w p ws cs) : Calls Try.prog 29 #[.pointer (some ⟨p, 0, none⟩)] w (ValsV w (valsL ws cs)) := by
  obtain ⟨A1, c1, k1, r1⟩ := h.words
  obtain ⟨A2, c2, k2, r2⟩ := h.counts
  have hl := h.ok.len
  have HVT := Lib.hid (fun k => valsT_len hl k)
  have hsum := h.ok.sum
  have HALL := Lib.hid (valsT_all hl)
  have HSC := Lib.hid (fun (k : Nat) (x : Wd) (c : Nat) (h1 : ws[k]? = some x) (h2 : cs[k]? = some c) => valsT_succ h1 h2)
  have HCS := Lib.hid (fun (k c : Nat) (h2 : cs[k]? = some c) => show c ≤ cs.sum from by
    exact mem_sum_le cs c (List.mem_of_getElem? h2))
  have HLT := h.lt
  have HR1 := Lib.hid (fun W (hb : Below w.heap.size w W) => r1.below stays_str hb)
  have HR2 := Lib.hid (fun W (hb : Below w.heap.size w W) => r2.below stays_int hb)
  have HK2 := Lib.hid (fun W (hb : Below w.heap.size w W) => show W.cell? ⟨p, 1, none⟩ = _ from (hb.cell HLT).trans k2)
  obtain ⟨n, hn⟩ : ∃ n, ws.length = n := ⟨_, rfl⟩
  have HN := Lib.hid hn
  have HCL := Lib.hid (hl.trans hn)
  have h4 : n ≤ 1024 := by have := h.ok.few; omega
  obtain ⟨S, hS⟩ : ∃ S, cs.sum = S := ⟨_, rfl⟩
  rw [hS] at hsum HVT HCS
  rw [hn] at k1 k2 r1 r2 HR1 HR2 HK2 HALL
  have HST0 := Lib.hid (show ValsI w w (.slice none 0 0) (valsT ws cs 0) from ⟨World.ownsRow_nil _ _ _ _, Below.refl _ _⟩)
  clear h hl hn hS r1 r2 k2 HLT
  go_enter Try.func29, Try.ntmps29
  go_wp2_with fail
  go_loopw [3, 11] (fun lv iv wr => ∃ k : Nat, k ≤ n ∧ iv = .int .i64 k ∧ Hid (ValsI w wr lv (valsT ws cs k))) (fun _ iv _ => n - (Go.RowKit.intOf iv).toNat)
  case atStart => exact ⟨0, Nat.zero_le _, rfl, HST0⟩
  case round =>
    clear HST0 k1
    obtain ⟨k, hkn, rfl, HI⟩ := hrel
    by_cases hlt : k < n
    · have hlti : (k : Int) < (n : Int) := by omega
      obtain ⟨x, hx⟩ : ∃ x, ws[k]? = some x := ⟨_, List.getElem?_eq_getElem (by rw [HN.out]; exact hlt)⟩
      obtain ⟨c, hc⟩ : ∃ c, cs[k]? = some c := ⟨_, List.getElem?_eq_getElem (by rw [HCL.out]; exact hlt)⟩
      obtain ⟨b1, o1, rfl, -, hj1⟩ := at_str (HR1.out wr HI.out.below) (by rw [HN.out]; omega)
      obtain ⟨b2, o2, rfl, -, hj2⟩ := at_int (HR2.out wr HI.out.below) (by rw [List.length_map, HCL.out]; omega)
      have u1 := hj1 k x hx
      have u2 := hj2 k (c : Int) (by rw [List.getElem?_map, hc]; rfl)
      have k2 := HK2.out wr HI.out.below
      have hsc := HSC.out k x c hx hc
      have HLE := Lib.hid (HVT.out k)
      have hcS := HCS.out k c hc
      have hszb := HI.out.below.size
      obtain ⟨lA, lc, rfl, -, -⟩ := own_form' HI.out.own
      have HT := Lib.hid (times_any (⟨x.toArray⟩ : ByteArray) c HI.out.own hszb (by have := HLE.out; omega) (by omega))
      obtain ⟨T, hT⟩ : ∃ T : ByteArray, (⟨x.toArray⟩ : ByteArray) = T := ⟨_, rfl⟩
      have HTX := Lib.hid hT
      rw [hT] at u1 HT
      have HSCC := Lib.hid hsc
      have HBB := Lib.hid HI.out.below
      clear hj1 hj2 hx hc hT hsc
      go_wp2_with fail
      refine HT.out.mono ?_
      rintro e w3 ⟨v', rfl, ho, hb⟩
      have HNX := Lib.hid (show ValsI w w3 v' (valsT ws cs (k + 1)) from ⟨by
        have := ho.out
        rw [HSCC.out, List.length_append, List.length_replicate, sv_app, sv_rep, HTX.out]
        exact this, hb.out _ _ HBB.out (Nat.le_refl _)⟩)
      clear ho hb HT HI k2 u1 u2
      go_wp2_with fail
      exact ⟨⟨k + 1, by omega, by go_num, HNX⟩, by simp only [Go.RowKit.intOf]; omega⟩
    · obtain rfl : k = n := by omega
      have hlti : ¬ (k : Int) < (k : Int) := by omega
      rw [HALL.out] at HI
      go_wp2_with fail
      go_ret
      exact ⟨_, rfl, HI.out.own, HI.out.below⟩
end Lm
end Go.Proofs.Yteennnhinfnahaa
