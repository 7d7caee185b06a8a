/-
 WALKS over the reference of corpus: FindText, TextAt.
 WALKS over the reference of corpus: sign, compare.
 WALKS over the reference of corpus: CompareRegions, the comparisons ahead of the keys.
 MATHEMATICS of comparing keys pair by pair, from an index on.
 WALKS over the reference of corpus: CompareRegions, the keys.
-/
import Derived.Test.YtebmfkkkhmjkoaaGreatQcZ
import Derived.Test.YtebmfkkkhmjkoaaGreatQaZ
import Derived.BigQuiet
namespace Go.Proofs.YtebmfkkkhmjkoaaGreat
open Go.RowKit Go.Shelf Go.Lib

theorem findZ_first {α : Type} {p : α → Bool} {l : List α} {k : Nat} {y : α} (h : ∀ z ∈ l.take k, p z = false) (hk : l[k]? = some y) (hp : p y = true) : findZ p l = k := by
 obtain ⟨hkl, rfl⟩ := List.getElem?_eq_some_iff.1 hk
 have : l.findIdx? p = some k := by
  rw [List.findIdx?_eq_some_iff_getElem]
  refine ⟨hkl, hp, fun j hj => ?_⟩
  have := h l[j] (List.mem_take_iff_getElem.2 ⟨j, by omega, rfl⟩)
  simp [this]
 unfold findZ
 rw [this]
theorem findZ_nowhere {α : Type} {p : α → Bool} {l : List α} (h : ∀ z ∈ l, p z = false) : findZ p l = -1 := by
 have : l.findIdx? p = none := List.findIdx?_eq_none_iff.2 h
 unfold findZ
 rw [this]
theorem none_succ {α : Type} {p : α → Bool} {l : List α} {k : Nat} {y : α} (h : ∀ z ∈ l.take k, p z = false) (hk : l[k]? = some y) (hp : p y = false) : ∀ z ∈ l.take (k + 1), p z = false := by
 intro z hz
 rw [List.take_add_one, hk, List.mem_append] at hz
 rcases hz with hz | hz
 · exact h z hz
 simp at hz
 rw [hz]
 exact hp

set_option maxRecDepth 100000 in
set_option maxHeartbeats 4000000 in
theorem refTextAt_any {w : World} (s : Sv) {l : List Ex} (hx : Rows 4 EEx w s.vx l) (hl : l.length ≤ 1000000) (pos : Int) :
 Calls Tryz.prog 125 #[.agg s.arr, .int .i64 pos] w fun e w' => e = .returned (.int .i64 (findZ (fun t => (decide (t.b ≤ pos) && decide (pos < t.e))) l)) ∧ Below w.heap.size w w' := by
 obtain ⟨z, hz⟩ : ∃ z, findZ (fun t : Ex => (decide (t.b ≤ pos) && decide (pos < t.e))) l = z := ⟨_, rfl⟩
 obtain ⟨n, hn⟩ : ∃ n, l.length = n := ⟨_, rfl⟩
 have HX := Lib.hid (fun W (h : Below w.heap.size w W) => hx.below stays_ex h)
 obtain ⟨va, vt, vx, vr, vn, vh, vl⟩ := s
 simp only [Sv.arr] at *
 obtain ⟨A, cap, rfl, hc⟩ := hx.form
 rw [hn] at hc hl
 rw [hz, hn]
 obtain ⟨X, hX⟩ : ∃ X, w.alloc (.cells #[va, vt, .slice A n cap, vr, vn, vh, vl] 30) = X := ⟨_, rfl⟩
 have hbX : Below w.heap.size w X := by rw [← hX]; exact below_box w _
 obtain ⟨N0, hN0⟩ : ∃ N0, w.heap.size = N0 := ⟨_, rfl⟩
 have e1 : X.heap[N0]? = some (.cells #[va, vt, .slice A n cap, vr, vn, vh, vl] 30 (0, 0)) := by rw [← hX, ← hN0]; exact block_new w _
 have c2 := cell_of (i := 2) e1 rfl
 have HN := Lib.hid hn
 have HZ := Lib.hid hz
 have HB := Lib.hid hbX
 have HXe := Lib.hid hX
 have HN0 := Lib.hid hN0
 clear hn hz hx hbX hX e1 hN0
 go_enter Tryz.func125, Tryz.ntmps125
 go_wp2_with fail
 rw [HXe.out, HN0.out]
 go_wp2_with fail
 go_loopw [10] (fun i wr => ∃ k : Nat, k ≤ n ∧ i = .int .i64 k ∧ (∀ y ∈ l.take k, (decide (y.b ≤ pos) && decide (pos < y.e)) = false) ∧ Below w.heap.size w wr) (fun i _ => n - (Go.RowKit.intOf i).toNat)
 case atStart => exact ⟨0, Nat.zero_le _, rfl, by simp, HB.out⟩
 obtain ⟨k, hk, rfl, hm, hb⟩ := hrel
 by_cases hlt : k < n
 ·
  obtain ⟨g, hg⟩ : ∃ g, l[k]? = some g := ⟨_, List.getElem?_eq_getElem (by rw [HN.out]; exact hlt)⟩
  obtain ⟨bk, off, rfl, -, hj⟩ := at_ex (HX.out wr hb) (by rw [HN.out]; omega)
  obtain ⟨mv, hmv, k0, k1, k2, k3⟩ := hj k g hg
  obtain ⟨Am, cm, rfl, -⟩ := hmv.form
  obtain ⟨G, hG⟩ : ∃ s : ByteArray, (⟨g.name.toArray⟩ : ByteArray) = s := ⟨_, rfl⟩
  obtain ⟨gb, hgb⟩ : ∃ s, g.b = s := ⟨_, rfl⟩
  obtain ⟨ge, hge⟩ : ∃ s, g.e = s := ⟨_, rfl⟩
  rw [hG] at k0
  have HM : Hid ((decide (g.b ≤ pos) && decide (pos < g.e)) = true → z = (k : Int)) := Lib.hid (fun h => by rw [← HZ.out]; exact findZ_first (p := fun t : Ex => (decide (t.b ≤ pos) && decide (pos < t.e))) hm hg h)
  have HM2 : Hid ((decide (g.b ≤ pos) && decide (pos < g.e)) = false → ∀ y ∈ l.take (k + 1), (decide (y.b ≤ pos) && decide (pos < y.e)) = false) := Lib.hid (fun h => none_succ (p := fun t : Ex => (decide (t.b ≤ pos) && decide (pos < t.e))) hm hg h)
  rw [hgb, hge] at HM HM2
  rw [hgb] at k1
  rw [hge] at k2
  have HBW := Lib.hid (fun u : World => fun h : Below wr.heap.size wr u => hb.trans (h.mono hb.size))
  clear hb hG hj hg hm hgb hge hmv
  by_cases h1 : gb ≤ pos
  ·
   by_cases h2 : pos < ge
   ·
    have HMM := Lib.hid (HM.out (by simp [h1, h2]))
    clear HM HM2
    go_wp2_with fail
    go_ret
    refine ⟨by rw [HMM.out]; rfl, HBW.out _ (below_box wr _)⟩
   have HMM := Lib.hid (HM2.out (by simp; omega))
   clear HM HM2
   go_wp2_with fail
   exact ⟨⟨k + 1, by omega, by go_num, HMM.out, HBW.out _ (below_box wr _)⟩, by simp only [Go.RowKit.intOf]; omega⟩
  have HMM := Lib.hid (HM2.out (by simp; omega))
  clear HM HM2
  go_wp2_with fail
  exact ⟨⟨k + 1, by omega, by go_num, HMM.out, HBW.out _ (below_box wr _)⟩, by simp only [Go.RowKit.intOf]; omega⟩
 obtain rfl : k = n := by omega
 rw [List.take_of_length_le (by rw [HN.out]; exact Nat.le_refl _)] at hm
 have HM := Lib.hid (findZ_nowhere (p := fun t : Ex => (decide (t.b ≤ pos) && decide (pos < t.e))) hm)
 have HB := Lib.hid hb
 clear hb hm
 go_wp2_with fail
 go_ret
 exact ⟨by rw [← HZ.out, HM.out]; rfl, HB.out⟩
end Go.Proofs.YtebmfkkkhmjkoaaGreat
namespace Go.Proofs.YtebmfkkkhmjkoaaGreat
open Go.RowKit Go.Shelf Go.Lib

theorem cb_less : ∀ l m : List UInt8, Op.bytesLess l m = decide (compareBytes l m = -1)
 | [], [] => by simp [Op.bytesLess, compareBytes]
 | _ :: _, [] => by simp [Op.bytesLess, compareBytes]
 | [], _ :: _ => by simp [Op.bytesLess, compareBytes]
 | a :: l, b :: m => by
   have ih := cb_less l m
   unfold Op.bytesLess compareBytes
   by_cases h1 : a < b
   · simp [h1]
   by_cases h2 : b < a
   ·
    have h3 : a ≠ b := by
     intro h
     rw [h] at h2
     exact absurd h2 (UInt8.lt_irrefl b)
    simp [h1, h2, h3]
   have h3 : a = b := by
    have e1 := UInt8.not_lt.1 h1
    have e2 := UInt8.not_lt.1 h2
    exact UInt8.le_antisymm e2 e1
   simp [h3, ih]
set_option maxRecDepth 100000 in
theorem refSign_any (b : Bool) (w : World) :
 Calls Tryz.prog 145 #[.bool b] w fun e w' => e = .returned (.int .i64 (if b then -1 else 1)) ∧ w' = w := by
 cases b with
 | true =>
   go_enter Tryz.func145, Tryz.ntmps145
   go_wp2_with fail
   go_ret
   exact ⟨rfl, rfl⟩
 | false =>
   go_enter Tryz.func145, Tryz.ntmps145
   go_wp2_with fail
   go_ret
   exact ⟨rfl, rfl⟩
set_option maxRecDepth 100000 in
set_option maxHeartbeats 2000000 in
theorem refCompare_any (x y : Bs) (w : World) :
 Calls Tryz.prog 146 #[.string ⟨x.toArray⟩, .string ⟨y.toArray⟩] w fun e w' => e = .returned (.int .i64 (compareBytes x y)) ∧ w' = w := by
 have hx : (⟨x.toArray⟩ : ByteArray).toList = x := by rw [Lib.toList_data]
 have hy : (⟨y.toArray⟩ : ByteArray).toList = y := by rw [Lib.toList_data]
 have hl := cb_less x y
 obtain ⟨z, hz⟩ : ∃ z, compareBytes x y = z := ⟨_, rfl⟩
 have he : z = 0 ↔ x = y := ⟨fun h => cb_zero (by rw [hz]; exact h), fun h => by rw [← hz, h]; exact cb_self y⟩
 have h3 := cb_three x y
 rw [hz] at hl h3 ⊢
 obtain ⟨P, hP⟩ : ∃ s : ByteArray, (⟨x.toArray⟩ : ByteArray) = s := ⟨_, rfl⟩
 obtain ⟨Q, hQ⟩ : ∃ s : ByteArray, (⟨y.toArray⟩ : ByteArray) = s := ⟨_, rfl⟩
 rw [hP] at hx ⊢
 rw [hQ] at hy ⊢
 rw [← hx, ← hy] at hl he
 clear hz hx hy hP hQ
 rcases h3 with rfl | rfl | rfl
 ·
  have hb : Op.bytesLess P.toList Q.toList = true := hl
  clear hl he
  go_enter Tryz.func146, Tryz.ntmps146
  go_wp2_with fail
  go_ret
  exact ⟨rfl, rfl⟩
 ·
  have hb : Op.bytesLess P.toList Q.toList = false := hl
  have hq : (P.toList == Q.toList) = true := by rw [beq_iff_eq]; exact he.1 rfl
  clear hl he
  go_enter Tryz.func146, Tryz.ntmps146
  go_wp2_with fail
  go_ret
  exact ⟨rfl, rfl⟩
 have hb : Op.bytesLess P.toList Q.toList = false := hl
 have hq : (P.toList == Q.toList) = false := by
  rw [beq_eq_false_iff_ne]
  exact fun h => absurd (he.2 h) (by decide)
 clear hl he
 go_enter Tryz.func146, Tryz.ntmps146
 go_wp2_with fail
 go_ret
 exact ⟨rfl, rfl⟩
end Go.Proofs.YtebmfkkkhmjkoaaGreat
namespace Go.Proofs.YtebmfkkkhmjkoaaGreat
open Go.RowKit Go.Shelf Go.Lib

set_option maxRecDepth 100000 in
set_option maxHeartbeats 4000000 in
/-- The three comparisons ahead of the keys. -/
theorem refCmpR_early (x y : Ex) (v1 v2 : Value) (w : World) (hv : ∃ A n c, v1 = .slice A n c) (hm : ∃ A n c, v2 = .slice A n c) (hne : ¬ (x.b = y.b ∧ x.e = y.e ∧ x.name = y.name)) :
 Calls Tryz.prog 124 #[.agg #[.string ⟨x.name.toArray⟩, .int .i64 x.b, .int .i64 x.e, v1], .agg #[.string ⟨y.name.toArray⟩, .int .i64 y.b, .int .i64 y.e, v2]] w fun e w' => e = .returned (.int .i64 (cmpR x y)) ∧ Below w.heap.size w w' := by
 obtain ⟨A, n, c, rfl⟩ := hv
 obtain ⟨A2, n2, c2, rfl⟩ := hm
 have hcmp := fun W => refCompare_any x.name y.name W
 have hcb : compareBytes x.name y.name = 0 ↔ x.name = y.name := ⟨cb_zero, fun h => by rw [h]; exact cb_self _⟩
 have hx : (⟨x.name.toArray⟩ : ByteArray).toList = x.name := by rw [Lib.toList_data]
 have hy : (⟨y.name.toArray⟩ : ByteArray).toList = y.name := by rw [Lib.toList_data]
 have hB : Below w.heap.size w ((w.alloc (.cells #[.string ⟨x.name.toArray⟩, .int .i64 x.b, .int .i64 x.e, .slice A n c] 54)).alloc (.cells #[.string ⟨y.name.toArray⟩, .int .i64 y.b, .int .i64 y.e, .slice A2 n2 c2] 54)) := (below_box w _).trans ((below_box _ _).mono (by simp))
 unfold cmpR
 obtain ⟨xb, hxb⟩ : ∃ s, x.b = s := ⟨_, rfl⟩
 obtain ⟨xe, hxe⟩ : ∃ s, x.e = s := ⟨_, rfl⟩
 obtain ⟨yb, hyb⟩ : ∃ s, y.b = s := ⟨_, rfl⟩
 obtain ⟨ye, hye⟩ : ∃ s, y.e = s := ⟨_, rfl⟩
 rw [hxb, hxe, hyb, hye] at hne hB ⊢
 clear hxb hxe hyb hye
 obtain ⟨P, hP⟩ : ∃ s : ByteArray, (⟨x.name.toArray⟩ : ByteArray) = s := ⟨_, rfl⟩
 obtain ⟨Q, hQ⟩ : ∃ s : ByteArray, (⟨y.name.toArray⟩ : ByteArray) = s := ⟨_, rfl⟩
 obtain ⟨z, hz⟩ : ∃ z, compareBytes x.name y.name = z := ⟨_, rfl⟩
 rw [hz] at hcmp hcb ⊢
 rw [hP, hQ] at hcmp hB ⊢
 rw [hP] at hx
 rw [hQ] at hy
 have HC := Lib.hid hcmp
 have HB := Lib.hid hB
 by_cases h1 : xb = yb
 ·
  by_cases h2 : xe = ye
  ·
   have h3 : ¬ z = 0 := fun h => hne ⟨h1, h2, hcb.1 h⟩
   have h4 : (P.toList == Q.toList) = false := by
    rw [beq_eq_false_iff_ne, hx, hy]
    exact fun h => h3 (hcb.2 h)
   have hr : (if cmpI xb yb = 0 then (if cmpI ye xe = 0 then (if z = 0 then cmpPs x.ps y.ps else z) else cmpI ye xe) else cmpI xb yb) = z := by
    rw [if_pos (by rw [h1]; simp [cmpI]), if_pos (by rw [h2]; simp [cmpI]), if_neg h3]
   rw [hr]
   clear hr hcmp hB hcb hx hy hP hQ hz hne h3
   go_enter Tryz.func124, Tryz.ntmps124
   go_wp2_with fail
   refine (HC.out _).mono ?_
   rintro e w1 ⟨rfl, rfl⟩
   go_wp2_with fail
   go_ret
   have q := HB.out
   simp only [h1, h2] at q
   first | exact ⟨rfl, q⟩ | exact ⟨rfl, q.drew⟩
  have hr : (if cmpI xb yb = 0 then (if cmpI ye xe = 0 then (if z = 0 then cmpPs x.ps y.ps else z) else cmpI ye xe) else cmpI xb yb) = (if decide (ye < xe) then -1 else 1) := by
   have h5 : cmpI ye xe ≠ 0 := by unfold cmpI; split <;> (try split) <;> omega
   rw [if_pos (by rw [h1]; simp [cmpI]), if_neg h5]
   unfold cmpI
   by_cases h6 : ye < xe
   · simp [h6]
   have h7 : xe < ye := by omega
   simp [h6, h7]
  rw [hr]
  clear hr hcmp hB hcb hx hy hP hQ hz hne HC
  by_cases h6 : ye < xe
  ·
   rw [if_pos (decide_eq_true h6)]
   go_enter Tryz.func124, Tryz.ntmps124
   go_wp2_with fail
   refine (refSign_any _ _).mono ?_
   rintro e w1 ⟨rfl, rfl⟩
   go_wp2_with fail
   go_ret
   have q := HB.out
   simp only [h1] at q
   first | exact ⟨rfl, q⟩ | exact ⟨rfl, q.drew⟩
  rw [if_neg (by simpa using h6)]
  go_enter Tryz.func124, Tryz.ntmps124
  go_wp2_with fail
  refine (refSign_any _ _).mono ?_
  rintro e w1 ⟨rfl, rfl⟩
  go_wp2_with fail
  go_ret
  have q := HB.out
  simp only [h1] at q
  first | exact ⟨rfl, q⟩ | exact ⟨rfl, q.drew⟩
 have hr : (if cmpI xb yb = 0 then (if cmpI ye xe = 0 then (if z = 0 then cmpPs x.ps y.ps else z) else cmpI ye xe) else cmpI xb yb) = (if decide (xb < yb) then -1 else 1) := by
  have h5 : cmpI xb yb ≠ 0 := by unfold cmpI; split <;> (try split) <;> omega
  rw [if_neg h5]
  unfold cmpI
  by_cases h6 : xb < yb
  · simp [h6]
  have h7 : yb < xb := by omega
  simp [h6, h7]
 rw [hr]
 clear hr hcmp hB hcb hx hy hP hQ hz hne HC
 by_cases h6 : xb < yb
 ·
  rw [if_pos (decide_eq_true h6)]
  go_enter Tryz.func124, Tryz.ntmps124
  go_wp2_with fail
  refine (refSign_any _ _).mono ?_
  rintro e w1 ⟨rfl, rfl⟩
  go_wp2_with fail
  go_ret
  first | exact ⟨rfl, HB.out⟩ | exact ⟨rfl, HB.out.drew⟩
 rw [if_neg (by simpa using h6)]
 go_enter Tryz.func124, Tryz.ntmps124
 go_wp2_with fail
 refine (refSign_any _ _).mono ?_
 rintro e w1 ⟨rfl, rfl⟩
 go_wp2_with fail
 go_ret
 first | exact ⟨rfl, HB.out⟩ | exact ⟨rfl, HB.out.drew⟩
end Go.Proofs.YtebmfkkkhmjkoaaGreat
namespace Go.Proofs.YtebmfkkkhmjkoaaGreat
open Go.RowKit Go.Shelf Go.Lib

theorem drop_at {α : Type} {l : List α} {k : Nat} {p : α} (h : l[k]? = some p) : l.drop k = p :: l.drop (k + 1) := by
 obtain ⟨hk, rfl⟩ := List.getElem?_eq_some_iff.1 h
 exact List.drop_eq_getElem_cons hk
theorem drop_nil {α : Type} (l : List α) (k : Nat) (h : l.length ≤ k) : l.drop k = [] := List.drop_eq_nil_of_le h
theorem cmpPs_at {l m : List (Bs × Bs)} {k : Nat} {p q : Bs × Bs} {z : Int} (h : cmpPs (l.drop k) (m.drop k) = z) (hp : l[k]? = some p) (hq : m[k]? = some q) :
 (p.1 ≠ q.1 → compareBytes p.1 q.1 = z) ∧ (p.1 = q.1 → p.2 ≠ q.2 → compareBytes p.2 q.2 = z) ∧ (p.1 = q.1 → p.2 = q.2 → cmpPs (l.drop (k + 1)) (m.drop (k + 1)) = z) := by
 rw [drop_at hp, drop_at hq] at h
 unfold cmpPs cmpP at h
 refine ⟨fun h1 => ?_, fun h1 h2 => ?_, fun h1 h2 => ?_⟩
 · have h3 : compareBytes p.1 q.1 ≠ 0 := fun h => h1 (cb_zero h)
   rw [if_neg h3, if_neg h3] at h
   exact h
 ·
  have h3 : compareBytes p.2 q.2 ≠ 0 := fun h => h2 (cb_zero h)
  have h4 : compareBytes p.1 q.1 = 0 := by rw [h1]; exact cb_self _
  rw [if_pos h4, if_neg h3] at h
  exact h
 have h3 : compareBytes p.2 q.2 = 0 := by rw [h2]; exact cb_self _
 have h4 : compareBytes p.1 q.1 = 0 := by rw [h1]; exact cb_self _
 rw [if_pos h4, if_pos h3] at h
 exact h
theorem cmpPs_end2 {l m : List (Bs × Bs)} {k : Nat} {z : Int} (h : cmpPs (l.drop k) (m.drop k) = z) (hk : k ≤ l.length) (hm : k ≤ m.length) (he : ¬ (k < l.length ∧ k < m.length)) :
 z = (if l.length = m.length then 0 else if l.length < m.length then -1 else 1) := by
 rw [← h]
 by_cases h1 : k < l.length
 ·
  have h2 : k = m.length := by omega
  obtain ⟨p, hp⟩ : ∃ p, l[k]? = some p := ⟨_, List.getElem?_eq_getElem h1⟩
  rw [drop_at hp, drop_nil m k (by omega), if_neg (by omega), if_neg (by omega)]
  rfl
 by_cases h2 : k < m.length
 · obtain ⟨p, hp⟩ : ∃ p, m[k]? = some p := ⟨_, List.getElem?_eq_getElem h2⟩
   rw [drop_at hp, drop_nil l k (by omega), if_neg (by omega), if_pos (by omega)]
   rfl
 rw [drop_nil l k (by omega), drop_nil m k (by omega), if_pos (by omega)]
 rfl
end Go.Proofs.YtebmfkkkhmjkoaaGreat
namespace Go.Proofs.YtebmfkkkhmjkoaaGreat
open Go.RowKit Go.Shelf Go.Lib

theorem quiet_add_same {P : Program} {f : FuncId} {args : Array Value} {w : World} {a n : Nat} {v : Value}
 (h : Calls P f args (w.drewN (a + n)) fun e w' => e = .returned v ∧ w' = w.drewN (a + n)) :
 Calls P f args (w.drewN (a + n)) fun e w'' => e = .returned v ∧ ∃ m, w'' = w.drewN (a + m) :=
 h.mono fun _ _ ⟨he, hm⟩ => ⟨he, n, hm⟩
set_option maxRecDepth 100000 in
set_option maxHeartbeats 8000000 in
theorem refCmpR_keys {l m : List (Bs × Bs)} (P : ByteArray) (b e : Int) (v1 v2 : Value) {w : World} (hv : Rows 2 EPair w v1 l) (hm : Rows 2 EPair w v2 m) (hl : l.length ≤ maxLen) (hl2 : m.length ≤ maxLen) :
 Calls Tryz.prog 124 #[.agg #[.string P, .int .i64 b, .int .i64 e, v1], .agg #[.string P, .int .i64 b, .int .i64 e, v2]] w fun e w' => e = .returned (.int .i64 (cmpPs l m)) ∧ Below w.heap.size w w' := by
 obtain ⟨A, cap, rfl, hc⟩ := hv.form
 obtain ⟨A2, cap2, rfl, hc2⟩ := hm.form
 have HV := Lib.hid (fun W (h : Below w.heap.size w W) => hv.below stays_pair h)
 have HM := Lib.hid (fun W (h : Below w.heap.size w W) => hm.below stays_pair h)
 obtain ⟨n, hn⟩ : ∃ n, l.length = n := ⟨_, rfl⟩
 obtain ⟨n2, hn2⟩ : ∃ n, m.length = n := ⟨_, rfl⟩
 obtain ⟨z, hz⟩ : ∃ z, cmpPs l m = z := ⟨_, rfl⟩
 rw [hn] at hc hl
 rw [hn2] at hc2 hl2
 rw [hn, hn2, hz]
 unfold maxLen at hl hl2
 obtain ⟨X, hX⟩ : ∃ X, (w.alloc (.cells #[.string P, .int .i64 b, .int .i64 e, .slice A n cap] 54)).alloc (.cells #[.string P, .int .i64 b, .int .i64 e, .slice A2 n2 cap2] 54) = X := ⟨_, rfl⟩
 have hbX : Below w.heap.size w X := by rw [← hX]; exact (below_box w _).trans ((below_box _ _).mono (by simp))
 obtain ⟨N0, hN0⟩ : ∃ N0, w.heap.size = N0 := ⟨_, rfl⟩
 have e1 : X.heap[N0]? = some (.cells #[.string P, .int .i64 b, .int .i64 e, .slice A n cap] 54 (0, 0)) := by rw [← hX, ← hN0]; exact block_alloc _ (block_new w _)
 have e2 : X.heap[N0 + 1]? = some (.cells #[.string P, .int .i64 b, .int .i64 e, .slice A2 n2 cap2] 54 (0, 0)) := by
  have := block_new (w.alloc (.cells #[.string P, .int .i64 b, .int .i64 e, .slice A n cap] 54)) (.cells #[.string P, .int .i64 b, .int .i64 e, .slice A2 n2 cap2] 54)
  rw [← hX, ← hN0]
  simpa using this
 have hb1 : N0 < X.heap.size := (Array.getElem?_eq_some_iff.1 e1).1
 have hb2 : N0 + 1 < X.heap.size := (Array.getElem?_eq_some_iff.1 e2).1
 have HK := Lib.hid (fun W (h : Below X.heap.size X W) => And.intro ((h.cell (p := ⟨N0, 0, none⟩) hb1).trans (cell_of (i := 0) e1 rfl)) (And.intro ((h.cell (p := ⟨N0, 1, none⟩) hb1).trans (cell_of (i := 1) e1 rfl)) (And.intro ((h.cell (p := ⟨N0, 2, none⟩) hb1).trans (cell_of (i := 2) e1 rfl)) (And.intro ((h.cell (p := ⟨N0, 3, none⟩) hb1).trans (cell_of (i := 3) e1 rfl)) (And.intro ((h.cell (p := ⟨N0 + 1, 0, none⟩) hb2).trans (cell_of (i := 0) e2 rfl)) (And.intro ((h.cell (p := ⟨N0 + 1, 1, none⟩) hb2).trans (cell_of (i := 1) e2 rfl)) (And.intro ((h.cell (p := ⟨N0 + 1, 2, none⟩) hb2).trans (cell_of (i := 2) e2 rfl)) ((h.cell (p := ⟨N0 + 1, 3, none⟩) hb2).trans (cell_of (i := 3) e2 rfl)))))))))
 obtain ⟨c0, c1, c2, c3, d0, d1, d2, d3⟩ := HK.out X (Below.refl _ _)
 simp only [List.getElem_toArray, List.getElem_cons_zero, List.getElem_cons_succ] at c0 c1 c2 c3 d0 d1 d2 d3
 have HX := Lib.hid hX
 have HN0 := Lib.hid hN0
 have HBX := Lib.hid hbX
 have HN := Lib.hid hn
 have HN2 := Lib.hid hn2
 have HZ := Lib.hid hz
 clear hX hN0 hbX hn hn2 hz hv hm e1 e2 hb1 hb2
 go_enter Tryz.func124, Tryz.ntmps124
 go_wp2_with fail
 rw [HX.out, HN0.out]
 go_wp2_with fail
 go_loopw [5] (fun i wr => ∃ k : Nat, k ≤ n ∧ k ≤ n2 ∧ i = .int .i64 k ∧ cmpPs (l.drop k) (m.drop k) = z ∧ Below X.heap.size X wr) (fun i _ => n - (Go.RowKit.intOf i).toNat)
 case atStart => exact ⟨0, Nat.zero_le _, Nat.zero_le _, rfl, HZ.out, Below.refl _ _⟩
 obtain ⟨k, hk, hk2, rfl, hm, hb⟩ := hrel
 obtain ⟨c0, c1, c2, c3, d0, d1, d2, d3⟩ := HK.out wr hb
 simp only [List.getElem_toArray, List.getElem_cons_zero, List.getElem_cons_succ] at c0 c1 c2 c3 d0 d1 d2 d3
 have HB := Lib.hid (HBX.out.trans (hb.mono HBX.out.size))
 by_cases h1 : k < n
 ·
  by_cases h2 : k < n2
  ·
   obtain ⟨p, hp⟩ : ∃ p, l[k]? = some p := ⟨_, List.getElem?_eq_getElem (by rw [HN.out]; omega)⟩
   obtain ⟨q, hq⟩ : ∃ q, m[k]? = some q := ⟨_, List.getElem?_eq_getElem (by rw [HN2.out]; omega)⟩
   obtain ⟨g1, g2, g3⟩ := cmpPs_at hm hp hq
   obtain ⟨b1, o1, rfl, -, hj1⟩ := at_pair (HV.out wr HB.out) (by rw [HN.out]; omega)
   obtain ⟨b2, o2, rfl, -, hj2⟩ := at_pair (HM.out wr HB.out) (by rw [HN2.out]; omega)
   obtain ⟨u1, u2⟩ := hj1 k p hp
   obtain ⟨v1, v2⟩ := hj2 k q hq
   have cr1 := fun W => refCompare_any p.1 q.1 W
   have cr2 := fun W => refCompare_any p.2 q.2 W
   have x1 : (⟨p.1.toArray⟩ : ByteArray).toList = p.1 := by rw [Lib.toList_data]
   have x2 : (⟨p.2.toArray⟩ : ByteArray).toList = p.2 := by rw [Lib.toList_data]
   have y1 : (⟨q.1.toArray⟩ : ByteArray).toList = q.1 := by rw [Lib.toList_data]
   have y2 : (⟨q.2.toArray⟩ : ByteArray).toList = q.2 := by rw [Lib.toList_data]
   obtain ⟨P1, hP1⟩ : ∃ s : ByteArray, (⟨p.1.toArray⟩ : ByteArray) = s := ⟨_, rfl⟩
   obtain ⟨P2, hP2⟩ : ∃ s : ByteArray, (⟨p.2.toArray⟩ : ByteArray) = s := ⟨_, rfl⟩
   obtain ⟨Q1, hQ1⟩ : ∃ s : ByteArray, (⟨q.1.toArray⟩ : ByteArray) = s := ⟨_, rfl⟩
   obtain ⟨Q2, hQ2⟩ : ∃ s : ByteArray, (⟨q.2.toArray⟩ : ByteArray) = s := ⟨_, rfl⟩
   rw [hP1] at u1 cr1 x1
   rw [hP2] at u2 cr2 x2
   rw [hQ1] at v1 cr1 y1
   rw [hQ2] at v2 cr2 y2
   have hk0 : (0 : Int) ≤ (k : Int) := by omega
   have hkn : (k : Int) < (n : Int) := by omega
   have hkn2 : (k : Int) < (n2 : Int) := by omega
   by_cases hn1 : p.1 = q.1
   ·
    have t1 : (P1.toList == Q1.toList) = true := by rw [beq_iff_eq, x1, y1]; exact hn1
    by_cases hn2' : p.2 = q.2
    ·
     have t2 : (P2.toList == Q2.toList) = true := by rw [beq_iff_eq, x2, y2]; exact hn2'
     have HG := Lib.hid (g3 hn1 hn2')
     have HBK := Lib.hid hb
     clear hm hb g1 g2 g3 hp hq hj1 hj2 cr1 cr2 x1 x2 y1 y2 hP1 hP2 hQ1 hQ2 hn1 hn2'
     go_wp2_with fail
     go_quiet (fail)
     go_wp2_with fail
     go_quiet (fail)
     go_wp2_with fail
     exact ⟨⟨k + 1, by omega, by omega, by go_num, HG.out, below_drewN HBK.out _⟩, by simp only [Go.RowKit.intOf]; omega⟩
    have t2 : (P2.toList == Q2.toList) = false := by rw [beq_eq_false_iff_ne, x2, y2]; exact hn2'
    have hz2 := g2 hn1 hn2'
    rw [hz2] at cr2
    have CR := Lib.hid cr2
    have HBK := Lib.hid hb
    clear hm hb g1 g2 g3 hp hq hj1 hj2 cr1 cr2 x1 x2 y1 y2 hP1 hP2 hQ1 hQ2 hn1 hn2' hz2
    go_wp2_with fail
    go_quiet (fail)
    go_wp2_with fail
    go_quiet (fail)
    go_wp2_with fail
    go_quiet ((go_at_call 146; first | exact Calls.quiet_of_same (CR.out _) | exact quiet_add_same (CR.out _)))
    go_wp2_with fail
    go_ret
    first | exact ⟨rfl, below_drewN (below_drewN (below_drewN HB.out _) _) _⟩ | exact ⟨rfl, below_drewN (below_drewN HB.out _) _⟩ | exact ⟨rfl, below_drewN HB.out _⟩
   have t1 : (P1.toList == Q1.toList) = false := by rw [beq_eq_false_iff_ne, x1, y1]; exact hn1
   have hz1 := g1 hn1
   rw [hz1] at cr1
   have CR := Lib.hid cr1
   have HBK := Lib.hid hb
   clear hm hb g1 g2 g3 hp hq hj1 hj2 cr1 cr2 x1 x2 y1 y2 hP1 hP2 hQ1 hQ2 hn1 hz1
   go_wp2_with fail
   go_quiet (fail)
   go_wp2_with fail
   go_quiet ((go_at_call 146; first | exact Calls.quiet_of_same (CR.out _) | exact quiet_add_same (CR.out _)))
   go_wp2_with fail
   go_ret
   first | exact ⟨rfl, below_drewN (below_drewN (below_drewN HB.out _) _) _⟩ | exact ⟨rfl, below_drewN (below_drewN HB.out _) _⟩ | exact ⟨rfl, below_drewN HB.out _⟩
  have he := cmpPs_end2 hm (by rw [HN.out]; omega) (by rw [HN2.out]; omega) (by rw [HN.out, HN2.out]; omega)
  rw [HN.out, HN2.out, if_neg (by omega), if_neg (by omega)] at he
  clear hm hb
  go_wp2_with fail
  refine (refSign_any _ _).mono ?_
  rintro e w1 ⟨rfl, rfl⟩
  go_wp2_with fail
  go_ret
  exact ⟨by first | rfl | (rw [he]; rfl), HB.out⟩
 obtain rfl : k = n := by omega
 have he := cmpPs_end2 hm (by rw [HN.out]; omega) (by rw [HN2.out]; omega) (by rw [HN.out, HN2.out]; omega)
 rw [HN.out, HN2.out] at he
 clear hm hb
 by_cases h2 : k = n2
 ·
  subst h2
  rw [if_pos rfl] at he
  have HE := Lib.hid he
  clear he
  go_wp2_with fail
  go_ret
  exact ⟨by rw [HE.out]; rfl, HB.out⟩
 rw [if_neg h2, if_pos (by omega)] at he
 have HE := Lib.hid he
 have h2i : ¬ (k : Int) = (n2 : Int) := by omega
 have h3i : (k : Int) < (n2 : Int) := by omega
 clear he h2
 go_wp2_with fail
 refine (refSign_any _ _).mono ?_
 rintro e w1 ⟨rfl, rfl⟩
 go_wp2_with fail
 go_ret
 exact ⟨by rw [HE.out]; rfl, HB.out⟩
theorem refCmpR_any (x y : Ex) (v1 v2 : Value) {w : World} (hv : Rows 2 EPair w v1 x.ps) (hm : Rows 2 EPair w v2 y.ps) (hl : x.ps.length ≤ maxLen) (hl2 : y.ps.length ≤ maxLen) :
 Calls Tryz.prog 124 #[.agg #[.string ⟨x.name.toArray⟩, .int .i64 x.b, .int .i64 x.e, v1], .agg #[.string ⟨y.name.toArray⟩, .int .i64 y.b, .int .i64 y.e, v2]] w fun e w' => e = .returned (.int .i64 (cmpR x y)) ∧ Below w.heap.size w w' := by
 by_cases h : x.b = y.b ∧ x.e = y.e ∧ x.name = y.name
 ·
  obtain ⟨h1, h2, h3⟩ := h
  have hr : cmpR x y = cmpPs x.ps y.ps := by
   unfold cmpR
   have h4 : cmpI y.b y.b = 0 := by simp [cmpI]
   have h5 : cmpI y.e y.e = 0 := by simp [cmpI]
   rw [h1, h2, h3, h4, h5, cb_self]
   rfl
  rw [hr, h1, h2, h3]
  exact refCmpR_keys _ _ _ v1 v2 hv hm hl hl2
 obtain ⟨A, c, h1, -⟩ := hv.form
 obtain ⟨A2, c2, h2, -⟩ := hm.form
 exact refCmpR_early x y v1 v2 w ⟨A, _, c, h1⟩ ⟨A2, _, c2, h2⟩ h
end Go.Proofs.YtebmfkkkhmjkoaaGreat
