/-
  WALKS over package corpus: FindText, TextAt.
-/
import Derived.Test.YtglafkonpbcegaaGreatQcA
namespace Go.Proofs.YtglafkonpbcegaaGreat
open Go.RowKit Go.Shelf Go.Lib

theorem str_eq (a c : Bs) : ((⟨a.toArray⟩ : ByteArray).toList == (⟨c.toArray⟩ : ByteArray).toList) = decide (a = c) := by
  rw [Lib.toList_data, Lib.toList_data, Bool.eq_iff_iff]
  simp
theorem below_alloc {w w' : World} (o : Obj) (h : Below (w.alloc o).heap.size (w.alloc o) w') : Below w.heap.size w w' :=
  ((Below.refl _ w).alloc (Nat.le_refl _) o).trans (h.mono (by simp))
theorem alloc_sz (w : World) (o : Obj) : (w.alloc o).heap.size = w.heap.size + 1 := by simp
theorem below_box (w : World) (o : Obj) : Below w.heap.size w (w.alloc o) := (Below.refl _ w).alloc (Nat.le_refl _) o

set_option maxHeartbeats 1000000 in
theorem findText1_any (x : Ex) (mv : Value) (n : Bs) (B : Nat) (W : World) (hB : W.heap[B]? = some (.cells #[.string ⟨n.toArray⟩] 9 (0, 0))) :
    Calls Tryz.prog 71 (#[.agg #[.string ⟨x.name.toArray⟩, .int .i64 x.b, .int .i64 x.e, mv]] ++ #[.pointer (some ⟨B, 0, none⟩)]) W fun e w' => e = .returned (.bool (decide (x.name = n))) ∧ Below W.heap.size W w' := by
  have c0 := cell_of hB (i := 0) (v := .string ⟨n.toArray⟩) rfl
  have c1 : (W.alloc (.cells #[.string ⟨x.name.toArray⟩, .int .i64 x.b, .int .i64 x.e, mv] 73)).cell? ⟨B, 0, none⟩ = some (.string ⟨n.toArray⟩) := cell_of (block_alloc _ hB) rfl
  have he := str_eq x.name n
  obtain ⟨sa, has⟩ : ∃ s : ByteArray, (⟨x.name.toArray⟩ : ByteArray) = s := ⟨_, rfl⟩
  obtain ⟨sn, hns⟩ : ∃ s : ByteArray, (⟨n.toArray⟩ : ByteArray) = s := ⟨_, rfl⟩
  obtain ⟨xb, hxb⟩ : ∃ s : Int, x.b = s := ⟨_, rfl⟩
  obtain ⟨xe, hxe⟩ : ∃ s : Int, x.e = s := ⟨_, rfl⟩
  rw [has, hns, hxb, hxe] at c1
  rw [has, hns] at he
  rw [hns] at c0
  rw [has, hxb, hxe, ← he]
  obtain ⟨q, hq⟩ : ∃ q, (sa.toList == sn.toList) = q := ⟨_, rfl⟩
  rw [hq]
  clear he has hns hB hxb hxe
  go_enter Tryz.func71, Tryz.ntmps71
  go_wp2_with fail
  go_ret
  exact ⟨by rw [← hq]; rfl, below_box W _⟩

set_option maxHeartbeats 1000000 in
theorem textAt1_any (x : Ex) (mv : Value) (pos : Int) (B : Nat) (W : World) (hB : W.heap[B]? = some (.cells #[.int .i64 pos] 3 (0, 0))) :
    Calls Tryz.prog 72 (#[.agg #[.string ⟨x.name.toArray⟩, .int .i64 x.b, .int .i64 x.e, mv]] ++ #[.pointer (some ⟨B, 0, none⟩)]) W fun e w' => e = .returned (.bool (decide (x.b ≤ pos) && decide (pos < x.e))) ∧ Below W.heap.size W w' := by
  have c0 := cell_of hB (i := 0) (v := .int .i64 pos) rfl
  have c1 : (W.alloc (.cells #[.string ⟨x.name.toArray⟩, .int .i64 x.b, .int .i64 x.e, mv] 73)).cell? ⟨B, 0, none⟩ = some (.int .i64 pos) := cell_of (block_alloc _ hB) rfl
  obtain ⟨sa, has⟩ : ∃ s : ByteArray, (⟨x.name.toArray⟩ : ByteArray) = s := ⟨_, rfl⟩
  obtain ⟨xb, hxb⟩ : ∃ s : Int, x.b = s := ⟨_, rfl⟩
  obtain ⟨xe, hxe⟩ : ∃ s : Int, x.e = s := ⟨_, rfl⟩
  rw [has, hxb, hxe] at c1
  rw [has, hxb, hxe]
  clear has hB hxb hxe
  by_cases h1 : xb ≤ pos
  · go_enter Tryz.func72, Tryz.ntmps72
    go_wp2_with fail
    go_ret
    exact ⟨by simp [h1], below_box W _⟩
  · have hf : decide (xb ≤ pos) = false := by simp; omega
    rw [hf]
    go_enter Tryz.func72, Tryz.ntmps72
    go_wp2_with fail
    go_ret
    exact ⟨by first | rfl | simp, below_box W _⟩

set_option maxRecDepth 100000 in
set_option maxHeartbeats 1000000 in
theorem findText_any {w : World} (s : Sv) {l : List Ex} (hx : Rows 4 EEx w s.vx l) (hl : l.length ≤ maxLen) (n : Bs) :
    Calls Tryz.prog 28 #[.agg s.arr, .string ⟨n.toArray⟩] w fun e w' => e = .returned (.int .i64 (findZ (fun t => decide (t.name = n)) l)) ∧ Below w.heap.size w w' := by
  have hW : ∀ w1 w2 : World, w1 = w.alloc (.cells s.arr 30) → w2 = w1.alloc (.cells #[.string ⟨n.toArray⟩] 9) → Calls Tryz.prog 70 #[s.vx, .func (.func 71) #[] #[.pointer (some ⟨w1.heap.size, 0, none⟩)]] w2 fun e w' => e = .returned (.int .i64 (findZ (fun t => decide (t.name = n)) l)) ∧ Below w.heap.size w w' := by
    rintro w1 w2 h1 rfl
    have hb : Below w.heap.size w w1 := by rw [h1]; exact below_box w _
    have hb2 : Below w1.heap.size w1 (w1.alloc (.cells #[.string ⟨n.toArray⟩] 9)) := below_box w1 _
    have hb3 := hb.trans (hb2.mono hb.size)
    refine (indexFunc_text stays_ex (hx.below stays_ex hb3) hl _ _ (enters_of Tryz.func71 (by kernel_rfl) rfl) (fun t => decide (t.name = n)) ?_).mono fun e w' h => ⟨h.1, hb3.trans (h.2.mono hb3.size)⟩
    intro W x u0 u1 u2 u3 hW _ hE
    obtain ⟨mv, he, _⟩ := hE
    simp only [List.cons.injEq, and_true] at he
    obtain ⟨rfl, rfl, rfl, rfl⟩ := he
    exact findText1_any x u3 n w1.heap.size W (block_below (block_new w1 _) hW (by simp))
  have HW := Lib.hid (hW _ _ rfl rfl)
  obtain ⟨z, hz⟩ : ∃ z, findZ (fun t : Ex => decide (t.name = n)) l = z := ⟨_, rfl⟩
  rw [hz] at HW ⊢
  obtain ⟨F, hF⟩ : ∃ s : ByteArray, (⟨n.toArray⟩ : ByteArray) = s := ⟨_, rfl⟩
  rw [hF] at HW ⊢
  unfold Sv.arr at HW ⊢
  obtain ⟨va, vt, vx, vr, vn, vh, vl⟩ := s
  simp only at HW ⊢
  rw [alloc_sz] at HW
  clear hz hF hx hl hW
  go_enter Tryz.func28, Tryz.ntmps28
  go_wp2_with fail
  refine HW.out.mono ?_
  rintro e w' ⟨rfl, hb'⟩
  have HB := Lib.hid hb'
  clear hb'
  go_wp2_with fail
  go_ret
  exact ⟨rfl, HB.out⟩

set_option maxRecDepth 100000 in
set_option maxHeartbeats 1000000 in
theorem textAt_any {w : World} (s : Sv) {l : List Ex} (hx : Rows 4 EEx w s.vx l) (hl : l.length ≤ maxLen) (pos : Int) :
    Calls Tryz.prog 30 #[.agg s.arr, .int .i64 pos] w fun e w' => e = .returned (.int .i64 (findZ (fun t => decide (t.b ≤ pos) && decide (pos < t.e)) l)) ∧ Below w.heap.size w w' := by
  have hW : ∀ w1 w2 : World, w1 = w.alloc (.cells s.arr 30) → w2 = w1.alloc (.cells #[.int .i64 pos] 3) → Calls Tryz.prog 70 #[s.vx, .func (.func 72) #[] #[.pointer (some ⟨w1.heap.size, 0, none⟩)]] w2 fun e w' => e = .returned (.int .i64 (findZ (fun t => decide (t.b ≤ pos) && decide (pos < t.e)) l)) ∧ Below w.heap.size w w' := by
    rintro w1 w2 h1 rfl
    have hb : Below w.heap.size w w1 := by rw [h1]; exact below_box w _
    have hb2 : Below w1.heap.size w1 (w1.alloc (.cells #[.int .i64 pos] 3)) := below_box w1 _
    have hb3 := hb.trans (hb2.mono hb.size)
    refine (indexFunc_text stays_ex (hx.below stays_ex hb3) hl _ _ (enters_of Tryz.func72 (by kernel_rfl) rfl) (fun t => decide (t.b ≤ pos) && decide (pos < t.e)) ?_).mono fun e w' h => ⟨h.1, hb3.trans (h.2.mono hb3.size)⟩
    intro W x u0 u1 u2 u3 hW _ hE
    obtain ⟨mv, he, _⟩ := hE
    simp only [List.cons.injEq, and_true] at he
    obtain ⟨rfl, rfl, rfl, rfl⟩ := he
    exact textAt1_any x u3 pos w1.heap.size W (block_below (block_new w1 _) hW (by simp))
  have HW := Lib.hid (hW _ _ rfl rfl)
  obtain ⟨z, hz⟩ : ∃ z, findZ (fun t : Ex => decide (t.b ≤ pos) && decide (pos < t.e)) l = z := ⟨_, rfl⟩
  rw [hz] at HW ⊢
  unfold Sv.arr at HW ⊢
  obtain ⟨va, vt, vx, vr, vn, vh, vl⟩ := s
  simp only at HW ⊢
  rw [alloc_sz] at HW
  clear hz hx hl hW
  go_enter Tryz.func30, Tryz.ntmps30
  go_wp2_with fail
  refine HW.out.mono ?_
  rintro e w' ⟨rfl, hb'⟩
  have HB := Lib.hid hb'
  clear hb'
  go_wp2_with fail
  go_ret
  exact ⟨rfl, HB.out⟩
end Go.Proofs.YtglafkonpbcegaaGreat
