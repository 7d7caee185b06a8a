/-
  WALKS over the library: strings.Lines, its iterator as a loop meets it; strings.TrimLeft at the digits.
-/
import Derived.Test.YtpkkebojiengpaaGreatDoorDbB
import Derived.Deep.LoopGhost
import Derived.Laws.Tables
namespace Go.Proofs.YtpkkebojiengpaaGreatDoor
open Go Go.RowKit Go.Shelf Go.Lib
set_option linter.unusedVariables false

theorem lines_fn (s : ByteArray) (w : World) :
    Calls Tryz.prog 46 #[.string s] w fun e w' => e = .returned (.func (.func 55) #[] #[.pointer (some ⟨w.heap.size, 0, none⟩)]) ∧ w' = w.alloc (.cells #[.string s] 9) := by
  go_enter Tryz.func46, Tryz.ntmps46
  go_wp2
  go_ret
  exact ⟨rfl, rfl⟩
theorem lines_seq (n : Nat) (hn : 1 ≤ n) (Bn : Nat) (s : Bs) (hs : s.length ≤ 4000000) (w : World) (hBn : w.heap[Bn]? = some (.cells #[.string ⟨s.toArray⟩] 9 (0, 0))) :
    SeqV n 55 #[.pointer (some ⟨Bn, 0, none⟩)] lineV (fun ys => ys = linesL s) (fun pre => pre <+: linesL s) (fun pre x => pre ++ [x] <+: linesL s) (linesL s).length Bn w :=
  fun l J Jx W hW hJ _ hY h0 => lines_in n hn l Bn s hs J Jx hJ hY W (hW.trans hBn) h0

def digs : ByteArray := ⟨#[48, 49, 50, 51, 52, 53, 54, 55, 56, 57]⟩
theorem digs_contains : ∀ b : UInt8, digs.data.toList.contains b = digB b := by
  intro b
  have h : ∀ n : Fin 256, digs.data.toList.contains (UInt8.ofNat n.val) = digB (UInt8.ofNat n.val) := by decide +kernel
  have := h ⟨b.toNat, b.toNat_lt⟩
  simpa using this

set_option maxRecDepth 100000 in
set_option maxHeartbeats 2000000 in
theorem trimASCII_any (s : ByteArray) (hs : s.size ≤ maxLen) (B : Nat) (w : World) (hB : w.heap[B]? = some (.cells (Lib.setCells digs.data.toList) 104 (0, 0))) :
    Calls Tryz.prog 73 #[.string s, .pointer (some ⟨B, 0, none⟩)] w fun e w' => e = .returned (.string ⟨(s.data.toList.dropWhile digB).toArray⟩) ∧ w' = w := by
  obtain ⟨L, hL⟩ : ∃ L, s.data.toList.dropWhile digB = L := ⟨_, rfl⟩
  rw [hL]
  have HL := Lib.hid hL
  have HB := Lib.hid hB
  clear hL hB
  unfold maxLen at hs
  go_enter Tryz.func73, Tryz.ntmps73
  go_wp2_with fail
  obtain ⟨wo, rfl⟩ : ∃ wo, wo = w := ⟨_, rfl⟩
  go_loopg [0] s.size (fun gg sv wr => ∃ R : ByteArray, sv = .string R ∧ R.size ≤ gg ∧ R.size ≤ s.size ∧ Hid (R.data.toList.dropWhile digB = L) ∧ wr = wo)
  case atStart => exact ⟨s, rfl, Nat.le_refl _, Nat.le_refl _, HL, rfl⟩
  case round =>
    obtain ⟨R, rfl, hgg, hRs, HR, rfl⟩ := hrel
    by_cases h0 : R.size = 0
    · have hfin : R = ⟨L.toArray⟩ := by
        have hnil : R.data.toList = [] := List.length_eq_zero_iff.1 (by rw [← Lib.size_eq]; exact h0)
        have h1 := HR.out
        rw [hnil] at h1
        rw [← h1]
        have : R = ⟨R.data.toList.toArray⟩ := by cases R; simp
        rw [this, hnil]
        rfl
      have HF := Lib.hid hfin
      clear hfin hgg hRs
      go_wp2_with fail
      go_ret
      exact ⟨by rw [HF.out]; rfl, rfl⟩
    · have hz : (0 : Int) < (R.size : Int) := by omega
      obtain ⟨b, T, hbT⟩ : ∃ b T, R.data.toList = b :: T := by
        cases h : R.data.toList with
        | nil => exact absurd (by rw [Lib.size_eq, h]; rfl) h0
        | cons b T => exact ⟨b, T, rfl⟩
      have hcell : wr.cell? ⟨B, b.toNat, none⟩ = some (.bool (digB b)) := by
        rw [cell_of HB.out (Lib.setCells_at digs.data.toList b), digs_contains]
      have HC := Lib.hid (Tryz.asciiSet_contains B b (digB b) wr hcell)
      have hix : ∀ W, (Instr.index 9 (.string R) (.int .i64 0)).run Tryz.prog W = .ok (.int .u8 b.toNat) W := fun W => by
        have hg : R.data[0]? = some b := by
          rw [← Array.getElem?_toList, hbT]; rfl
        obtain ⟨h1, h2⟩ := Array.getElem?_eq_some_iff.1 hg
        have := run_index_string (P := Tryz.prog) W 9 R .i64 (0 : Int) Tryz.underlying9
        rw [this, dif_pos ⟨by omega, by omega⟩]
        have h3 : R[0] = b := h2
        simp [h3]
      have HT := Lib.hid hbT
      cases hd : digB b with
      | true =>
        rw [hd] at HC
        have hnx : (R.extract 1 R.size).data.toList.dropWhile digB = L := by
          rw [extract_from]
          show (R.data.toList.drop 1).dropWhile digB = L
          rw [hbT]
          have := HR.out
          rw [hbT, List.dropWhile_cons, if_pos hd] at this
          exact this
        obtain ⟨R2, hR2⟩ : ∃ R2, R.extract 1 R.size = R2 := ⟨_, rfl⟩
        have hs2 : R2.size + 1 = R.size := by rw [← hR2, ByteArray.size_extract]; omega
        rw [hR2] at hnx
        have HNX := Lib.hid hnx
        have HS2 := Lib.hid hs2
        clear hnx hs2 hd hbT h0 hcell
        have hp1 : (1 : Int) ≤ (R.size : Int) := by omega
        go_wp2_with fail
        refine HC.out.mono ?_
        rintro e w' ⟨rfl, rfl⟩
        go_wp2_with fail
        go_roundg R2.size
        case measure => have := HS2.out; omega
        case rel => exact ⟨R2, rfl, Nat.le_refl _, by have := HS2.out; omega, HNX, rfl⟩
      | false =>
        rw [hd] at HC
        have hfin : R = ⟨L.toArray⟩ := by
          have h1 := HR.out
          rw [hbT, List.dropWhile_cons, if_neg (by rw [hd]; decide), ← hbT] at h1
          rw [← h1]
        have HF := Lib.hid hfin
        clear hfin hd hbT h0 hcell
        go_wp2_with fail
        refine HC.out.mono ?_
        rintro e w' ⟨rfl, rfl⟩
        go_wp2_with fail
        go_ret
        exact ⟨by rw [HF.out]; rfl, rfl⟩

theorem digs_ascii : ∀ (j : Nat) b, digs.data.toList[j]? = some b → b.toNat < 128 := by
  intro j b h
  have hm := List.mem_of_getElem? h
  have : ∀ b ∈ digs.data.toList, b.toNat < 128 := by decide
  exact this b hm
set_option maxRecDepth 100000 in
set_option maxHeartbeats 2000000 in
theorem trimLeft_any (s : ByteArray) (hs : s.size ≤ maxLen) (w : World) :
    Calls Tryz.prog 57 #[.string s, .string digs] w fun e w' => e = .returned (.string ⟨(s.data.toList.dropWhile digB).toArray⟩) ∧ Below w.heap.size w w' := by
  by_cases h0 : s.size = 0
  · have hnil : s.data.toList = [] := List.length_eq_zero_iff.1 (by rw [← Lib.size_eq]; exact h0)
    have hse : s = ⟨#[]⟩ := by
      have : s = ⟨s.data.toList.toArray⟩ := by cases s; simp
      rw [this, hnil]
    subst hse
    show Calls Tryz.prog 57 #[.string ⟨#[]⟩, .string digs] w fun e w' => e = .returned (.string ⟨#[]⟩) ∧ Below w.heap.size w w'
    clear h0 hnil hs
    go_enter Tryz.func57, Tryz.ntmps57
    go_wp2_with fail
    go_ret
    exact ⟨rfl, Below.refl _ _⟩
  · have hset := Tryz.strings_makeASCIISet (fun w => by kernel_rfl) digs w (by decide) digs_ascii
    have HSET := Lib.hid hset
    have hl : s.data.toList.length ≤ 9223372036854775807 := by rw [← Lib.size_eq]; unfold maxLen at hs; omega
    obtain ⟨C, hC⟩ : ∃ C, Lib.setCells digs.data.toList = C := ⟨_, rfl⟩
    have htr := fun (B : Nat) (W : World) (hB : W.heap[B]? = some (.cells C 104 (0, 0))) => trimASCII_any s hs B W (by rw [hC]; exact hB)
    rw [hC] at hset
    have HC := Lib.hid hC
    obtain ⟨T, hT⟩ : ∃ T, (⟨(s.data.toList.dropWhile digB).toArray⟩ : ByteArray) = T := ⟨_, rfl⟩
    rw [hT] at htr ⊢
    have HTR := Lib.hid htr
    replace HSET := Lib.hid hset
    have he1 : s.toList.isEmpty = false := by
      rw [Lib.toList_data, Bool.eq_false_iff]
      intro e
      have h2 := congrArg List.length (List.isEmpty_iff.1 e)
      rw [← Lib.size_eq] at h2
      exact h0 h2
    have he2 : digs.toList.isEmpty = false := by rw [Lib.toList_data]; rfl
    have hds : digs.size = 10 := rfl
    clear h0 hl hC htr hset hT hs
    go_enter Tryz.func57, Tryz.ntmps57
    go_wp2_with fail
    refine HSET.out.mono ?_
    rintro e w1 ⟨rfl, rfl⟩
    obtain ⟨W1, hW1⟩ : ∃ W1, w.alloc (.cells C 104) = W1 := ⟨_, rfl⟩
    have hb1 : Below w.heap.size w W1 := by rw [← hW1]; exact below_box w _
    have hsz1 : W1.heap.size = w.heap.size + 1 := by rw [← hW1]; exact alloc_sz w _
    rw [hW1]
    have HB1 := Lib.hid hb1
    have hnew := block_new W1 (.cells Tryz.zeroCells104 104)
    have hrow := setRow_heap _ W1.heap.size _ C _ _ hnew
    have hbr := below_setRow (hb1.alloc hb1.size (.cells Tryz.zeroCells104 104)) (g := W1.heap.size) hb1.size C
    have hc256 : C.size = 256 := by rw [← HC.out]; exact Lib.setCells_size _
    have hone : C.all (·.oneCell') = true := by rw [← HC.out]; exact Lib.setCells_one _
    have HNEW := Lib.hid hnew
    have HROW := Lib.hid hrow
    have HBR := Lib.hid hbr
    have HCS := Lib.hid (And.intro hc256 hone)
    clear hb1 hW1 hnew hrow hbr hc256 hone hsz1
    go_wp2_with (first
      | refine wpList_store_row rfl 104 (.tmp 5) (.tmp 29) rfl W1.heap.size C rfl rfl 104 _ HNEW.out (by rw [HCS.out.1]; kernel_rfl) (by rw [HCS.out.1]; kernel_rfl) HCS.out.2 ?_)
    refine (HTR.out _ _ HROW.out).mono ?_
    rintro e w2 ⟨rfl, rfl⟩
    go_wp2_with fail
    go_ret
    exact ⟨rfl, HBR.out⟩
end Go.Proofs.YtpkkebojiengpaaGreatDoor
