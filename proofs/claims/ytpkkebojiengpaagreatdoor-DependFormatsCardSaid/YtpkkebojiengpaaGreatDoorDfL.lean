/-
  ARGUMENTS of the laws about Format, opened: lists of strings; what the listed variables hold: the error, the table of powers of ten.
-/
import Derived.Test.YtpkkebojiengpaaGreatDoorDcL
import Derived.Test.YtpkkebojiengpaaGreatDoorDfF
import Derived.SliceStrings
import Derived.Lib.LaidTab
namespace Go.Proofs.YtpkkebojiengpaaGreatDoor
open Go.RowKit Go.Shelf Go.Lib Go.ChangeShapes Go.WideShapes Go.ChangeAt

/-- What the rows list and the walks want. -/
structure LaidAt (w : World) : Prop where
  err : ErrAt w
  tab : TabAt w
theorem LaidAt.below {w w' : World} (h : LaidAt w) (hb : Below w.heap.size w w') : LaidAt w' := ⟨ErrAt.same h.err (hb.block _ h.err.lt), tab_below h.tab hb⟩
theorem Tryz.datPow : (Rows.laid_internal_strconv_uint64pow10 : DataW Unit) = Lib.tabData .u64 Lib.pow10Tab := by rfl
set_option maxRecDepth 100000 in
theorem laid_of_laid {W : World} (h0 : laidMetH Tryz.prog laidAll W) : LaidAt W := by
  refine ⟨err_of_laid h0, ?_⟩
  have h := h0
  rw [MakeChecks.laidMetH_plain _ _ _ (by kernel_rfl)] at h
  have hr := laidMet.tail (laidMet.tail h)
  rw [Tryz.datPow] at hr
  exact Lib.tabIs_of_head Tryz.gPow (t := 97) (by kernel_rfl) Tryz.underlying97 Tryz.underlying85 (by kernel_rfl) (by kernel_rfl) hr

section
variable {H : Type} {enc : TypeId × Value → H}
set_option maxRecDepth 100000 in
theorem open_rowS {W : World} {r : Reach} {b0 : Nat} {v : Value} {d : DataW H} {p : List MemPlace} (hv : Value.okWide Tryz.prog W r b0 23 v) (h : DataW.Trod enc Tryz.prog W 0 (fun _ => true) true 23 v d p) :
    ∃ l : Fs, Rows 1 EStr W v l ∧ l.length ≤ maxLen ∧ ∀ f ∈ l, f.length ≤ maxLen := by
  obtain ⟨a, len, cap, rfl⟩ := okWide_slice Tryz.underlying23 hv
  obtain ⟨fuel, hf⟩ := h
  rcases open_strings Tryz.underlying23 Tryz.underlying9 (by kernel_rfl) hf with ⟨hn, _⟩ | ⟨ad, len', cap', ss, hcs, _, hl, hm, hzl, _, hcell, hwf⟩
  · simp only [Value.cells, List.cons.injEq, and_true] at hn
    rw [hn]
    exact ⟨[], Rows.nil W, Nat.zero_le _, by simp⟩
  · simp only [Value.cells, List.cons.injEq, and_true] at hcs
    simp only [if_true] at hzl
    rw [hcs]
    have hlen : ((ss.take len').map fun s : ByteArray => s.data.toList).length = len' := by
      rw [List.length_map, List.length_take]
      omega
    refine ⟨(ss.take len').map fun s : ByteArray => s.data.toList, ⟨some ad, cap', by rw [hlen], by rw [hlen]; exact hl, fun h => ?_⟩, by rw [hlen]; omega, fun f hf => ?_⟩
    · rw [hlen] at h
      have h0 := hcell 0 (by omega)
      have h1 : ad.add 0 = ad := by simp [Addr.add]
      rw [h1] at h0
      have e := plain_addr h0
      refine ⟨ad.block, ad.off, by rw [← e], lt_of_cell h0, fun j x hx => ⟨[.string ⟨x.toArray⟩], rfl, rfl, fun i u hu => ?_⟩⟩
      have hjl := (List.getElem?_eq_some_iff.1 hx).1
      rw [hlen] at hjl
      have hc := hcell j (by omega)
      rw [List.getElem?_map, List.getElem?_take, if_pos hjl, List.getElem?_eq_getElem (by omega)] at hx
      simp only [Option.map_some, Option.some.injEq] at hx
      obtain ⟨rfl, rfl⟩ : i = 0 ∧ u = .string ⟨x.toArray⟩ := by
        cases i with
        | zero => exact ⟨rfl, by simpa using hu.symm⟩
        | succ i => simp at hu
      rw [← hx, Lib.mk_data]
      rw [List.getD_eq_getElem?_getD, List.getElem?_eq_getElem (by omega), e] at hc
      have hp : (⟨ad.block, ad.off, none⟩ : Addr).add j = ⟨ad.block, ad.off + j * 1 + 0, none⟩ := by
        rcases Nat.eq_zero_or_pos j with rfl | hj0
        · simp [Addr.add]
        · simp [Addr.add]; omega
      rw [hp] at hc
      exact hc
    · obtain ⟨s, hs, rfl⟩ := List.mem_map.1 hf
      have := hwf s (List.mem_of_mem_take hs)
      rw [← Lib.size_eq]
      exact this
end
end Go.Proofs.YtpkkebojiengpaaGreatDoor
