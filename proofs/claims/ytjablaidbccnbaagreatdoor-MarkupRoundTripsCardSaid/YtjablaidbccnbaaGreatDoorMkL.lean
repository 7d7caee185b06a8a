/-
  ARGUMENTS of the laws about markup, opened: strings; what the listed variables hold.
-/
import Derived.Test.YtjablaidbccnbaaGreatDoorRows
import Derived.Test.YtjablaidbccnbaaGreatDoorMkQ
import Derived.Lib.LaidU8
import Derived.MakeChecks
import Derived.LaidMore
import Derived.Stop.LaidErr
import Derived.ChangeMaps5
import Derived.ProofKit
import Derived.OpenShut
import Derived.ShutString
import Derived.Stop.ErrReads
import Derived.Lay
namespace Go.Proofs.YtjablaidbccnbaaGreatDoor
open Go.RowKit Go.Shelf Go.Lib Go.ChangeShapes Go.WideShapes Go.ChangeAt

theorem Tryz.laidOut : laidOutB Tryz.prog = true := by kernel_rfl
/-- What the rows list. -/
abbrev laidAll : List (String × DataW Unit) := [("math/bits.deBruijn32tab", Rows.laid_math_bits_deBruijn32tab), ("math/bits.deBruijn64tab", Rows.laid_math_bits_deBruijn64tab), ("internal/strconv.uint64pow10", Rows.laid_internal_strconv_uint64pow10), ("unicode/utf8.acceptRanges", Rows.laid_unicode_utf8_acceptRanges), ("strconv.ErrRange", Rows.laid_strconv_ErrRange), ("strconv.ErrSyntax", Rows.laid_strconv_ErrSyntax), ("corpora/markup.named", Rows.laid_corpora_markup_named), ("unicode/utf8.first", Rows.laid_unicode_utf8_first)]
theorem Tryz.gNamed : Tryz.prog.globalNamed "corpora/markup.named" = some 0 := by kernel_rfl
theorem lt_of_var {W : World} {n : String} {g : Nat} {cs : Array Value} (hg : Tryz.prog.globalNamed n = some g) (h : W.var? Tryz.prog n = some cs) : ∃ t f, W.heap[g]? = some (.cells cs t f) := by
  unfold World.var? at h
  rw [hg] at h
  simp only [Option.bind_some] at h
  split at h
  · rename_i hh
    cases h
    exact ⟨_, _, hh⟩
  · cases h
theorem two_strings {P : Program} {W : World} {fuel : Nat} {t s : TypeId} {f0 f1 : Field} {cs : List Value} {x y : Bs} {p : List MemPlace} (ht : P.underlying t = some (.struct #[f0, f1])) (hs : P.underlying s = some .string) (h0 : f0.type = s) (h1 : f1.type = s) (o0 : f0.offset = 0) (o1 : f1.offset = 1) (hc : P.cellsOf s = 1)
    (h : DataW.trod (fun _ => ()) P W 0 (fun _ => true) false fuel t cs = some ((.agg [.lit (.string x), .lit (.string y)] : DataW Unit), p)) : cs[0]? = some (.string ⟨x.toArray⟩) ∧ cs[1]? = some (.string ⟨y.toArray⟩) := by
  obtain ⟨xs, n, rfl, hx, hl, hxl, hall⟩ := DataW.trod_struct ht h
  have a0 := hall 0 f0 rfl
  have a1 := hall 1 f1 rfl
  have hxl2 : xs.length = 2 := hxl
  match xs, hxl2 with
  | [y0, y1], _ =>
    rw [h0, o0, hc] at a0
    rw [h1, o1, hc] at a1
    obtain ⟨s0, e0, z0, _⟩ := DataW.trod_string (x := y0) hs a0
    obtain ⟨s1, e1, z1, _⟩ := DataW.trod_string (x := y1) hs a1
    have hx1 := congrArg Prod.fst hx
    simp only [z0, z1, List.map_cons, List.map_nil, DataW.agg.injEq, List.cons.injEq, DataW.lit.injEq, Lit.string.injEq, and_true] at hx1
    obtain ⟨rfl, rfl⟩ := hx1
    refine ⟨?_, ?_⟩
    · have := congrArg (·[0]?) e0
      simpa [List.getElem?_take, List.getElem?_drop] using this
    · have := congrArg (·[0]?) e1
      simpa [List.getElem?_take, List.getElem?_drop] using this
theorem Tryz.fieldsNamed : ∃ f0 f1, Tryz.prog.underlying 88 = some (.struct #[f0, f1]) ∧ f0.type = 9 ∧ f1.type = 9 ∧ f0.offset = 0 ∧ f1.offset = 1 := ⟨_, _, Tryz.underlying88, rfl, rfl, rfl, rfl⟩
theorem named_of_reads {W : World} (h : VarReads Tryz.prog W "corpora/markup.named" Rows.laid_corpora_markup_named) : Named W := by
  obtain ⟨g, t, cs, fuel, p, hg, ht, hv, hd⟩ := h
  obtain rfl := Option.some.inj (Tryz.gNamed.symm.trans hg)
  have ht' : (Tryz.prog.globals[0]?).map (·.type) = some 89 := by kernel_rfl
  obtain rfl := Option.some.inj (ht'.symm.trans ht)
  have hc2 : Tryz.prog.cellsOf 88 = 2 := by kernel_rfl
  have hc1 : Tryz.prog.cellsOf 9 = 1 := by kernel_rfl
  obtain ⟨f0, f1, hu, t0, t1, o0, o1⟩ := Tryz.fieldsNamed
  obtain ⟨ty, fz, hh⟩ := lt_of_var Tryz.gNamed hv
  have key : ∀ (j : Nat) (x y : Bs), j < 4 → ([([38], [38, 97, 109, 112, 59]), ([60], [38, 108, 116, 59]), ([62], [38, 103, 116, 59]), ([34], [38, 113, 117, 111, 116, 59])] : List (Bs × Bs))[j]? = some (x, y) → cs[j * 2]? = some (.string ⟨x.toArray⟩) ∧ cs[j * 2 + 1]? = some (.string ⟨y.toArray⟩) := by
    intro j x y hj hxy
    obtain ⟨fuel', d, q, hdj, hr⟩ := array_elem Tryz.underlying89 hd j hj
    have hd' : d = .agg [.lit (.string x), .lit (.string y)] := by
      rcases (by omega : j = 0 ∨ j = 1 ∨ j = 2 ∨ j = 3) with rfl | rfl | rfl | rfl <;> (cases hxy; cases hdj; rfl)
    subst hd'
    rw [hc2] at hr
    obtain ⟨e0, e1⟩ := two_strings hu Tryz.underlying9 t0 t1 o0 o1 hc1 hr
    rw [List.getElem?_take, if_pos (by decide), List.getElem?_drop] at e0 e1
    rw [← Array.getElem?_toList, ← Array.getElem?_toList]
    exact ⟨e0, e1⟩
  intro i hi
  have hcell : ∀ v, cs[i]? = some v → W.cell? ⟨0, i, none⟩ = some v := fun v hv => cell_of hh hv
  apply hcell
  rcases (by omega : i = 0 ∨ i = 1 ∨ i = 2 ∨ i = 3 ∨ i = 4 ∨ i = 5 ∨ i = 6 ∨ i = 7) with rfl | rfl | rfl | rfl | rfl | rfl | rfl | rfl
  · exact (key 0 _ _ (by decide) rfl).1
  · exact (key 0 _ _ (by decide) rfl).2
  · exact (key 1 _ _ (by decide) rfl).1
  · exact (key 1 _ _ (by decide) rfl).2
  · exact (key 2 _ _ (by decide) rfl).1
  · exact (key 2 _ _ (by decide) rfl).2
  · exact (key 3 _ _ (by decide) rfl).1
  · exact (key 3 _ _ (by decide) rfl).2
theorem pow_of_laid {W : World} {r : List (String × DataW Unit)} (h : laidMet Tryz.prog (("internal/strconv.uint64pow10", Rows.laid_internal_strconv_uint64pow10) :: r) W) : Lib.TabIs Tryz.prog W "internal/strconv.uint64pow10" .u64 Lib.pow10Tab :=
  Lib.tabIs_of_head (k := .u64) (zs := Lib.pow10Tab) Tryz.gPow (t := 177) (by kernel_rfl) Tryz.underlying177 Tryz.underlying110 (by kernel_rfl) (by kernel_rfl) h
theorem Tryz.star : "*" ++ "errors.errorString" = "*errors.errorString" := by decide
theorem Tryz.rowErr (u : TypeId) (h : Tryz.prog.typeName? 3 u = some "*errors.errorString") : u = 179 :=
  typeName_ptr_named (nm := "errors.errorString") (by rw [Tryz.star]; kernel_rfl) (by kernel_rfl) (by decide) u (by rw [Tryz.star]; exact h)
set_option maxRecDepth 100000 in
theorem mem_of_laid {W : World} (h : laidMetH Tryz.prog laidAll W) : Mem W := by
  rw [MakeChecks.laidMetH_plain _ _ _ (by kernel_rfl)] at h
  have hn := named_of_reads (Lib.laidMet.reads h (by simp [laidAll]))
  have hp := pow_of_laid (laidMet.tail (laidMet.tail h))
  have hr := laidMet.tail (laidMet.tail (laidMet.tail (laidMet.tail h)))
  have hrow := Tryz.rowErr
  obtain ⟨a, s, hR, _⟩ := laid_sentinel hr Tryz.gRng (ti := 62) (by kernel_rfl) (Tryz.underlying62) hrow Tryz.underlying179 Tryz.underlying181 rfl rfl Tryz.underlying9 (by kernel_rfl) (by kernel_rfl)
  obtain ⟨a', s', hS, _⟩ := laid_sentinel (laidMet.tail hr) Tryz.gSyn (ti := 62) (by kernel_rfl) (Tryz.underlying62) hrow Tryz.underlying179 Tryz.underlying181 rfl rfl Tryz.underlying9 (by kernel_rfl) (by kernel_rfl)
  obtain ⟨t1, f1, l1⟩ := lt_of_var Tryz.gSyn hS
  obtain ⟨t2, f2, l2⟩ := lt_of_var Tryz.gRng hR
  obtain ⟨t3, f3, l3⟩ := lt_of_var Tryz.gPow hp
  exact ⟨hn, ⟨_, _, hS⟩, ⟨_, _, hR⟩, hp, (Array.getElem?_eq_some_iff.1 l1).1, (Array.getElem?_eq_some_iff.1 l2).1, (Array.getElem?_eq_some_iff.1 l3).1⟩

set_option maxRecDepth 100000 in
theorem all_met (os : Os) (args : Array Value) : laidMetH Tryz.prog laidAll ((World.laidAll Tryz.prog os laidAll).forCall (fun _ _ => 0) ⟨#[], args, []⟩).memory := by
  rw [MakeChecks.laidMetH_plain _ _ _ (by kernel_rfl)]
  exact laidMet_laidAll _ (by kernel_rfl) (by kernel_rfl)
set_option maxRecDepth 100000 in
theorem all_shaped (os : Os) : (World.laidAll Tryz.prog os laidAll).Shaped Tryz.prog := World.shaped_of_ZipB (by kernel_rfl) (by kernel_rfl)

section
variable {H : Type} {enc : TypeId × Value → H}
set_option maxRecDepth 100000 in
theorem open_str {W : World} {r : Reach} {b0 : Nat} {v : Value} {d : DataW H} {p : List MemPlace} (hv : Value.okWide Tryz.prog W r b0 9 v) (h : DataW.Trod enc Tryz.prog W 0 (fun _ => true) true 9 v d p) :
    ∃ s : ByteArray, v = .string s ∧ s.size ≤ maxLen := by
  obtain ⟨s, rfl, _, _, hs⟩ := ChangeMaps.open_string Tryz.underlying9 hv h
  exact ⟨s, rfl, hs⟩
end
end Go.Proofs.YtjablaidbccnbaaGreatDoor
