/-
 ARGUMENTS, for any chapter, opened: byte strings, numbers.
 ARGUMENTS of the laws about corpora, opened: rows of elements that are read, with their bulk; regions, corpora.
 ARGUMENTS of the laws about corpora, opened: a region.
-/
import Derived.Test.YtebmfkkkhmjkoaaGreatMeA
import Derived.Carry
import Derived.ProofKit
import Derived.Test.YtebmfkkkhmjkoaaGreatQaR
import Derived.Test.YtebmfkkkhmjkoaaGreatRows
import Derived.SliceStrings
import Derived.ChangeMaps5
import Derived.Deep.Slices
namespace Go.Proofs.YtebmfkkkhmjkoaaGreat
open Go.RowKit Go.Shelf Go.Lib Go.ChangeShapes Go.WideShapes
set_option maxRecDepth 100000

theorem lt_of_cell {w : World} {a : Addr} {v : Value} (h : w.cell? a = some v) : a.block < w.heap.size := by
 rcases Nat.lt_or_ge a.block w.heap.size with hlt | hge
 · exact hlt
 unfold World.cell? at h
 rw [Array.getElem?_eq_none hge] at h
 cases h
theorem Tryz.laidOut : laidOutB Tryz.prog = true := by kernel_rfl

section
variable {H : Type} {enc : TypeId × Value → H}
theorem open_i64 {W : World} {r : Reach} {b0 : Nat} {v : Value} {d : DataW H} {p : List MemPlace} (hv : Value.okWide Tryz.prog W r b0 3 v) (h : DataW.Trod enc Tryz.prog W 0 (fun _ => true) true 3 v d p) :
 ∃ x : Int, v = .int .i64 x ∧ -9223372036854775808 ≤ x ∧ x ≤ 9223372036854775807 := by
 obtain ⟨n, rfl, _, _, hw⟩ := open_int Tryz.underlying3 hv h
 simp [Lit.wf, IntKind.min, IntKind.max, IntKind.signed, IntKind.bits] at hw
 exact ⟨n, rfl, by omega, by omega⟩
end
end Go.Proofs.YtebmfkkkhmjkoaaGreat
namespace Go.Proofs.YtebmfkkkhmjkoaaGreat
open Go.RowKit Go.Shelf Go.Lib Go.ChangeShapes Go.WideShapes Go.ChangeAt Go.Deep

section
variable {H : Type} {enc : TypeId × Value → H}
theorem bulk_append : ∀ a b : List (DataW H), Rows.uptoBulkAll (a ++ b) = Rows.uptoBulkAll a + Rows.uptoBulkAll b
 | [], b => by simp [Rows.uptoBulkAll]
 | x :: a, b => by
   rw [List.cons_append, Rows.uptoBulkAll, Rows.uptoBulkAll, bulk_append a b]
   omega
theorem open_rows {α : Type} {sz : Nat} {T sl : TypeId} {E : World → List Value → α → Prop} {W : World} (hu : Tryz.prog.underlying sl = some (.slice T)) (hsz : Tryz.prog.cellsOf T = sz) (hp : 0 < sz) (R : α → Prop) (μ : α → Nat)
 (hel : ∀ (fuel : Nat) (cs : List Value) (x : DataW H × List MemPlace), DataW.trod enc Tryz.prog W 0 (fun _ => true) true fuel T cs = some x → cs.length = sz → ∃ y, E W cs y ∧ R y ∧ μ y ≤ Rows.uptoBulk x.1)
 {fuel : Nat} {cs : List Value} {x : DataW H × List MemPlace} (h : DataW.trod enc Tryz.prog W 0 (fun _ => true) true fuel sl cs = some x) :
 ∃ (v : Value) (ys : List α), cs = [v] ∧ Rows sz E W v ys ∧ ys.length ≤ maxLen ∧ (∀ y ∈ ys, R y) ∧ (ys.map μ).sum + 1 ≤ Rows.uptoBulk x.1 := by
 rcases open_slice hu h with ⟨hn, hx⟩ | ⟨ad, len', cap', m, n, D, Pl, hcs, _, hl, hm, hmm, hx, hi⟩
 · refine ⟨_, [], hn, Rows.nil W, Nat.zero_le _, by simp, ?_⟩
   rw [hx]
   simp [Rows.uptoBulk]
 simp only [if_true] at hmm
 rw [hsz] at hi
 have hone : ∀ i, i < len' → ∃ y : α, ∃ cs' : List Value, cs'.length = sz ∧ E W cs' y ∧ (∀ k, ∀ hk : k < cs'.length, W.cell? ((ad.add (i * sz)).add k) = some cs'[k]) ∧ R y ∧ μ y ≤ Rows.uptoBulk (D i) := by
  intro i hil
  obtain ⟨cs', g1, g2⟩ := hi i (by omega)
  obtain ⟨_, hl3, hat⟩ := World.cells?_some g1
  obtain ⟨y, h1, hr, h2⟩ := hel _ _ _ g2 hl3
  exact ⟨y, cs', hl3, h1, fun k hk => (hat k (by omega)).trans (List.getElem?_eq_getElem hk), hr, h2⟩
 have hch : ∀ k, k ≤ len' → ∃ ys : List α, ys.length = k ∧ (∀ (i : Nat) (hi : i < ys.length), ∃ cs' : List Value, cs'.length = sz ∧ E W cs' ys[i] ∧ (∀ k, ∀ hk : k < cs'.length, W.cell? ((ad.add (i * sz)).add k) = some cs'[k])) ∧ (∀ y ∈ ys, R y) ∧ (ys.map μ).sum ≤ Rows.uptoBulkAll ((List.range k).map D) := by
  intro k
  induction k with
  | zero => exact fun _ => ⟨[], rfl, fun i h => absurd h (by simp), by simp, by simp [Rows.uptoBulkAll]⟩
  | succ k ih =>
    intro hk
    obtain ⟨ys, hcl, hall, hrs, hsum⟩ := ih (by omega)
    obtain ⟨y, cs', g1, g2, g3, gr, g4⟩ := hone k (by omega)
    refine ⟨ys ++ [y], by simp [hcl], fun i hi => ?_, fun z hz => (List.mem_append.1 hz).elim (hrs z) fun h => by rw [List.mem_singleton.1 h]; exact gr, ?_⟩
    ·
     by_cases hik : i < ys.length
     · rw [List.getElem_append_left hik]
       exact hall i hik
     have hik2 : i = k := by simp at hi; omega
     subst hik2
     have : (ys ++ [y])[i] = y := by
      rw [List.getElem_append_right (by omega)]
      simp [hcl]
     rw [this]
     exact ⟨cs', g1, g2, g3⟩
    simp only [List.range_succ, List.map_append, bulk_append, List.sum_append, List.map_cons, List.map_nil, List.sum_cons, List.sum_nil, Rows.uptoBulkAll]
    omega
 obtain ⟨ys, hcl, hall, hrs, hsum⟩ := hch len' (Nat.le_refl _)
 refine ⟨_, ys, hcs, ⟨some ad, cap', by rw [hcl], by omega, fun h => ?_⟩, by omega, hrs, ?_⟩
 ·
  obtain ⟨c0, hc0, _, hat0⟩ := hall 0 h
  have h0 := hat0 0 (by omega)
  rw [Nat.zero_mul] at h0
  have hz : ∀ x : Addr, x.add 0 = x := fun x => by simp [Addr.add]
  rw [hz, hz] at h0
  have e := plain_cell h0
  have hlt := lt_of_cell h0
  obtain ⟨bk, of, sp⟩ := ad
  have hsp : sp = none := congrArg Addr.spot e
  subst hsp
  refine ⟨bk, of, rfl, hlt, fun k p hk => ?_⟩
  obtain ⟨hkl, rfl⟩ := List.getElem?_eq_some_iff.1 hk
  obtain ⟨cs', g1, g2, g3⟩ := hall k hkl
  refine ⟨cs', g1, g2, fun i u hu => ?_⟩
  obtain ⟨hil, rfl⟩ := List.getElem?_eq_some_iff.1 hu
  have := g3 i hil
  simp only [add_plain] at this
  exact this
 rw [hx]
 simp only [Rows.uptoBulk]
 omega
def i64 (x : Int) : Prop := -9223372036854775808 ≤ x ∧ x ≤ 9223372036854775807
def rStr (s : Bs) : Prop := s.length ≤ maxLen
def rPair (p : Bs × Bs) : Prop := p.1.length ≤ maxLen ∧ p.2.length ≤ maxLen
def rAttr (a : Bs × Bool) : Prop := a.1.length ≤ maxLen
def rNd (x : Nd) : Prop := x.label.length ≤ maxLen ∧ i64 x.b ∧ i64 x.e ∧ i64 x.parent
def rEx (x : Ex) : Prop := x.name.length ≤ maxLen ∧ i64 x.b ∧ i64 x.e ∧ x.ps.length ≤ maxLen ∧ ∀ q ∈ x.ps, rPair q
def rTok (t : Fs) : Prop := t.length ≤ maxLen ∧ ∀ s ∈ t, rStr s
structure rCor (c : Cor) : Prop where
 a : c.attrs.length ≤ maxLen ∧ ∀ x ∈ c.attrs, rAttr x
 t : c.toks.length ≤ maxLen ∧ ∀ x ∈ c.toks, rTok x
 x : c.texts.length ≤ maxLen ∧ ∀ x ∈ c.texts, rEx x
 r : c.regs.length ≤ maxLen ∧ ∀ x ∈ c.regs, rEx x
 n : c.nodes.length ≤ maxLen ∧ ∀ x ∈ c.nodes, rNd x
 h : c.heads.length ≤ maxLen ∧ ∀ x ∈ c.heads, i64 x
 l : c.rels.length ≤ maxLen ∧ ∀ x ∈ c.rels, rStr x
def wStr (s : Bs) : Nat := s.length + 1
def wPair (p : Bs × Bs) : Nat := p.1.length + p.2.length + 3
def wAttr (a : Bs × Bool) : Nat := a.1.length + 3
def wNd (x : Nd) : Nat := x.label.length + 5
def wEx (x : Ex) : Nat := x.name.length + (x.ps.map wPair).sum + 5
def wTok (t : Fs) : Nat := (t.map wStr).sum + 1
def wCor (c : Cor) : Nat := (c.attrs.map wAttr).sum + (c.toks.map wTok).sum + (c.texts.map wEx).sum + (c.regs.map wEx).sum + (c.nodes.map wNd).sum + (c.heads.map fun _ => 1).sum + (c.rels.map wStr).sum + 8
theorem size_eq (s : ByteArray) : s.size = s.data.toList.length := by
 rw [Array.length_toList]; rfl
theorem len_le {s : ByteArray} (m : s.size ≤ maxLen) : s.data.toList.length ≤ maxLen := size_eq s ▸ m
theorem trod_i64 {W : World} {fuel : Nat} {cs : List Value} {x : DataW H × List MemPlace} {t : TypeId} (ht : Tryz.prog.underlying t = some (.int .i64)) (h : DataW.trod enc Tryz.prog W 0 (fun _ => true) true fuel t cs = some x) : ∃ n : Int, cs = [.int .i64 n] ∧ x = (.lit (.int .i64 n), []) ∧ i64 n := by
 obtain ⟨n, h1, h2, hw⟩ := DataW.trod_int ht h
 simp [Lit.wf, IntKind.min, IntKind.max, IntKind.signed, IntKind.bits] at hw
 exact ⟨n, h1, h2, by unfold i64; omega⟩
theorem el_int {W : World} (fuel : Nat) (cs : List Value) (x : DataW H × List MemPlace) (h : DataW.trod enc Tryz.prog W 0 (fun _ => true) true fuel 3 cs = some x) (_ : cs.length = 1) : ∃ y, EInt W cs y ∧ i64 y ∧ (fun _ => 1) y ≤ Rows.uptoBulk x.1 := by
 obtain ⟨n, h1, h2, h3⟩ := trod_i64 Tryz.underlying3 h
 refine ⟨n, h1, h3, ?_⟩
 rw [h2]
 exact Nat.le_refl _
theorem el_str {W : World} (fuel : Nat) (cs : List Value) (x : DataW H × List MemPlace) (h : DataW.trod enc Tryz.prog W 0 (fun _ => true) true fuel 9 cs = some x) (_ : cs.length = 1) : ∃ y, EStr W cs y ∧ rStr y ∧ wStr y ≤ Rows.uptoBulk x.1 := by
 obtain ⟨s, k, z, m⟩ := DataW.trod_string Tryz.underlying9 (x := x) h
 refine ⟨s.data.toList, by rw [EStr, k, Lib.mk_data], len_le m, ?_⟩
 rw [z]
 exact Nat.le_refl _
theorem el_tok {W : World} (fuel : Nat) (cs : List Value) (x : DataW H × List MemPlace) (h : DataW.trod enc Tryz.prog W 0 (fun _ => true) true fuel 28 cs = some x) (_ : cs.length = 1) : ∃ y, ETok W cs y ∧ rTok y ∧ wTok y ≤ Rows.uptoBulk x.1 := by
 obtain ⟨v, ys, h1, h2, hm, hr, h3⟩ := open_rows (E := EStr) (sz := 1) Tryz.underlying28 (by kernel_rfl) (by decide) rStr wStr el_str h
 exact ⟨ys, ⟨v, h1, h2⟩, ⟨hm, hr⟩, h3⟩
set_option maxRecDepth 100000 in
theorem el_pair {W : World} (fuel : Nat) (cs : List Value) (x : DataW H × List MemPlace) (h : DataW.trod enc Tryz.prog W 0 (fun _ => true) true fuel 93 cs = some x) (_ : cs.length = 2) : ∃ y, EPair W cs y ∧ rPair y ∧ wPair y ≤ Rows.uptoBulk x.1 := by
 obtain ⟨xs, n, _, hx, hlen, hxl, hf⟩ := DataW.trod_struct Tryz.underlying93 h
 have hN : Tryz.prog.cellsOf 93 = 2 := by kernel_rfl
 have c0 : Tryz.prog.cellsOf 9 = 1 := by kernel_rfl
 rw [hN] at hlen
 match cs, hlen with
 | [a, b], _ =>
   match xs, hxl with
   | [y0, y1], _ =>
     have e0 : DataW.trod enc Tryz.prog W 0 (fun _ => true) true n 9 (([a, b].drop 0).take (Tryz.prog.cellsOf 9)) = some y0 := hf 0 _ rfl
     rw [c0] at e0
     have e1 : DataW.trod enc Tryz.prog W 0 (fun _ => true) true n 9 (([a, b].drop 1).take (Tryz.prog.cellsOf 9)) = some y1 := hf 1 _ rfl
     rw [c0] at e1
     obtain ⟨s0, k0, z0, m0⟩ := DataW.trod_string Tryz.underlying9 (x := y0) e0
     obtain ⟨s1, k1, z1, m1⟩ := DataW.trod_string Tryz.underlying9 (x := y1) e1
     simp only [List.drop_zero, List.take_succ_cons, List.take_zero, List.cons.injEq, and_true, List.drop_succ_cons] at k0 k1
     subst k0 k1
     have hx1 : x.1 = .agg [y0.1, y1.1] := congrArg Prod.fst hx
     rw [hx1]
     refine ⟨(s0.data.toList, s1.data.toList), by simp only [EPair, Lib.mk_data], ⟨len_le m0, len_le m1⟩, ?_⟩
     simp only [wPair, Rows.uptoBulk, Rows.uptoBulkAll, z0, z1]
     omega
set_option maxRecDepth 100000 in
theorem el_attr {W : World} (fuel : Nat) (cs : List Value) (x : DataW H × List MemPlace) (h : DataW.trod enc Tryz.prog W 0 (fun _ => true) true fuel 61 cs = some x) (_ : cs.length = 2) : ∃ y, EAttr W cs y ∧ rAttr y ∧ wAttr y ≤ Rows.uptoBulk x.1 := by
 obtain ⟨xs, n, _, hx, hlen, hxl, hf⟩ := DataW.trod_struct Tryz.underlying61 h
 have hN : Tryz.prog.cellsOf 61 = 2 := by kernel_rfl
 have c0 : Tryz.prog.cellsOf 9 = 1 := by kernel_rfl
 have c1 : Tryz.prog.cellsOf 4 = 1 := by kernel_rfl
 rw [hN] at hlen
 match cs, hlen with
 | [a, b], _ =>
   match xs, hxl with
   | [y0, y1], _ =>
     have e0 : DataW.trod enc Tryz.prog W 0 (fun _ => true) true n 9 (([a, b].drop 0).take (Tryz.prog.cellsOf 9)) = some y0 := hf 0 _ rfl
     rw [c0] at e0
     have e1 : DataW.trod enc Tryz.prog W 0 (fun _ => true) true n 4 (([a, b].drop 1).take (Tryz.prog.cellsOf 4)) = some y1 := hf 1 _ rfl
     rw [c1] at e1
     obtain ⟨s0, k0, z0, m0⟩ := DataW.trod_string Tryz.underlying9 (x := y0) e0
     obtain ⟨s1, k1, z1⟩ := DataW.trod_bool Tryz.underlying4 (x := y1) e1
     simp only [List.drop_zero, List.take_succ_cons, List.take_zero, List.cons.injEq, and_true, List.drop_succ_cons] at k0 k1
     subst k0 k1
     have hx1 : x.1 = .agg [y0.1, y1.1] := congrArg Prod.fst hx
     rw [hx1]
     refine ⟨(s0.data.toList, s1), by simp only [EAttr, Lib.mk_data], len_le m0, ?_⟩
     simp only [wAttr, Rows.uptoBulk, Rows.uptoBulkAll, z0, z1]
     omega
set_option maxRecDepth 100000 in
theorem el_nd {W : World} (fuel : Nat) (cs : List Value) (x : DataW H × List MemPlace) (h : DataW.trod enc Tryz.prog W 0 (fun _ => true) true fuel 56 cs = some x) (_ : cs.length = 4) : ∃ y, ENd W cs y ∧ rNd y ∧ wNd y ≤ Rows.uptoBulk x.1 := by
 obtain ⟨xs, n, _, hx, hlen, hxl, hf⟩ := DataW.trod_struct Tryz.underlying56 h
 have hN : Tryz.prog.cellsOf 56 = 4 := by kernel_rfl
 have c0 : Tryz.prog.cellsOf 9 = 1 := by kernel_rfl
 have c1 : Tryz.prog.cellsOf 3 = 1 := by kernel_rfl
 rw [hN] at hlen
 match cs, hlen with
 | [a, b, c, d], _ =>
   match xs, hxl with
   | [y0, y1, y2, y3], _ =>
     have e0 : DataW.trod enc Tryz.prog W 0 (fun _ => true) true n 9 (([a, b, c, d].drop 0).take (Tryz.prog.cellsOf 9)) = some y0 := hf 0 _ rfl
     rw [c0] at e0
     have e1 : DataW.trod enc Tryz.prog W 0 (fun _ => true) true n 3 (([a, b, c, d].drop 1).take (Tryz.prog.cellsOf 3)) = some y1 := hf 1 _ rfl
     rw [c1] at e1
     have e2 : DataW.trod enc Tryz.prog W 0 (fun _ => true) true n 3 (([a, b, c, d].drop 2).take (Tryz.prog.cellsOf 3)) = some y2 := hf 2 _ rfl
     rw [c1] at e2
     have e3 : DataW.trod enc Tryz.prog W 0 (fun _ => true) true n 3 (([a, b, c, d].drop 3).take (Tryz.prog.cellsOf 3)) = some y3 := hf 3 _ rfl
     rw [c1] at e3
     obtain ⟨s0, k0, z0, m0⟩ := DataW.trod_string Tryz.underlying9 (x := y0) e0
     obtain ⟨s1, k1, z1, m1⟩ := trod_i64 Tryz.underlying3 (x := y1) e1
     obtain ⟨s2, k2, z2, m2⟩ := trod_i64 Tryz.underlying3 (x := y2) e2
     obtain ⟨s3, k3, z3, m3⟩ := trod_i64 Tryz.underlying3 (x := y3) e3
     simp only [List.drop_zero, List.take_succ_cons, List.take_zero, List.cons.injEq, and_true, List.drop_succ_cons] at k0 k1 k2 k3
     subst k0 k1 k2 k3
     have hx1 : x.1 = .agg [y0.1, y1.1, y2.1, y3.1] := congrArg Prod.fst hx
     rw [hx1]
     refine ⟨⟨s0.data.toList, s1, s2, s3⟩, by simp only [ENd, Lib.mk_data], ⟨len_le m0, m1, m2, m3⟩, ?_⟩
     simp only [wNd, Rows.uptoBulk, Rows.uptoBulkAll, z0, z1, z2, z3]
     omega
set_option maxRecDepth 100000 in
theorem el_text {W : World} (fuel : Nat) (cs : List Value) (x : DataW H × List MemPlace) (h : DataW.trod enc Tryz.prog W 0 (fun _ => true) true fuel 51 cs = some x) (_ : cs.length = 4) : ∃ y, EEx W cs y ∧ rEx y ∧ wEx y ≤ Rows.uptoBulk x.1 := by
 obtain ⟨xs, n, _, hx, hlen, hxl, hf⟩ := DataW.trod_struct Tryz.underlying51 h
 have hN : Tryz.prog.cellsOf 51 = 4 := by kernel_rfl
 have c0 : Tryz.prog.cellsOf 9 = 1 := by kernel_rfl
 have c1 : Tryz.prog.cellsOf 3 = 1 := by kernel_rfl
 have c2 : Tryz.prog.cellsOf 49 = 1 := by kernel_rfl
 rw [hN] at hlen
 match cs, hlen with
 | [a, b, c, d], _ =>
   match xs, hxl with
   | [y0, y1, y2, y3], _ =>
     have e0 : DataW.trod enc Tryz.prog W 0 (fun _ => true) true n 9 (([a, b, c, d].drop 0).take (Tryz.prog.cellsOf 9)) = some y0 := hf 0 _ rfl
     rw [c0] at e0
     have e1 : DataW.trod enc Tryz.prog W 0 (fun _ => true) true n 3 (([a, b, c, d].drop 1).take (Tryz.prog.cellsOf 3)) = some y1 := hf 1 _ rfl
     rw [c1] at e1
     have e2 : DataW.trod enc Tryz.prog W 0 (fun _ => true) true n 3 (([a, b, c, d].drop 2).take (Tryz.prog.cellsOf 3)) = some y2 := hf 2 _ rfl
     rw [c1] at e2
     have e3 : DataW.trod enc Tryz.prog W 0 (fun _ => true) true n 49 (([a, b, c, d].drop 3).take (Tryz.prog.cellsOf 49)) = some y3 := hf 3 _ rfl
     rw [c2] at e3
     obtain ⟨s0, k0, z0, m0⟩ := DataW.trod_string Tryz.underlying9 (x := y0) e0
     obtain ⟨s1, k1, z1, m1⟩ := trod_i64 Tryz.underlying3 (x := y1) e1
     obtain ⟨s2, k2, z2, m2⟩ := trod_i64 Tryz.underlying3 (x := y2) e2
     obtain ⟨v3, s3, k3, r3, m3, q3, z3⟩ := open_rows (E := EPair) (sz := 2) Tryz.underlying49 (by kernel_rfl) (by decide) rPair wPair el_pair e3
     simp only [List.drop_zero, List.take_succ_cons, List.take_zero, List.cons.injEq, and_true, List.drop_succ_cons] at k0 k1 k2 k3
     subst k0 k1 k2 k3
     have hx1 : x.1 = .agg [y0.1, y1.1, y2.1, y3.1] := congrArg Prod.fst hx
     rw [hx1]
     refine ⟨⟨s0.data.toList, s1, s2, s3⟩, ⟨_, by simp only [Lib.mk_data], r3⟩, ⟨len_le m0, m1, m2, m3, q3⟩, ?_⟩
     simp only [wEx, Rows.uptoBulk, Rows.uptoBulkAll, z0, z1, z2]
     omega
set_option maxRecDepth 100000 in
theorem el_reg {W : World} (fuel : Nat) (cs : List Value) (x : DataW H × List MemPlace) (h : DataW.trod enc Tryz.prog W 0 (fun _ => true) true fuel 54 cs = some x) (_ : cs.length = 4) : ∃ y, EEx W cs y ∧ rEx y ∧ wEx y ≤ Rows.uptoBulk x.1 := by
 obtain ⟨xs, n, _, hx, hlen, hxl, hf⟩ := DataW.trod_struct Tryz.underlying54 h
 have hN : Tryz.prog.cellsOf 54 = 4 := by kernel_rfl
 have c0 : Tryz.prog.cellsOf 9 = 1 := by kernel_rfl
 have c1 : Tryz.prog.cellsOf 3 = 1 := by kernel_rfl
 have c2 : Tryz.prog.cellsOf 49 = 1 := by kernel_rfl
 rw [hN] at hlen
 match cs, hlen with
 | [a, b, c, d], _ =>
   match xs, hxl with
   | [y0, y1, y2, y3], _ =>
     have e0 : DataW.trod enc Tryz.prog W 0 (fun _ => true) true n 9 (([a, b, c, d].drop 0).take (Tryz.prog.cellsOf 9)) = some y0 := hf 0 _ rfl
     rw [c0] at e0
     have e1 : DataW.trod enc Tryz.prog W 0 (fun _ => true) true n 3 (([a, b, c, d].drop 1).take (Tryz.prog.cellsOf 3)) = some y1 := hf 1 _ rfl
     rw [c1] at e1
     have e2 : DataW.trod enc Tryz.prog W 0 (fun _ => true) true n 3 (([a, b, c, d].drop 2).take (Tryz.prog.cellsOf 3)) = some y2 := hf 2 _ rfl
     rw [c1] at e2
     have e3 : DataW.trod enc Tryz.prog W 0 (fun _ => true) true n 49 (([a, b, c, d].drop 3).take (Tryz.prog.cellsOf 49)) = some y3 := hf 3 _ rfl
     rw [c2] at e3
     obtain ⟨s0, k0, z0, m0⟩ := DataW.trod_string Tryz.underlying9 (x := y0) e0
     obtain ⟨s1, k1, z1, m1⟩ := trod_i64 Tryz.underlying3 (x := y1) e1
     obtain ⟨s2, k2, z2, m2⟩ := trod_i64 Tryz.underlying3 (x := y2) e2
     obtain ⟨v3, s3, k3, r3, m3, q3, z3⟩ := open_rows (E := EPair) (sz := 2) Tryz.underlying49 (by kernel_rfl) (by decide) rPair wPair el_pair e3
     simp only [List.drop_zero, List.take_succ_cons, List.take_zero, List.cons.injEq, and_true, List.drop_succ_cons] at k0 k1 k2 k3
     subst k0 k1 k2 k3
     have hx1 : x.1 = .agg [y0.1, y1.1, y2.1, y3.1] := congrArg Prod.fst hx
     rw [hx1]
     refine ⟨⟨s0.data.toList, s1, s2, s3⟩, ⟨_, by simp only [Lib.mk_data], r3⟩, ⟨len_le m0, m1, m2, m3, q3⟩, ?_⟩
     simp only [wEx, Rows.uptoBulk, Rows.uptoBulkAll, z0, z1, z2]
     omega
set_option maxRecDepth 100000 in
theorem open_cor {W : World} {r : Reach} {b0 : Nat} {v : Value} {d : DataW H} {p : List MemPlace} (hv : Value.okWide Tryz.prog W r b0 30 v) (h : DataW.Trod enc Tryz.prog W 0 (fun _ => true) true 30 v d p) :
 ∃ (s : Sv) (c : Cor), v = .agg s.arr ∧ CorAt W s c ∧ rCor c ∧ wCor c ≤ Rows.uptoBulk d := by
 obtain ⟨⟨cs⟩, rfl, hsz⟩ := okWide_struct Tryz.underlying30 hv
 obtain ⟨fuel, hf⟩ := h
 obtain ⟨xs, n, _, hx, hlen, hxl, hf⟩ := DataW.trod_struct Tryz.underlying30 hf
 have h7 : Tryz.prog.cellsOf 30 = 7 := by kernel_rfl
 have c0 : Tryz.prog.cellsOf 22 = 1 := by kernel_rfl
 have c1 : Tryz.prog.cellsOf 23 = 1 := by kernel_rfl
 have c2 : Tryz.prog.cellsOf 24 = 1 := by kernel_rfl
 have c3 : Tryz.prog.cellsOf 25 = 1 := by kernel_rfl
 have c4 : Tryz.prog.cellsOf 26 = 1 := by kernel_rfl
 have c5 : Tryz.prog.cellsOf 27 = 1 := by kernel_rfl
 have c6 : Tryz.prog.cellsOf 28 = 1 := by kernel_rfl
 rw [h7] at hlen
 have hlen' : cs.length = 7 := hlen
 match cs, hlen' with
 | [a, b, c, e, f, g, l], _ =>
   match xs, hxl with
   | [y0, y1, y2, y3, y4, y5, y6], _ =>
     have e0 : DataW.trod enc Tryz.prog W 0 (fun _ => true) true n 22 (([a, b, c, e, f, g, l].drop 0).take (Tryz.prog.cellsOf 22)) = some y0 := hf 0 _ rfl
     rw [c0] at e0
     obtain ⟨v0, s0, k0, r0, m0, q0, z0⟩ := open_rows (E := EAttr) (sz := 2) Tryz.underlying22 (by kernel_rfl) (by decide) rAttr wAttr el_attr e0
     have e1 : DataW.trod enc Tryz.prog W 0 (fun _ => true) true n 23 (([a, b, c, e, f, g, l].drop 1).take (Tryz.prog.cellsOf 23)) = some y1 := hf 1 _ rfl
     rw [c1] at e1
     obtain ⟨v1, s1, k1, r1, m1, q1, z1⟩ := open_rows (E := ETok) (sz := 1) Tryz.underlying23 (by kernel_rfl) (by decide) rTok wTok el_tok e1
     have e2 : DataW.trod enc Tryz.prog W 0 (fun _ => true) true n 24 (([a, b, c, e, f, g, l].drop 2).take (Tryz.prog.cellsOf 24)) = some y2 := hf 2 _ rfl
     rw [c2] at e2
     obtain ⟨v2, s2, k2, r2, m2, q2, z2⟩ := open_rows (E := EEx) (sz := 4) Tryz.underlying24 (by kernel_rfl) (by decide) rEx wEx el_text e2
     have e3 : DataW.trod enc Tryz.prog W 0 (fun _ => true) true n 25 (([a, b, c, e, f, g, l].drop 3).take (Tryz.prog.cellsOf 25)) = some y3 := hf 3 _ rfl
     rw [c3] at e3
     obtain ⟨v3, s3, k3, r3, m3, q3, z3⟩ := open_rows (E := EEx) (sz := 4) Tryz.underlying25 (by kernel_rfl) (by decide) rEx wEx el_reg e3
     have e4 : DataW.trod enc Tryz.prog W 0 (fun _ => true) true n 26 (([a, b, c, e, f, g, l].drop 4).take (Tryz.prog.cellsOf 26)) = some y4 := hf 4 _ rfl
     rw [c4] at e4
     obtain ⟨v4, s4, k4, r4, m4, q4, z4⟩ := open_rows (E := ENd) (sz := 4) Tryz.underlying26 (by kernel_rfl) (by decide) rNd wNd el_nd e4
     have e5 : DataW.trod enc Tryz.prog W 0 (fun _ => true) true n 27 (([a, b, c, e, f, g, l].drop 5).take (Tryz.prog.cellsOf 27)) = some y5 := hf 5 _ rfl
     rw [c5] at e5
     obtain ⟨v5, s5, k5, r5, m5, q5, z5⟩ := open_rows (E := EInt) (sz := 1) Tryz.underlying27 (by kernel_rfl) (by decide) i64 (fun _ => 1) el_int e5
     have e6 : DataW.trod enc Tryz.prog W 0 (fun _ => true) true n 28 (([a, b, c, e, f, g, l].drop 6).take (Tryz.prog.cellsOf 28)) = some y6 := hf 6 _ rfl
     rw [c6] at e6
     obtain ⟨v6, s6, k6, r6, m6, q6, z6⟩ := open_rows (E := EStr) (sz := 1) Tryz.underlying28 (by kernel_rfl) (by decide) rStr wStr el_str e6
     simp only [List.drop_zero, List.take_succ_cons, List.take_zero, List.cons.injEq, and_true, List.drop_succ_cons] at k0 k1 k2 k3 k4 k5 k6
     subst k0 k1 k2 k3 k4 k5 k6
     have hd : d = .agg [y0.1, y1.1, y2.1, y3.1, y4.1, y5.1, y6.1] := congrArg Prod.fst hx
     refine ⟨⟨_, _, _, _, _, _, _⟩, ⟨s0, s1, s2, s3, s4, s5, s6⟩, rfl, ⟨r0, r1, r2, r3, r4, r5, r6⟩, ⟨⟨m0, q0⟩, ⟨m1, q1⟩, ⟨m2, q2⟩, ⟨m3, q3⟩, ⟨m4, q4⟩, ⟨m5, q5⟩, ⟨m6, q6⟩⟩, ?_⟩
     rw [hd]
     simp only [wCor, Rows.uptoBulk, Rows.uptoBulkAll]
     omega
end
end Go.Proofs.YtebmfkkkhmjkoaaGreat
namespace Go.Proofs.YtebmfkkkhmjkoaaGreat
open Go.RowKit Go.Shelf Go.Lib Go.ChangeShapes Go.WideShapes Go.ChangeAt Go.Deep

section
variable {H : Type} {enc : TypeId × Value → H}
end
end Go.Proofs.YtebmfkkkhmjkoaaGreat
