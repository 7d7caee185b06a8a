/-
  ROWS of calls; a Writer and a row stand while a Reader reads.
-/
import Derived.Test.YtpkikfdbndaekaaBjF
namespace Go.Proofs.Ytpkikfdbndaekaa
open Go.RowKit Go.Shelf Go.Lib

def fldC (c : CallL) : List Value := [.int .i64 c.kind, .int .u64 c.v, .int .i64 c.n]
def rowC (ds : List CallL) : List Value := ds.flatMap fldC
theorem Try.infoCall : (Try.prog.info? 40).map (fun i => (i.zero, i.size, i.bytes)) = some (some (.agg #[.int .i64 0, .int .u64 0, .int .i64 0]), 3, 24) := by kernel_rfl
theorem rowC_len : ∀ ds : List CallL, (rowC ds).length = ds.length * 3
  | [] => rfl
  | c :: ds => by
    have := rowC_len ds
    unfold rowC at this ⊢
    rw [List.flatMap_cons, List.length_append, this, List.length_cons]
    show 3 + _ = _
    omega
theorem rowC_at : ∀ (ds : List CallL) (k j : Nat) (hk : k < ds.length), j < 3 → (rowC ds)[k * 3 + j]? = (fldC ds[k])[j]?
  | [], k, _, h, _ => by simp at h
  | c :: ds, 0, j, _, hj => by
    unfold rowC
    rw [List.flatMap_cons, List.getElem?_append_left (by show _ < 3; omega)]
    simp
  | c :: ds, k + 1, j, hk, hj => by
    have ih := rowC_at ds k j (by simpa using hk) hj
    unfold rowC at ih ⊢
    have hl : (fldC c).length = 3 := rfl
    rw [List.flatMap_cons, List.getElem?_append_right (by rw [hl]; omega), hl]
    have e : (k + 1) * 3 + j - 3 = k * 3 + j := by omega
    rw [e, ih]
    simp
theorem rowC_snoc (ds : List CallL) (c : CallL) : rowC (ds ++ [c]) = rowC ds ++ fldC c := by simp [rowC]

/-- The bits of calls. -/
def bitsC (ds : List CallL) : List Bool := ds.flatMap fun c => bitsW (wrL c)
theorem bitsC_snoc (ds : List CallL) (c : CallL) : bitsC (ds ++ [c]) = bitsC ds ++ bitsW (wrL c) := by simp [bitsC]
theorem bitsC_split (ds : List CallL) (k : Nat) (hk : k < ds.length) : (bitsC ds).drop (bitsC (ds.take k)).length = bitsW (wrL ds[k]) ++ bitsC (ds.drop (k + 1)) := by
  have h1 : ds = ds.take k ++ (ds[k] :: ds.drop (k + 1)) := by rw [← List.drop_eq_getElem_cons hk, List.take_append_drop]
  have h2 : bitsC ds = bitsC (ds.take k) ++ (bitsW (wrL ds[k]) ++ bitsC (ds.drop (k + 1))) := by
    conv => lhs; rw [h1]
    unfold bitsC
    rw [List.flatMap_append, List.flatMap_cons]
  rw [h2, List.drop_left]
theorem bitsC_take (ds : List CallL) (k : Nat) (hk : k < ds.length) : (bitsC (ds.take (k + 1))).length = (bitsC (ds.take k)).length + (bitsW (wrL ds[k])).length := by
  rw [List.take_succ_eq_append_getElem hk, bitsC_snoc, List.length_append]
theorem bitsC_le (ds : List CallL) (k : Nat) : (bitsC (ds.take k)).length ≤ (bitsC ds).length := by
  have h : bitsC ds = bitsC (ds.take k) ++ bitsC (ds.drop k) := by
    unfold bitsC
    rw [← List.flatMap_append, List.take_append_drop]
  rw [h, List.length_append]
  omega

/-- A Writer stands while a Reader reads. -/
theorem writer_stay {w w' : World} {B B' g g' size p : Nat} {v vb : Value} {l : List Bool} {bs : List UInt8} (hw : WAt w B g v l) (hr : RAt w B' g' vb bs size p) (hg : w.grownBy w' (some g')) : WAt w' B g v l := by
  have hne : g ≠ g' := by
    intro e
    subst e
    have h1 := hw.2.1
    rw [hr.2.1] at h1
    injection h1 with h1
    injection h1 with _ h1
    exact absurd h1 (by decide)
  refine ⟨hw.1, (hg.block g hw.lt (fun e => hne (by injection e))).trans hw.2.1, own_below hw.2.2 fun k e => hg.block k (own_low hw.2.2 k e).2 (fun e2 => ?_)⟩
  injection e2 with e2
  subst e2
  obtain ⟨c, h1⟩ := own_elem hw.2.2 e
  rw [hr.2.1] at h1
  injection h1 with h1
  injection h1 with _ h1
  exact absurd h1 (by decide)
/-- A row of calls stands while a Reader reads, and while a Writer writes. -/
theorem calls_stay {w w' : World} {b B g n size p : Nat} {v9 vb : Value} {bs : List UInt8} {xs : List Value} (hr : RAt w B g vb bs size p) (hg : w.grownBy w' (some g)) (ho : w.ownsRow b 40 3 v9 n xs) : w'.ownsRow b 40 3 v9 n xs :=
  own_below ho fun k e => hg.block k (own_low ho k e).2 (fun e2 => by
    injection e2 with e2
    subst e2
    obtain ⟨c, h1⟩ := own_elem ho e
    rw [hr.2.1] at h1
    injection h1 with h1
    injection h1 with _ h1
    exact absurd h1 (by decide))
theorem calls_aside {w w' : World} {B b g n : Nat} {v v' v4 : Value} {l : List Bool} {xs : List Value} (hw : WAt w B g v l) (hs : Stepped g v w v' w') (ho : w.ownsRow b 40 3 v4 n xs) : w'.ownsRow b 40 3 v4 n xs :=
  own_below ho fun k e => hs.block k (own_low ho k e).2 (fun e2 => by
    subst e2
    obtain ⟨c, h1⟩ := own_elem ho e
    rw [hw.2.1] at h1
    injection h1 with h1
    injection h1 with _ h1
    exact absurd h1 (by decide)) (own_apart ho hw.2.2 (by decide) e)
/-- A Writer stands while a row of calls grows. -/
theorem writer_calls {w w' : World} {B b g n : Nat} {v v4 : Value} {l : List Bool} {xs : List Value} (hw : WAt w B g v l) (ho : w.ownsRow b 40 3 v4 n xs) (hg : w.grownBy w' v4.ownBlock) : WAt w' B g v l := by
  refine ⟨hw.1, (hg.block g hw.lt ?_).trans hw.2.1, own_below hw.2.2 fun k e => hg.block k (own_low hw.2.2 k e).2 fun e2 => own_apart hw.2.2 ho (by decide) e e2.symm⟩
  intro e
  obtain ⟨c, h1⟩ := own_elem ho e.symm
  rw [hw.2.1] at h1
  injection h1 with h1
  injection h1 with _ h1
  exact absurd h1 (by decide)
/-- The cells of a call in a row of the law's own. -/
theorem rowC_cells {w : World} {b : Nat} {g cap : Nat} {ds : List CallL} (ho : w.ownsRow b 40 3 (.slice (some ⟨g, 0, none⟩) ds.length cap) ds.length (rowC ds)) (k : Nat) (hk : k < ds.length) :
    w.cell? ⟨g, k * 3, none⟩ = some (.int .i64 ds[k].kind) ∧ w.cell? ⟨g, k * 3 + 1, none⟩ = some (.int .u64 ds[k].v) ∧ w.cell? ⟨g, k * 3 + 2, none⟩ = some (.int .i64 ds[k].n) := by
  have e0 := rowC_at ds k 0 hk (by omega)
  have e1 := rowC_at ds k 1 hk (by omega)
  have e2 := rowC_at ds k 2 hk (by omega)
  refine ⟨?_, ?_, ?_⟩
  · have := ho.cellAt (k * 3) (by omega)
    rw [this]; exact e0
  · have := ho.cellAt (k * 3 + 1) (by omega)
    rw [this]; exact e1
  · have := ho.cellAt (k * 3 + 2) (by omega)
    rw [this]; exact e2
end Go.Proofs.Ytpkikfdbndaekaa
