/-
  A call of a Writer, as the program and the reference answer it; rows of different elements lie apart.
-/
import Derived.Test.YtbfnkmibbieijaaBiT
import Derived.Test.YtbfnkmibbieijaaBiU
namespace Go.Proofs.Ytbfnkmibbieijaa
open Go.RowKit Go.Shelf Go.Lib

theorem own_elem {w : World} {base : Nat} {e : TypeId} {size n : Nat} {v : Value} {xs : List Value} (h : w.ownsRow base e size v n xs) {k : Nat} (hk : v.ownBlock = some k) : ∃ cur, w.heap[k]? = some (.cells cur e (0, 0)) := by
  rcases h.2 with ⟨rfl, _⟩ | ⟨g, cap, cur, rfl, _, hh, _⟩
  · simp [Value.ownBlock] at hk
  · simp only [Value.ownBlock, Option.some.injEq] at hk
    subst hk
    exact ⟨cur, hh⟩
theorem own_apart {w : World} {b b' : Nat} {e e' : TypeId} {s s' n n' : Nat} {v v' : Value} {xs xs' : List Value} (h : w.ownsRow b e s v n xs) (h' : w.ownsRow b' e' s' v' n' xs') (hne : e ≠ e') {k : Nat} (hk : v.ownBlock = some k) : v'.ownBlock ≠ some k := by
  intro hk'
  obtain ⟨c, h1⟩ := own_elem h hk
  obtain ⟨c', h2⟩ := own_elem h' hk'
  rw [h1] at h2
  injection h2 with h2
  injection h2 with _ h2
  exact hne h2
/-- A row of bits stands while a Writer writes. -/
theorem bits_aside {w w' : World} {B b g n : Nat} {v v' v4 : Value} {l : List Bool} {xs : List Value} (hw : WAt w B g v l) (hs : Stepped g v w v' w') (ho : w.ownsRow b 4 1 v4 n xs) : w'.ownsRow b 4 1 v4 n xs :=
  own_below ho fun k e => hs.block k (own_low ho k e).2 (fun e2 => by
    subst e2
    obtain ⟨c, h1⟩ := own_elem ho e
    rw [hw.2.1] at h1
    injection h1 with h1
    injection h1 with _ h1
    exact absurd h1 (by decide)) (own_apart ho hw.2.2 (by decide) e)
/-- A Writer stands while a row of bits grows. -/
theorem writer_aside {w w' : World} {B b g n : Nat} {v v4 : Value} {l : List Bool} {xs : List Value} (hw : WAt w B g v l) (ho : w.ownsRow b 4 1 v4 n xs) (hg : w.grownBy w' v4.ownBlock) : WAt w' B g v l := by
  refine ⟨hw.1, (hg.block g hw.lt ?_).trans hw.2.1, own_below hw.2.2 fun k e => hg.block k (own_low hw.2.2 k e).2 fun e2 => own_apart hw.2.2 ho (by decide) e e2.symm⟩
  intro e
  obtain ⟨c, h1⟩ := own_elem ho e.symm
  rw [hw.2.1] at h1
  injection h1 with h1
  injection h1 with _ h1
  exact absurd h1 (by decide)

theorem call_apart (c : CallL) : callV c = .agg #[.int .i64 c.kind, .int .u64 c.v, .int .i64 c.n] := rfl
end Go.Proofs.Ytbfnkmibbieijaa
