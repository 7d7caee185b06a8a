/-
  WALKS over the laws' helpers: own.
-/
import Derived.Test.YtjablaidbccnbaaGreatDoorMkQ
namespace Go.Proofs.YtjablaidbccnbaaGreatDoor
open Go.RowKit Go.Shelf Go.Lib

theorem Tryz.sizeTag4 : (Tryz.prog.info? 28).map (·.size) = some 3 := by kernel_rfl
set_option maxHeartbeats 1000000 in
theorem own_any (c : Bool) (n : ByteArray) (A : Option Addr) (l p : Nat) (w : World) :
    Calls Tryz.prog 13 #[.agg #[.bool c, .string n, .slice A l p]] w fun e w' => e = .returned (.agg #[.bool c, .string n, .slice A l p]) ∧ Below w.heap.size w w' := by
  have q0 := block_new (w.alloc (.cells #[.bool c, .string n, .slice A l p] 24)) (.cells #[.bool c, .string n, .slice A l p] 28)
  rw [World.size_alloc] at q0
  have HQ := Lib.hid q0
  clear q0
  go_enter Tryz.func13, Tryz.ntmps13
  go_wp2_with fail
  exact bodyPost_ret (v := .agg #[.bool c, .string n, .slice A l p]) (results_cell_row Tryz.results13 _ _ (w.heap.size + 1) _ _ _ _ rfl HQ.out Tryz.underlying28 rfl Tryz.sizeTag4) rfl ⟨rfl, ((Below.refl _ w).alloc (Nat.le_refl _) _).alloc (by simp) _⟩
end Go.Proofs.YtjablaidbccnbaaGreatDoor
