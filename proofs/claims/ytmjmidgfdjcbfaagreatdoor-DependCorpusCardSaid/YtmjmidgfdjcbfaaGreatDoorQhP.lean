/-
  WALKS over package corpus: the validator's parts.
-/
import Derived.Test.YtmjmidgfdjcbfaaGreatDoorQkP
import Derived.StillTailTactics
namespace Go.Proofs.YtmjmidgfdjcbfaaGreatDoor
open Go.RowKit Go.Shelf Go.Lib
set_option linter.unusedVariables false

def partCells (B n0 n1 n2 n3 n4 n5 : Nat) : Array Value :=
  #[.int .i64 1, .int .i64 n0, .func (.func 19) #[.pointer (some ⟨B, 0, none⟩)] #[], .func (.func 20) #[.pointer (some ⟨B, 0, none⟩)] #[],
    .int .i64 2, .int .i64 n1, .func (.func 21) #[.pointer (some ⟨B, 0, none⟩)] #[], .func (.func 22) #[.pointer (some ⟨B, 0, none⟩)] #[],
    .int .i64 3, .int .i64 n2, .func (.func 23) #[.pointer (some ⟨B, 0, none⟩)] #[], .func (.func 24) #[.pointer (some ⟨B, 0, none⟩)] #[],
    .int .i64 4, .int .i64 n3, .func (.func 25) #[.pointer (some ⟨B, 0, none⟩)] #[], .func (.func 26) #[.pointer (some ⟨B, 0, none⟩)] #[],
    .int .i64 5, .int .i64 n4, .func (.func 27) #[.pointer (some ⟨B, 0, none⟩)] #[], .func (.func 28) #[.pointer (some ⟨B, 0, none⟩)] #[],
    .int .i64 6, .int .i64 n5, .func (.func 29) #[.pointer (some ⟨B, 0, none⟩)] #[], .func (.func 30) #[.pointer (some ⟨B, 0, none⟩)] #[]]

set_option maxRecDepth 100000 in
set_option maxHeartbeats 4000000 in
theorem parts_any (B n0 n1 n2 n3 n4 n5 n6 : Nat) (A0 A1 A2 A3 A4 A5 A6 : Option Addr) (k0 k1 k2 k3 k4 k5 k6 : Nat) (o p y : Value) (W : World)
    (hV : VAt W B ⟨.slice A0 n0 k0, .slice A1 n1 k1, .slice A2 n2 k2, .slice A3 n3 k3, .slice A4 n4 k4, .slice A5 n5 k5, .slice A6 n6 k6⟩ o p y) :
    Calls Tryz.prog 7 #[.pointer (some ⟨B, 0, none⟩)] W fun e w' => e = .returned (.slice (some ⟨W.heap.size, 0, none⟩) 6 6) ∧ w' = (W.alloc (.cells (partCells B n0 n1 n2 n3 n4 n5) 51)).drew := by
  obtain ⟨c0, c1, c2, c3, c4, c5, -⟩ := hV.c
  simp only at c0 c1 c2 c3 c4 c5
  clear hV
  have hmf : ∀ (fn : Fn) (first cap : Array Value) (w : World), (Instr.makeFunc fn first cap).run Tryz.prog w = .ok (.func fn first cap) w := fun _ _ _ _ => rfl
  go_enter Tryz.func7, Tryz.ntmps7
  go_wp2_with fail
  simp only [List.append_eq, List.cons_append, List.nil_append]
  go_still_tail 66, (by kernel_rfl)
  change wpList _ _ _ _ _ W.drew
  go_wp2_with fail
  go_ret
  exact ⟨rfl, rfl⟩
end Go.Proofs.YtmjmidgfdjcbfaaGreatDoor
