/-
  WALKS over package bitio, third part: byte strings that are seen; Clone, Bytes, Gamma, Delta; the law's 'same' and 'awake' need them.
-/
import Derived.Test.YtbfnkmibbieijaaBiB
import Derived.Laws.BytesArg
import Derived.Laws.AppendOwnNone
import Derived.Lib.SliceRun
namespace Go.Proofs.Ytbfnkmibbieijaa
open Go.RowKit Go.Shelf Go.Lib


set_option maxHeartbeats 1000000 in
theorem clone_any {w : World} {v : Value} {L : List UInt8} (h : Sees w w.heap.size v L) (hL : L.length ≤ 10000000) :
    Calls Try.prog 90 #[v] w fun e w' => ∃ v', e = .returned v' ∧ w'.ownsRow w.heap.size 5 1 v' L.length (byteCells L) ∧ Below w.heap.size w w' := by
  rcases h with ⟨rfl, rfl⟩ | ⟨ad, cap, rfl, hc, hb, hj⟩
  · have hn : (binOp .eql 23 (.slice none 0 0) (.slice none 0 0)).run Try.prog w = .ok (.bool true) w := run_eql_slice_nil w _ _ none 0 0 0 0 Try.underlying23
    go_enter Try.func90, Try.ntmps90
    go_wp2
    go_ret
    exact ⟨_, rfl, World.ownsRow_nil _ _ _ _, Below.refl _ _⟩
  · obtain ⟨i0, hi, hz0, hz1, hz2⟩ := info_parts' Try.infoByte
    have hnews : ∀ (j : Nat) (u : Value), (byteCells L)[j]? = some u → (w.alloc (.cells #[] 5)).cell? (ad.add j) = some u := by
      intro j u hu
      have hjl : j < L.length := by
        have := (List.getElem?_eq_some_iff.1 hu).1
        rw [byteCells_length] at this
        exact this
      have hu2 : u = .int .u8 (L[j].toNat : Int) := by
        simp only [byteCells, List.getElem?_map, List.getElem?_eq_getElem hjl, Option.map_some, Option.some.injEq] at hu
        exact hu.symm
      rw [hu2, World.cell?_alloc_lt w _ _ (by rw [block_add]; exact hb (by omega))]
      exact hj j hjl
    have HN := Lib.hid hnews
    clear hnews hj
    obtain ⟨n, hn⟩ : ∃ n, L.length = n := ⟨_, rfl⟩
    rw [hn] at hL
    have hlen : (byteCells L).length = n * 1 := by rw [byteCells_length, hn, Nat.mul_one]
    have HL := Lib.hid hlen
    have HB1 := Lib.hid (bytes_one L)
    rw [hn]
    clear hn hlen hb hc
    have hn : (binOp .eql 23 (.slice (some ad) n cap) (.slice none 0 0)).run Try.prog w = .ok (.bool false) w := run_eql_slice_nil w _ _ (some ad) n cap 0 0 Try.underlying23
    go_enter Try.func90, Try.ntmps90
    go_wp2_with (at_builtin; (refine wpList_append_own _ rfl (.tmp 5) (.tmp 6) 23 rfl w.heap.size 5 i0 _ 1 1 Try.underlying23 hi hz0 hz1 hz2 rfl (by decide) _ 0 _ rfl (own_empty w 5) ad n _ (byteCells L) rfl HL.out HN.out HB1.out (by unfold maxLen; omega) (by omega) (by simp) ?_))
    intro v' w' hown hgrow _
    have hbl : Below w.heap.size w w' := ((Below.refl w.heap.size w).alloc (Nat.le_refl _) _).grown hgrow (by simp) (fun k e => by simp only [Value.ownBlock, Option.some.injEq] at e; omega)
    have HO := Lib.hid hown
    have HBL := Lib.hid hbl
    clear hown hgrow hbl
    go_wp2
    go_ret
    refine ⟨_, rfl, ?_, HBL.out⟩
    exact HO.out

set_option maxHeartbeats 400000 in
theorem bytes_any {w : World} {B g : Nat} {v : Value} {l : List Bool} (hw : WAt w B g v l) (hl : l.length ≤ 10000000) :
    Calls Try.prog 77 #[.pointer (some ⟨g, 0, none⟩)] w fun e w' => ∃ v', e = .returned v' ∧ w'.ownsRow w.heap.size 5 1 v' (pack l).length (byteCells (pack l)) ∧ Below w.heap.size w w' := by
  have c0 : w.cell? ⟨g, 0, none⟩ = some v := cell_of (i := 0) hw.2.1 rfl
  have hs := sees_own hw.2.2
  have hc := clone_any hs (by rw [pack_len]; omega)
  have HC := Lib.hid hc
  clear hw hs hc
  go_enter Try.func77, Try.ntmps77
  go_wp2_with (go_at_call 90; refine HC.out.mono ?_)
  rintro e w' ⟨v', rfl, hown, hb⟩
  have HO := Lib.hid hown
  have HB := Lib.hid hb
  clear hown hb
  go_wp2
  go_ret
  exact ⟨_, rfl, HO.out, HB.out⟩

theorem push_of {w : World} {B g : Nat} {v : Value} {l : List Bool} (hw : WAt w B g v l) (hB : B ≤ w.heap.size) (x n : Nat) (X N : Int) (hX : X = x) (hN : N = n) (hx : x < 18446744073709551616) (hn : n ≤ 64) (hl : l.length ≤ 1000000) :
    Calls Try.prog 106 #[.pointer (some ⟨g, 0, none⟩), .int .u64 X, .int .i64 N] w fun e w' => ∃ v', e = .returned (.tuple #[]) ∧ WAt w' B g v' (l ++ low x n) ∧ Stepped g v w v' w' := by
  subst hX hN
  exact push_any hw hB x n hx hn hl

end Go.Proofs.Ytbfnkmibbieijaa
