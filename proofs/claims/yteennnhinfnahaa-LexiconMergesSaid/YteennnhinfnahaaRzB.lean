/-
  WALKS over package corporaref01, second part: Valid, At, Position, Reverse, over every string of at most 400 bytes.
-/
import Derived.Test.YteennnhinfnahaaRzA
import Derived.StillTailTactics
import Derived.Test.YteennnhinfnahaaCpG
namespace Go.Proofs.Yteennnhinfnahaa.Ru
open Go.RowKit Go.Shelf Go.Lib

/-- The units lie in the row that begins at block g. -/
def URow (W : World) (g : Nat) (us : List U) : Prop :=
  ∃ cur : Array Value, W.heap[g]? = some (.cells cur 125 (0, 0)) ∧ ∀ (k j : Nat) (hk : k < us.length), j < 4 → cur[k * 4 + j]? = (fulU us[k])[j]?
theorem URow.keep {W W' : World} {g : Nat} {us : List U} (h : URow W g us) (hb : W'.heap[g]? = W.heap[g]?) : URow W' g us := by
  obtain ⟨cur, h1, h2⟩ := h
  exact ⟨cur, hb.trans h1, h2⟩
theorem URow.lt {W : World} {g : Nat} {us : List U} (h : URow W g us) : g < W.heap.size := by
  obtain ⟨cur, h1, h2⟩ := h
  exact (Array.getElem?_eq_some_iff.1 h1).1
theorem URow.alloc {W : World} {g : Nat} {us : List U} (h : URow W g us) (o : Obj) : URow (W.alloc o) g us := h.keep (Below.heap_alloc W o g h.lt)
theorem URow.at0 {W : World} {g : Nat} {us : List U} (h : URow W g us) {k : Nat} {c p n : Nat} {b : Bool} (hk : k < us.length) (hc : us[k] = ⟨c, p, n⟩) (hb : (!badU us[k]) = b) :
    W.cell? ⟨g, k * 4, none⟩ = some (.int .i32 (c : Int)) ∧ W.cell? ⟨g, k * 4 + 1, none⟩ = some (.int .i64 (p : Int)) ∧ W.cell? ⟨g, k * 4 + 2, none⟩ = some (.int .i64 (n : Int)) ∧ W.cell? ⟨g, k * 4 + 3, none⟩ = some (.bool b) := by
  obtain ⟨cur, h1, h2⟩ := h
  have e0 := h2 k 0 hk (by omega)
  have e1 := h2 k 1 hk (by omega)
  have e2 := h2 k 2 hk (by omega)
  have e3 := h2 k 3 hk (by omega)
  rw [hc] at e0 e1 e2 e3 hb
  refine ⟨cell_of h1 e0, cell_of h1 e1, cell_of h1 e2, cell_of h1 (e3.trans ?_)⟩
  rw [← hb]; rfl

theorem refUnits_row (s : ByteArray) (hs : s.size ≤ 400) (w : World) :
    Calls Try.prog 70 #[.string s] w fun e w' => (e = .returned (.slice none 0 0) ∧ units s = [] ∧ Below w.heap.size w w') ∨
      (∃ g cap, e = .returned (.slice (some ⟨g, 0, none⟩) (units s).length cap) ∧ w.heap.size ≤ g ∧ URow w' g (units s) ∧ Below w.heap.size w w') := by
  refine (refUnits_any s hs w).mono ?_
  rintro e w' ⟨v, rfl, hown, hb⟩
  rcases hown.2 with ⟨rfl, h0⟩ | ⟨g, cap, cur, rfl, hbg, hg, _, _, _, ht⟩
  · exact .inl ⟨rfl, List.length_eq_zero_iff.1 h0, hb⟩
  · refine .inr ⟨g, cap, rfl, hbg, ⟨cur, hg, fun k j hk hj => ?_⟩, hb⟩
    rw [← fm4_at fulU_len (units s) k j hk hj, ← ht, List.getElem?_take, if_pos (by omega)]
    simp

set_option maxRecDepth 100000 in
set_option maxHeartbeats 1000000 in
theorem refValid_any (s : ByteArray) (hs : s.size ≤ 400) (w : World) :
    Calls Try.prog 48 #[.string s] w fun e w' => e = .returned (.bool ((units s).all fun u => !badU u)) ∧ Below w.heap.size w w' := by
  have HU := Lib.hid (refUnits_row s hs w)
  have hul := units_le s
  obtain ⟨us, hus⟩ : ∃ us, units s = us := ⟨_, rfl⟩
  rw [hus] at HU hul ⊢
  have hn : us.length ≤ 400 := by omega
  clear hul hus
  go_enter Try.func48, Try.ntmps48
  go_wp2_with fail
  refine HU.out.mono ?_
  rintro e w1 (⟨rfl, rfl, hb⟩ | ⟨g, cap, rfl, hg, hrow, hb⟩)
  · have HB := Lib.hid hb
    clear hb
    go_wp2_with fail
    go_loopw [8] (fun i wr => i = .int .i64 0 ∧ Below w.heap.size w wr) (fun _ _ => 0)
    case atStart => exact ⟨rfl, HB.out⟩
    case round =>
      obtain ⟨rfl, hb2⟩ := hrel
      go_wp2
      go_ret
      exact ⟨rfl, hb2⟩
  · have HB := Lib.hid hb
    have HR := Lib.hid hrow
    clear hb hrow
    go_wp2_with fail
    go_loopw [8] (fun i wr => ∃ k : Nat, k ≤ us.length ∧ i = .int .i64 k ∧ URow wr g us ∧ Below w.heap.size w wr ∧ (us.take k).all (fun u => !badU u) = true) (fun i _ => us.length - (intOf i).toNat)
    case atStart => exact ⟨0, Nat.zero_le _, rfl, HR.out, HB.out, rfl⟩
    case round =>
      obtain ⟨k, hk, rfl, hrow, hbel, hall⟩ := hrel
      by_cases hlt : k < us.length
      · obtain ⟨b, hbad⟩ : ∃ b, (!badU us[k]) = b := ⟨_, rfl⟩
        obtain ⟨l0, l1, l2, l3⟩ := hrow.at0 (c := us[k].c) (p := us[k].p) (n := us[k].w) hlt rfl hbad
        have hnext : (us.take (k + 1)).all (fun u => !badU u) = b := by
          rw [List.take_succ_eq_append_getElem hlt, List.all_append, hall]
          simp [hbad]
        have hno : b = false → us.all (fun u => !badU u) = false := fun h => by
          rw [List.all_eq_false]
          exact ⟨us[k], List.getElem_mem hlt, by rw [hbad, h]; simp⟩
        obtain ⟨c, hc⟩ : ∃ c, us[k].c = c := ⟨_, rfl⟩
        obtain ⟨p, hp⟩ : ∃ p, us[k].p = p := ⟨_, rfl⟩
        obtain ⟨n, hn'⟩ : ∃ n, us[k].w = n := ⟨_, rfl⟩
        rw [hc] at l0
        rw [hp] at l1
        rw [hn'] at l2
        have HB2 := Lib.hid hbel
        have HR2 := Lib.hid hrow
        have HN := Lib.hid hnext
        have HO := Lib.hid hno
        have hlt2 : k < us.length := hlt
        clear hc hp hn' hbel hrow hnext hno hall hbad
        cases b with
        | true =>
          go_wp2
          go_roundw
          case rel => exact ⟨k + 1, by omega, by go_num, HR2.out.alloc _, HB2.out.alloc HB2.out.size _, HN.out⟩
          case measure => simp [intOf]; omega
        | false =>
          go_wp2
          go_ret
          exact ⟨by rw [HO.out trivial]; rfl, HB2.out.alloc HB2.out.size _⟩
      · have HB2 := Lib.hid hbel
        have HA := Lib.hid hall
        clear hbel hrow hall
        go_wp2
        go_ret
        refine ⟨?_, HB2.out⟩
        have h := HA.out
        rw [List.take_of_length_le (by omega)] at h
        rw [h]
        rfl

theorem results_four {fn : Func} {t u v x : Tmp} (h : fn.results = #[.tmp t, .tmp u, .tmp v, .tmp x]) (tmps : Array Value) (P : Program) (w : World) :
    (results fn tmps).run P w = .ok (.tuple #[tmps.getD t undef, tmps.getD u undef, tmps.getD v undef, tmps.getD x undef]) w := by
  simp [results, h]
end Go.Proofs.Yteennnhinfnahaa.Ru
