/-
  WALKS over package checksum, third part: both Seals; the laws' 'awake'.
-/
import Derived.Test.YtifdencdbpdbfaaDoorCkB
import Derived.Test.YtifdencdbpdbfaaDoorMeB
import Derived.Lib.SlBytesConst
namespace Go.Proofs.YtifdencdbpdbfaaDoor
open Go.RowKit Go.Shelf Go.Lib

theorem le4_cells (s : Nat) (h : s < 4294967296) : byteCells (le4 s) = [.int .u8 ((s : Int) % 256), .int .u8 ((s : Int) / 256 % 256), .int .u8 ((s : Int) / 65536 % 256), .int .u8 ((s : Int) / 16777216)] := by
  simp [byteCells, le4]
  omega

set_option maxHeartbeats 1000000 in
theorem seal_any {w : World} {v : Value} {L : List UInt8} (hs : Sees w w.heap.size v L) (hm : L.length ≤ 10000000) (ht : Tab w) :
    Calls Tryd.prog 18 #[v] w fun e w' => ∃ v', e = .returned v' ∧ w'.ownsRow w.heap.size 5 1 v' (sealL L).length (byteCells (sealL L)) ∧ Below w.heap.size w w' := by
  obtain ⟨i0, hi, hz0, hz1, hz2⟩ := info_parts' Tryd.infoByte
  obtain ⟨A, cap, hv, hcap⟩ := hs.le
  have hsum := sum_any hs (by omega) ht
  have hlt := sumL_lt L
  have hcut := (hv ▸ hs.cells).cut.1
  have hlen : (sealL L).length = L.length + 4 := seal_len L
  have hall : byteCells (sealL L) = byteCells L ++ byteCells (le4 (sumL L)) := byteCells_app _ _
  rw [le4_cells _ hlt] at hall
  obtain ⟨s, hse⟩ : ∃ s, sumL L = s := ⟨_, rfl⟩
  obtain ⟨n, hn⟩ : ∃ n, L.length = n := ⟨_, rfl⟩
  rw [hse] at hsum hlt hall
  rw [hn] at hv hm hcap hcut hlen
  have HSUM := Lib.hid hsum
  have HCUT := Lib.hid hcut
  have HALL := Lib.hid hall
  have HLEN := Lib.hid hlen
  subst hv
  have hsl := slice_full A n cap hcap w
  clear hs ht hsum hcut hall hlen hn hse
  go_enter Tryd.func18, Tryd.ntmps18
  go_wp2_with fail
  refine HSUM.out.mono ?_
  rintro e w' ⟨rfl, rfl⟩
  have hb1 : Below w.heap.size w (w.alloc (.cells #[.int .u8 ((s : Int) % 256), .int .u8 ((s : Int) / 256 % 256), .int .u8 ((s : Int) / 65536 % 256), .int .u8 ((s : Int) / 16777216)] 5)) := (Below.refl _ w).alloc (Nat.le_refl _) _
  have HC1 := Lib.hid (HCUT.out.below hb1)
  have HB1 := Lib.hid hb1
  have HN1 := Lib.hid (news_at w [.int .u8 ((s : Int) % 256), .int .u8 ((s : Int) / 256 % 256), .int .u8 ((s : Int) / 65536 % 256), .int .u8 ((s : Int) / 16777216)] 5)
  clear hb1
  go_wp2_with (at_builtin; refine wpList_append_full rfl (.tmp 13) (.tmp 25) 29 rfl w.heap.size 5 i0 _ 1 Tryd.underlying29 hi hz0 hz1 hz2 rfl A n (byteCells L) rfl HC1.out _ 4 4 _ rfl HN1.out rfl (by simp [Value.oneCell']) (by decide) (by unfold maxLen; omega) (by omega) ?_)
  intro v2 w2 hown hb2
  have HO := Lib.hid hown
  have HB2 := Lib.hid (HB1.out.trans (hb2.mono (Nat.le_succ _)))
  clear hown hb2
  go_wp2
  go_ret
  refine ⟨_, rfl, ?_, HB2.out⟩
  rw [HLEN.out, HALL.out]
  exact ownsRow_base HO.out (Nat.le_of_lt (by simp))

set_option maxHeartbeats 1000000 in
theorem refSeal_any {w : World} {v : Value} {L : List UInt8} (hs : Sees w w.heap.size v L) (hm : L.length ≤ 10000000) :
    Calls Tryd.prog 25 #[v] w fun e w' => ∃ v', e = .returned v' ∧ w'.ownsRow w.heap.size 5 1 v' (sealL L).length (byteCells (sealL L)) ∧ Below w.heap.size w w' := by
  obtain ⟨i0, hi, hz0, hz1, hz2⟩ := info_parts' Tryd.infoByte
  obtain ⟨A, cap, hv, hcap⟩ := hs.le
  have hsum := refSum_any hs (by omega)
  have hlt := sumL_lt L
  have hcells := hs.cells
  have hlen : (sealL L).length = L.length + 4 := seal_len L
  have hall : byteCells (sealL L) = byteCells L ++ byteCells (le4 (sumL L)) := byteCells_app _ _
  have hcl := byteCells_length L
  rw [le4_cells _ hlt] at hall
  obtain ⟨s, hse⟩ : ∃ s, sumL L = s := ⟨_, rfl⟩
  obtain ⟨n, hn⟩ : ∃ n, L.length = n := ⟨_, rfl⟩
  rw [hse] at hsum hlt hall
  rw [hn] at hv hm hcap hlen hcl
  have HSUM := Lib.hid hsum
  have HCL := Lib.hid hcl
  have HCS := Lib.hid hcells
  have HALL := Lib.hid hall
  have HLEN := Lib.hid hlen
  have HON := Lib.hid (bytes_one L)
  subst hv
  clear hs hsum hcells hall hlen hn hse hcl
  go_enter Tryd.func25, Tryd.ntmps25
  go_wp2_with fail
  refine HSUM.out.mono ?_
  rintro e w' ⟨rfl, rfl⟩
  go_wp2_with (at_builtin; refine wpList_append_sees rfl (.const (.slice none 0 0)) (.tmp 6) 29 rfl w.heap.size 5 i0 _ 1 Tryd.underlying29 hi hz0 hz1 hz2 rfl _ 0 [] rfl (World.ownsRow_nil _ _ _ _) _ _ (byteCells L) rfl HCS.out HON.out (by rw [HCL.out]; unfold maxLen; omega) (by rw [HCL.out]; omega) (Nat.le_refl _) ?_)
  intro v1 w1 hown1 hgrow1 _
  rw [HCL.out] at hown1
  have hb1 : Below w.heap.size w w1 := (Below.refl _ w).grown hgrow1 (Nat.le_refl _) (fun k e => by simp [Value.ownBlock] at e)
  have hb2 : Below w1.heap.size w1 (w1.alloc (.cells #[.int .u8 ((s : Int) % 256), .int .u8 ((s : Int) / 256 % 256), .int .u8 ((s : Int) / 65536 % 256), .int .u8 ((s : Int) / 16777216)] 5)) := (Below.refl _ w1).alloc (Nat.le_refl _) _
  have HO1 := Lib.hid (own_below hown1 (fun k e => hb2.block k (own_low hown1 k e).2))
  have HN1 := Lib.hid (news_at w1 [.int .u8 ((s : Int) % 256), .int .u8 ((s : Int) / 256 % 256), .int .u8 ((s : Int) / 65536 % 256), .int .u8 ((s : Int) / 16777216)] 5)
  have hsz1 := hb1.size
  have HB2 := Lib.hid (hb1.trans (hb2.mono hsz1))
  have HLOW := Lib.hid (fun k e => (own_low hown1 k e).1)
  clear hown1 hgrow1 hb1 hb2
  go_wp2_with (at_builtin; (refine wpList_append_own _ rfl (.tmp 7) (.tmp 19) 29 rfl w.heap.size 5 i0 _ 1 1 Tryd.underlying29 hi hz0 hz1 hz2 rfl (by decide) _ _ _ rfl HO1.out _ 4 4 _ rfl rfl HN1.out (by simp [Value.oneCell']) (by unfold maxLen; omega) (by omega) (Nat.le_trans hsz1 (Nat.le_of_lt (by simp))) ?_))
  intro v2 w2 hown2 hgrow2 _
  have HO2 := Lib.hid hown2
  have HB3 := Lib.hid (HB2.out.grown hgrow2 HB2.out.size HLOW.out)
  clear hown2 hgrow2
  go_wp2
  go_ret
  refine ⟨_, rfl, ?_, HB3.out⟩
  rw [HLEN.out, HALL.out]
  exact HO2.out

/-- The world behind the example's literal: its row, with the run-time's mark behind it. -/
def nine (w : World) : World := w.alloc (.cells (byteCells [49, 50, 51, 52, 53, 54, 55, 56, 57]).toArray 5 (9, 10))
theorem nine_convert (w : World) : (convert 29 29 (.slice (some ⟨w.heap.size, 0, none⟩) 9 9)).run Tryd.prog (w.alloc (.cells #[.int .u8 49, .int .u8 50, .int .u8 51, .int .u8 52, .int .u8 53, .int .u8 54, .int .u8 55, .int .u8 56, .int .u8 57] 5)) = .ok (.slice (some ⟨w.heap.size, 0, none⟩) 9 9) (nine w) :=
  Lib.run_convert_bytes_const w 29 5 _ 9 9 Tryd.underlying29 Tryd.underlying5
theorem nine_below (w : World) : Below w.heap.size w (nine w) := (Below.refl _ w).alloc (Nat.le_refl _) _
theorem nine_sees (w : World) : Sees (nine w) (w.heap.size + 1) (.slice (some ⟨w.heap.size, 0, none⟩) 9 9) [49, 50, 51, 52, 53, 54, 55, 56, 57] :=
  .inr ⟨_, 9, rfl, by decide, fun _ => Nat.lt_succ_self _, fun j hj => by
    rw [add_plain, Nat.zero_add]
    exact cell_of (block_new w _) (by unfold byteCells; rw [List.getElem?_toArray, List.getElem?_map, List.getElem?_eq_getElem hj]; rfl)⟩
theorem sum_nine : sumL [49, 50, 51, 52, 53, 54, 55, 56, 57] = 3808858755 := by decide +kernel
theorem seal_nil : sealL [] = [0, 0, 0, 0] := by decide +kernel

end Go.Proofs.YtifdencdbpdbfaaDoor
