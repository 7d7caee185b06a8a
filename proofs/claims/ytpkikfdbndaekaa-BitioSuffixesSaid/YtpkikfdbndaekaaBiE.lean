/-
  WALKS over package bitio, fifth part: the laws' 'awake': the document's examples.
-/
import Derived.Test.YtpkikfdbndaekaaBiD
namespace Go.Proofs.Ytpkikfdbndaekaa
open Go.RowKit Go.Shelf Go.Lib

theorem own_below {w w' : World} {base : Nat} {e : TypeId} {size n : Nat} {v : Value} {xs : List Value} (h : w.ownsRow base e size v n xs) (hk : ∀ k, v.ownBlock = some k → w'.heap[k]? = w.heap[k]?) : w'.ownsRow base e size v n xs := by
  rcases h.2 with ⟨rfl, h0⟩ | ⟨g, cap, cur, rfl, _, hh, _⟩
  · exact ⟨h.1, .inl ⟨rfl, h0⟩⟩
  · exact ownsRow_block h (hk g rfl)
theorem WAt.kept {w w' : World} {B g : Nat} {v : Value} {l : List Bool} (h : WAt w B g v l) (hb : Below w.heap.size w w') : WAt w' B g v l :=
  ⟨h.1, (hb.block g h.lt).trans h.2.1, own_below h.2.2 fun k e => hb.block k (own_low h.2.2 k e).2⟩
theorem enc_300 : enc 300 = [172, 2] := by
  rw [enc_ge (by omega), enc_lt (by omega)]
  rfl
theorem awake_len : ([] ++ gam 5 ++ del 5).length = 10 := by decide +kernel
theorem awake_pack : pack ([] ++ gam 5 ++ del 5) = [43, 64] := by decide +kernel

set_option maxRecDepth 100000 in
set_option maxHeartbeats 1000000 in
/-- awake answers true. -/
theorem awake_any (w : World) : Calls Try.prog 16 #[] w fun e w' => e = .returned (.bool true) ∧ Below w.heap.size w w' := by
  go_enter Try.func16, Try.ntmps16
  go_wp2_with (go_at_call 19; refine (newWriter_any _).mono ?_; rintro e w' ⟨rfl, rfl⟩)
  have hput := put_any (Sees.nil (w.alloc (.cells #[.slice none 0 0, .int .i64 0] 67)) _) (by simp) 300 (by omega)
  refine hput.mono ?_
  rintro e w2 ⟨v2, rfl, hown, hb⟩
  rw [List.nil_append, enc_300] at hown
  have hcv := (sees_own hown).convert
  have hwr := (writer_new w).kept hb
  have hsz := hb.size
  simp only [World.size_alloc] at hsz hb
  have HW := Lib.hid hwr
  have HB := Lib.hid hb
  clear hwr hb hput hown
  go_wp2_with fail
  refine (gamma_of HW.out (by omega) 5 _ rfl (by omega) (by omega) (by simp)).mono ?_
  rintro e w3 ⟨v3, rfl, hw3, hs3⟩
  have hz3 := hs3.size
  have HW3 := Lib.hid hw3
  have HS3 := Lib.hid hs3
  clear hw3 hs3
  go_wp2_with fail
  refine (delta_any HW3.out (by omega) 5 (by omega) (by omega) (by rw [List.nil_append, gam_len]; decide)).mono ?_
  rintro e w4 ⟨v4, rfl, hw4, hs4⟩
  have hz4 := hs4.size
  have HW4 := Lib.hid hw4
  have HS4 := Lib.hid hs4
  clear hw4 hs4
  go_wp2_with fail
  have hlen := len_any HW4.out
  rw [awake_len] at hlen
  refine hlen.mono ?_
  rintro e w5 ⟨rfl, rfl⟩
  clear hlen
  go_wp2_with fail
  have hby := bytes_any HW4.out (by rw [awake_len]; omega)
  rw [awake_pack] at hby
  refine hby.mono ?_
  rintro e w6 ⟨v6, rfl, hown6, hb6⟩
  have hcv6 := (sees_own hown6).convert
  have HB6 := Lib.hid hb6
  clear hown6 hb6 hby
  go_wp2
  go_ret
  refine ⟨rfl, ?_⟩
  have b1 : Below w.heap.size w w2 := ((Below.refl _ w).alloc (Nat.le_refl _) _).trans (HB.out.mono (by simp))
  have b3 := HW.out.below HS3.out (by omega)
  have b4 := HW3.out.below HS4.out (by omega)
  exact ((b1.trans b3).trans b4).trans (HB6.out.mono (by omega))
end Go.Proofs.Ytpkikfdbndaekaa
