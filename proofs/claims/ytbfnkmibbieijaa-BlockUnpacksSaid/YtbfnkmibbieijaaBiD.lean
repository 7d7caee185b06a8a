/-
  WALKS over package bitio, fourth part: PutUvarint, and the reference's Uvarint.
-/
import Derived.Test.YtbfnkmibbieijaaBiC
import Derived.Laws.CopyOwn
import Derived.Laws.MakeOwn
namespace Go.Proofs.Ytbfnkmibbieijaa
open Go.RowKit Go.Shelf Go.Lib

theorem put_byte (x : Nat) : bits .or .u8 ((x : Int) % 256) 128 = ((x % 128 + 128 : Nat) : Int) := by
  have e : (x : Int) % 256 = ((x % 256 : Nat) : Int) := by omega
  have h := u8_or_nat (x % 256) 128 (by omega) (by omega)
  have e2 : ((128 : Nat) : Int) = 128 := rfl
  rw [e2] at h
  rw [e, h]
  have h3 : x % 256 ||| 128 = x % 128 + 128 := by
    obtain ⟨y, hy⟩ : ∃ y, x % 256 = y := ⟨_, rfl⟩
    have hx : x % 128 = y % 128 := by omega
    have hy2 : y < 256 := by omega
    rw [hy, hx]
    clear hy hx h e
    have all : ∀ z : Fin 256, z.val ||| 128 = z.val % 128 + 128 := by decide +kernel
    exact all ⟨y, hy2⟩
  rw [h3]

/-- Between two rounds: x' is left of the number, the bytes 'done' have been appended to L. -/
def URel (B : Nat) (L : List UInt8) (x : Nat) (w : World) (v5 v1 : Value) (wr : World) : Prop :=
  ∃ (done : List UInt8) (x' : Nat), v1 = .int .u64 x' ∧ x' < 18446744073709551616 ∧ done ++ enc x' = enc x ∧ wr.ownsRow B 5 1 v5 (L.length + done.length) (byteCells (L ++ done)) ∧ Below B w wr

set_option maxRecDepth 100000 in
set_option maxHeartbeats 1000000 in
theorem refUvarint_any (x : Nat) (hx : x < 18446744073709551616) (w : World) :
    Calls Try.prog 42 #[.int .u64 x] w fun e w' => ∃ v', e = .returned v' ∧ w'.ownsRow w.heap.size 5 1 v' (enc x).length (byteCells (enc x)) ∧ Below w.heap.size w w' := by
  have hten := enc_ten x hx
  go_enter Try.func42, Try.ntmps42
  go_wp2
  go_loopw [3, 0] (fun v3 v0 wr => URel w.heap.size [] x w v3 v0 wr) (fun _ v0 _ => (intOf v0).toNat)
  case atStart => exact ⟨[], x, rfl, hx, rfl, World.ownsRow_nil _ _ _ _, Below.refl _ _⟩
  case round =>
    obtain ⟨done, y, rfl, hy, hen, hown, hb⟩ := hrel
    simp only [List.length_nil, Nat.zero_add, List.nil_append] at hown
    have hdl : done.length + (enc y).length ≤ 10 := by rw [← List.length_append, hen]; exact hten
    have hpos := enc_pos y
    obtain ⟨i0, hi, hz0, hz1, hz2⟩ := info_parts' Try.infoByte
    have hsz := hb.size
    obtain ⟨n, hn⟩ : ∃ n, done.length = n := ⟨_, rfl⟩
    rw [hn] at hown hdl
    have HN := Lib.hid hn
    have HB := Lib.hid hb
    have hlow := own_low hown
    have HLOW := Lib.hid hlow
    clear hb hn hlow
    by_cases hge : 128 ≤ y
    · have hs := enc_ge hge
      rw [hs] at hen
      have HE := Lib.hid hen
      have hbc := byte_cell (y % 128 + 128) (by omega)
      have hcv : (((y % 128 + 128 : Nat) : Int)) = (y : Int) % 128 + 128 := by omega
      rw [hcv] at hbc
      have HBC := Lib.hid hbc
      clear hen hs hbc hcv
      go_wp2_with (at_builtin; refine wpList_append_own _ rfl (.tmp 6) (.tmp 11) 23 rfl w.heap.size 5 i0 _ 1 1 Try.underlying23 hi hz0 hz1 hz2 rfl (by decide) _ n _ rfl (hown.alloc _) _ 1 1 [.int .u8 ((y : Int) % 128 + 128)] rfl rfl (news_at _ [.int .u8 ((y : Int) % 128 + 128)] 5) (by simp [Value.oneCell']) (by unfold maxLen; omega) (by omega) (by simp; omega) ?_)
      intro v' w' hown' hgrow _
      have HO := Lib.hid hown'
      have hb2 : Below w.heap.size w w' := (HB.out.alloc hsz _).grown hgrow (by simp; omega) (fun k e => (HLOW.out k e).1)
      have HB2 := Lib.hid hb2
      clear hown' hgrow hb2 hown
      go_wp2
      go_roundw
      case rel =>
        refine ⟨done ++ [UInt8.ofNat (y % 128 + 128)], y / 128, by go_num, by omega, ?_, ?_, HB2.out⟩
        · rw [List.append_assoc]
          exact HE.out
        · rw [List.length_nil, List.nil_append, Nat.zero_add, List.length_append, List.length_singleton, HN.out, byteCells_app, HBC.out]
          exact HO.out
      case measure => simp [intOf]; omega
    · have hs := enc_lt (v := y) (by omega)
      rw [hs] at hen
      have HE := Lib.hid hen
      have hbc := byte_cell y (by omega)
      have HBC := Lib.hid hbc
      clear hen hs hbc
      have hlt : (y : Int) < 128 := by omega
      go_wp2_with (at_builtin; refine wpList_append_own _ rfl (.tmp 15) (.tmp 18) 23 rfl w.heap.size 5 i0 _ 1 1 Try.underlying23 hi hz0 hz1 hz2 rfl (by decide) _ n _ rfl (hown.alloc _) _ 1 1 [.int .u8 (y : Int)] rfl rfl (news_at _ [.int .u8 (y : Int)] 5) (by simp [Value.oneCell']) (by unfold maxLen; omega) (by omega) (by simp; omega) ?_)
      intro v' w' hown' hgrow _
      have HO := Lib.hid hown'
      have hb2 : Below w.heap.size w w' := (HB.out.alloc hsz _).grown hgrow (by simp; omega) (fun k e => (HLOW.out k e).1)
      have HB2 := Lib.hid hb2
      clear hown' hgrow hb2 hown
      go_wp2
      go_ret
      refine ⟨v', rfl, ?_, HB2.out⟩
      rw [← HE.out, List.length_append, List.length_singleton, HN.out, byteCells_app, HBC.out]
      exact HO.out

set_option maxRecDepth 100000 in
set_option maxHeartbeats 1000000 in
theorem put_any {w : World} {v : Value} {L : List UInt8} (h : Sees w w.heap.size v L) (hL : L.length ≤ 1000) (x : Nat) (hx : x < 18446744073709551616) :
    Calls Try.prog 107 #[v, .int .u64 x] w fun e w' => ∃ v', e = .returned v' ∧ w'.ownsRow w.heap.size 5 1 v' (L ++ enc x).length (byteCells (L ++ enc x)) ∧ Below w.heap.size w w' := by
  have hten := enc_ten x hx
  obtain ⟨sp, cap, rfl, hpos⟩ := h.form
  obtain ⟨i0, hi, hz0, hz1, hz2⟩ := info_parts' Try.infoByte
  obtain ⟨n, hn⟩ : ∃ n, L.length = n := ⟨_, rfl⟩
  have hmk := run_make (P := Try.prog) w 23 5 i0 _ Try.underlying23 hi hz0 .i64 .i64 n ((n : Int) + 10) (by omega) (by omega) (by rw [hz2]; omega) (by omega)
  have hz3 : (Value.int IntKind.u8 0).cells = #[Value.int IntKind.u8 0] := rfl
  have hn10 : ((n : Int) + 10).toNat = n + 10 := by omega
  rw [hz1, hz3, Int.toNat_natCast, hn10, Nat.mul_one, madeCells_bytes] at hmk
  have hcl := byteCells_length L
  rw [hn] at hcl hL ⊢
  obtain ⟨C, hC⟩ : ∃ C, byteCells L = C := ⟨_, rfl⟩
  obtain ⟨Z, hZ⟩ : ∃ Z, byteCells (List.replicate (n + 10) 0) = Z := ⟨_, rfl⟩
  have hzl : Z.length = n + 10 := by rw [← hZ, byteCells_length, List.length_replicate]
  have hone := bytes_one L
  rw [hC] at hpos hcl hone
  rw [hZ] at hmk
  have HP := Lib.hid hpos
  have HCL := Lib.hid hcl
  have HZL := Lib.hid hzl
  have HON := Lib.hid hone
  have HN := Lib.hid hn
  have HC := Lib.hid hC
  clear hpos hcl hzl hone hn hZ hn10 hz3 h hC
  go_enter Try.func107, Try.ntmps107
  go_wp2_with ((with_reducible refine wpList_copy_splice rfl (.tmp 12) (.tmp 13) 23 23 rfl 5 Try.underlying23 (by kernel_rfl) (some ⟨w.heap.size, 0, none⟩) sp n (n + 10) n cap rfl rfl w.heap.size 0 Z 5 ?hcell C ?hlen ?hpos ?hfit HON.out w.heap.size w ((Below.refl _ w).alloc (Nat.le_refl _) _) (Nat.le_refl _) ?_))
  case hcell => exact block_new w _
  case hlen => rw [HCL.out]; exact (Nat.min_self n).symm
  case hpos =>
    intro hp
    obtain ⟨ad, h1, h2, h3⟩ := HP.out hp
    exact ⟨ad, h1, fun j u hu => (World.cell?_alloc_lt w _ _ (by rw [block_add]; exact h2)).trans (h3 j u hu)⟩
  case hfit => rw [HCL.out, HZL.out]; omega
  intro wc hgc hbc
  have hown : wc.ownsRow w.heap.size 5 1 (.slice (some ⟨w.heap.size, 0, none⟩) n (n + 10)) n C := by
    refine ⟨by rw [HCL.out, Nat.mul_one], .inr ⟨w.heap.size, n + 10, (splice Z 0 C).toArray, rfl, Nat.le_refl _, hgc.out, by omega, by unfold maxLen; omega, ?_, ?_⟩⟩
    · rw [List.size_toArray, length_splice _ _ _ (by rw [HCL.out, HZL.out]; omega), HZL.out, Nat.mul_one]
    · have := HCL.out
      unfold splice
      simp [← this]
  have HO := Lib.hid hown
  have HBC := Lib.hid hbc
  clear hgc hbc hown
  go_wp2
  go_loopw [5, 1] (fun v5 v1 wr => URel w.heap.size L x w v5 v1 wr) (fun _ v1 _ => (intOf v1).toNat)
  case atStart => exact ⟨[], x, rfl, hx, rfl, by rw [List.append_nil, List.length_nil, Nat.add_zero, HN.out, HC.out]; exact HO.out, HBC.out⟩
  case round =>
    obtain ⟨done, y, rfl, hy, hen, hown, hb⟩ := hrel
    rw [HN.out] at hown
    have hdl : done.length + (enc y).length ≤ 10 := by rw [← List.length_append, hen]; exact hten
    have hpos := enc_pos y
    have hsz := hb.size
    obtain ⟨m, hm⟩ : ∃ m, done.length = m := ⟨_, rfl⟩
    rw [hm] at hown hdl
    have HM := Lib.hid hm
    have HB := Lib.hid hb
    have hlow := own_low hown
    have HLOW := Lib.hid hlow
    clear hb hm hlow
    by_cases hge : 128 ≤ y
    · have hs := enc_ge hge
      rw [hs] at hen
      have HE := Lib.hid hen
      have hbc := byte_cell (y % 128 + 128) (by omega)
      have hpb := put_byte y
      obtain ⟨c, hc⟩ : ∃ c, y % 128 + 128 = c := ⟨_, rfl⟩
      rw [hc] at hbc hpb
      have HBY := Lib.hid hbc
      have HCC := Lib.hid hc
      clear hen hs hbc hc
      go_wp2_with (at_builtin; refine wpList_append_own _ rfl (.tmp 17) (.tmp 21) 23 rfl w.heap.size 5 i0 _ 1 1 Try.underlying23 hi hz0 hz1 hz2 rfl (by decide) _ (n + m) _ rfl (hown.alloc _) _ 1 1 [.int .u8 (c : Int)] rfl rfl (news_at _ [.int .u8 (c : Int)] 5) (by simp [Value.oneCell']) (by unfold maxLen; omega) (by omega) (by simp; omega) ?_)
      intro v' w' hown' hgrow _
      have HO := Lib.hid hown'
      have hb2 : Below w.heap.size w w' := (HB.out.alloc hsz _).grown hgrow (by simp; omega) (fun k e => (HLOW.out k e).1)
      have HB2 := Lib.hid hb2
      clear hown' hgrow hb2 hown
      go_wp2
      go_roundw
      case rel =>
        refine ⟨done ++ [UInt8.ofNat c], y / 128, by go_num, by omega, ?_, ?_, HB2.out⟩
        · rw [List.append_assoc, ← HE.out, ← HCC.out]
          rfl
        · rw [List.length_append, List.length_singleton, HN.out, HM.out, ← List.append_assoc, byteCells_app, HBY.out, ← Nat.add_assoc]
          exact HO.out
      case measure => simp [intOf]; omega
    · have hs := enc_lt (v := y) (by omega)
      rw [hs] at hen
      have HE := Lib.hid hen
      have hbc := byte_cell y (by omega)
      have HBY := Lib.hid hbc
      clear hen hs hbc
      have hlt : (y : Int) < 128 := by omega
      go_wp2_with (at_builtin; refine wpList_append_own _ rfl (.tmp 25) (.tmp 28) 23 rfl w.heap.size 5 i0 _ 1 1 Try.underlying23 hi hz0 hz1 hz2 rfl (by decide) _ (n + m) _ rfl (hown.alloc _) _ 1 1 [.int .u8 (y : Int)] rfl rfl (news_at _ [.int .u8 (y : Int)] 5) (by simp [Value.oneCell']) (by unfold maxLen; omega) (by omega) (by simp; omega) ?_)
      intro v' w' hown' hgrow _
      have HO := Lib.hid hown'
      have hb2 : Below w.heap.size w w' := (HB.out.alloc hsz _).grown hgrow (by simp; omega) (fun k e => (HLOW.out k e).1)
      have HB2 := Lib.hid hb2
      clear hown' hgrow hb2 hown
      go_wp2
      go_ret
      refine ⟨v', rfl, ?_, HB2.out⟩
      rw [← HE.out, ← List.append_assoc, byteCells_app, HBY.out]
      have hl2 : (L ++ done ++ [UInt8.ofNat y]).length = n + m + 1 := by rw [List.length_append, List.length_append, HN.out, HM.out]; rfl
      rw [hl2]
      exact HO.out
end Go.Proofs.Ytbfnkmibbieijaa
