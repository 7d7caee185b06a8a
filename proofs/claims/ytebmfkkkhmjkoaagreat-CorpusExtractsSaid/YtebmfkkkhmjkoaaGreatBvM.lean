/-
 WALKS over the reference of markup: ValidValue.
-/
import Derived.Test.YtebmfkkkhmjkoaaGreatGpZ
import Derived.Test.YtebmfkkkhmjkoaaGreatVdB
import Derived.Laws.IdiomStrings
namespace Go.Proofs.YtebmfkkkhmjkoaaGreat
open Go.RowKit Go.Shelf Go.Lib

/-- A string's bytes, copied: where they lie. -/
theorem bytes_of (s : ByteArray) (W : World) : ∃ cap W', (convert 9 174 (.string s)).run Tryz.prog W = .ok (.slice (some ⟨W.heap.size, 0, none⟩) s.size cap) W' ∧ Below W.heap.size W W' ∧ ∀ (k : Nat) (h : k < s.data.size), W'.cell? ⟨W.heap.size, k, none⟩ = some (.int .u8 (s.data[k].toNat : Int)) := by
 refine ⟨_, _, run_bytes_of_string W 9 174 5 s Tryz.underlying9 Tryz.underlying174 Tryz.underlying5, ((Below.refl _ W).drew).alloc (Nat.le_refl _) _, fun k h => ?_⟩
 have hb : (W.drew.alloc (.cells (bytesRow s (grownCap W s.size 0 5)) 5 ((bytesRow s (grownCap W s.size 0 5)).size, (bytesRow s (grownCap W s.size 0 5)).size + 1))).heap[W.heap.size]? = some (.cells (bytesRow s (grownCap W s.size 0 5)) 5 ((bytesRow s (grownCap W s.size 0 5)).size, (bytesRow s (grownCap W s.size 0 5)).size + 1)) := block_new W.drew _
 exact cell_of hb (bytesRow_at s _ k h)

set_option maxRecDepth 100000 in
set_option maxHeartbeats 2000000 in
theorem refValue_any (s : ByteArray) (hs : s.size ≤ 400) (w : World) :
 Calls Tryz.prog 144 #[.string s] w fun e w' => e = .returned (.int .i64 (valE s.data.toList : Nat)) ∧ Below w.heap.size w w' := by
 have hv := refValid_any s hs w
 have hsz : s.data.toList.length = s.size := (Lib.size_eq s).symm
 have hve : valE s.data.toList = if 120 < s.size then 2 else if validL s.data.toList = false then 7 else if s.data.toList.any ctlB then 14 else 0 := by
  unfold valE
  rw [hsz]
 rw [hve]
 have hvd : (units s).all (fun u => !badU u) = validL s.data.toList := rfl
 rw [hvd] at hv
 obtain ⟨q, hq⟩ : ∃ q, validL s.data.toList = q := ⟨_, rfl⟩
 rw [hq] at hv ⊢
 have HV := Lib.hid hv
 clear hve hvd hq hv
 by_cases h120 : 120 < s.size
 ·
  rw [if_pos h120]
  go_enter Tryz.func144, Tryz.ntmps144
  go_wp2_with fail
  go_ret
  exact ⟨rfl, Below.refl _ _⟩
 rw [if_neg h120]
 cases q with
 | false =>
   go_enter Tryz.func144, Tryz.ntmps144
   go_wp2_with fail
   refine HV.out.mono ?_
   rintro e w1 ⟨rfl, hb1⟩
   have HB1 := Lib.hid hb1
   clear hb1
   go_wp2_with fail
   go_ret
   exact ⟨rfl, HB1.out⟩
 | true =>
   rw [if_neg (by decide)]
   obtain ⟨p, hp⟩ : ∃ p, s.data.toList.any ctlB = p := ⟨_, rfl⟩
   rw [hp]
   have HP := Lib.hid hp
   obtain ⟨z, hz⟩ : ∃ z : Nat, (if p = true then 14 else 0) = z := ⟨_, rfl⟩
   rw [hz]
   have HZ := Lib.hid hz
   clear hp hz
   go_enter Tryz.func144, Tryz.ntmps144
   go_wp2_with fail
   refine HV.out.mono ?_
   rintro e w1 ⟨rfl, hb1⟩
   obtain ⟨cap, w2, hcv, hb2, hbc⟩ := bytes_of s w1
   have HB2 := Lib.hid (hb1.trans (hb2.mono hb1.size))
   have HBC := Lib.hid hbc
   clear hb1 hb2 hbc
   go_wp2_with fail
   go_loopw [14] (fun i wr => ∃ k : Nat, k ≤ s.size ∧ i = .int .i64 k ∧ wr = w2 ∧ p = (s.data.toList.drop k).any ctlB) (fun i _ => s.size - (Go.RowKit.intOf i).toNat)
   case atStart => exact ⟨0, Nat.zero_le _, rfl, rfl, HP.out.symm⟩
   obtain ⟨k, hk, rfl, rfl, hrel⟩ := hrel
   by_cases hlt : k < s.size
   ·
    have h' : k < s.data.toList.length := by rw [hsz]; exact hlt
    have hd : (s.data.toList.drop k).any ctlB = (ctlN (s.data[k]'hlt).toNat || (s.data.toList.drop (k + 1)).any ctlB) := by
     rw [List.drop_eq_getElem_cons h', List.any_cons]
     rfl
    rw [hd] at hrel
    have c0 := HBC.out k hlt
    obtain ⟨c, hc⟩ : ∃ c, (s.data[k]'hlt).toNat = c := ⟨_, rfl⟩
    rw [hc] at hrel c0
    obtain ⟨b, hb⟩ : ∃ b, ctlN c = b := ⟨_, rfl⟩
    rw [hb] at hrel
    have HR := Lib.hid hrel
    unfold ctlN at hb
    clear hrel hd hc h'
    rcases (by omega : c < 32 ∨ c = 127 ∨ (32 ≤ c ∧ c ≠ 127)) with h | rfl | ⟨h, h2⟩
    ·
     have h3 : (decide ((c : Int) < 32) || ((c : Int) == 127)) = true := by
      simp
      omega
     have hb' : b = true := by rw [← hb]; simp [h]
     subst hb'
     clear hb
     go_wp2_with fail
     go_ret
     exact ⟨by rw [← HZ.out, HR.out]; rfl, HB2.out⟩
    ·
     have hb' : b = true := by rw [← hb]; decide
     subst hb'
     clear hb
     go_wp2_with fail
     go_ret
     exact ⟨by rw [← HZ.out, HR.out]; rfl, HB2.out⟩
    have hb' : b = false := by rw [← hb]; simp; omega
    subst hb'
    have h3 : (decide ((c : Int) < 32) || ((c : Int) == 127)) = false := by
     simp
     omega
    clear hb
    go_wp2_with fail
    exact ⟨⟨k + 1, by omega, by go_num, trivial, HR.out⟩, by simp only [Go.RowKit.intOf]; omega⟩
   have hfin : s.data.toList.drop k = [] := List.drop_eq_nil_of_le (by rw [hsz]; omega)
   rw [hfin] at hrel
   have HR := Lib.hid hrel
   clear hfin hrel
   go_wp2_with fail
   go_ret
   exact ⟨by rw [← HZ.out, HR.out]; rfl, HB2.out⟩
end Go.Proofs.YtebmfkkkhmjkoaaGreat
