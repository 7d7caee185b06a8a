/-
  WALKS over package corpus: the validator: tokens.
-/
import Derived.Test.YtglafkonpbcegaaGreatQcE
import Derived.Deep.RegionHeld3
import Derived.Deep.DrawnRows
namespace Go.Proofs.YtglafkonpbcegaaGreat
open Go.RowKit Go.Shelf Go.Lib
set_option linter.unusedVariables false

set_option maxRecDepth 100000 in
set_option maxHeartbeats 1000000 in
theorem vTokens {c : Cor} {s : Sv} {o p y : Value} {B : Nat} {W : World} (hV : VAt W B s o p y) (h : CorAt W s c) :
    Calls Tryz.prog 76 #[.pointer (some ⟨B, 0, none⟩)] W fun r w' => r = .returned (.int .i64 (toksE c : Nat)) ∧ w' = W := by
  obtain ⟨-, c1, -⟩ := hV.c
  obtain ⟨A, cap, hva, -⟩ := h.t.form
  rw [hva] at c1
  unfold toksE
  obtain ⟨n, hn⟩ : ∃ n, c.toks.length = n := ⟨_, rfl⟩
  rw [hn] at c1 ⊢
  have HL := Lib.hid (limited_tok A n cap 4096 W)
  obtain ⟨z, hz⟩ : ∃ z : Nat, (if 4096 < n then 2 else 0) = z := ⟨_, rfl⟩
  rw [hz] at HL ⊢
  clear hz
  clear hn hva h hV
  go_enter Tryz.func76, Tryz.ntmps76
  go_wp2_with fail
  refine HL.out.mono ?_
  rintro r w1 ⟨rfl, rfl⟩
  go_wp2_with fail
  go_ret
  exact ⟨rfl, rfl⟩
theorem valsE_step {al : List (Bs × Bool)} {vs : Fs} {k : Nat} {a : Bs × Bool} {v : Bs} (ha : al[k]? = some a) (hv : vs[k]? = some v) : valsE (al.drop k) (vs.drop k) = if valX a v = 0 then valsE (al.drop (k + 1)) (vs.drop (k + 1)) else valX a v := by
  obtain ⟨hk, rfl⟩ := List.getElem?_eq_some_iff.1 ha
  obtain ⟨hk2, rfl⟩ := List.getElem?_eq_some_iff.1 hv
  rw [List.drop_eq_getElem_cons hk, List.drop_eq_getElem_cons hk2, valsE]

set_option maxRecDepth 100000 in
set_option maxHeartbeats 4000000 in
theorem vToken {c : Cor} {s : Sv} {o p y : Value} {B : Nat} {W : World} (hV : VAt W B s o p y) (h : CorAt W s c) (hl : c.attrs.length ≤ maxLen) (ht : c.toks.length ≤ maxLen) (i : Nat) (hi : i < c.toks.length)
    (hs : ∀ t ∈ c.toks, t.length ≤ maxLen ∧ ∀ v ∈ t, v.length ≤ maxLen) :
    Calls Tryz.prog 77 #[.pointer (some ⟨B, 0, none⟩), .int .i64 (i : Int)] W fun r w' => r = .returned (.int .i64 (tokE c i : Nat)) ∧ Below W.heap.size W w' := by
  obtain ⟨c0, c1, -⟩ := hV.c
  obtain ⟨A, cap, hva, hc⟩ := h.a.form
  obtain ⟨A2, cap2, hvt, hc2⟩ := h.t.form
  have hra := h.a
  have hrt := h.t
  rw [hva] at c0 hra
  rw [hvt] at c1 hrt
  obtain ⟨x, hx⟩ : ∃ x, c.toks[i]? = some x := ⟨_, List.getElem?_eq_getElem hi⟩
  obtain ⟨bk, off, rfl, hbl, hj⟩ := at_tok hrt (by omega)
  obtain ⟨tv, k0, hrv⟩ := hj i x hx
  obtain ⟨A3, cap3, htv, hc3⟩ := hrv.form
  rw [htv] at k0 hrv
  have hae : tokE c i = if x.length ≠ c.attrs.length then 15 else valsE c.attrs x := by unfold tokE; rw [hx]
  rw [hae]
  obtain ⟨hxl, hxs⟩ := hs x (List.mem_of_getElem? hx)
  have HRA := Lib.hid (fun W' (hb : Below W.heap.size W W') => hra.below stays_attr hb)
  have HRV := Lib.hid (fun W' (hb : Below W.heap.size W W') => hrv.below stays_str hb)
  have HVA := Lib.hid (fun W' (hb : Below W.heap.size W W') => hV.below hb)
  obtain ⟨n, hn⟩ : ∃ n, c.attrs.length = n := ⟨_, rfl⟩
  obtain ⟨m, hm⟩ : ∃ m, c.toks.length = m := ⟨_, rfl⟩
  obtain ⟨l, hxn⟩ : ∃ l, x.length = l := ⟨_, rfl⟩
  rw [hn] at c0 hl hc HRA ⊢
  rw [hm] at c1 ht hc2 hi
  rw [hxn] at k0 hxl hc3 HRV ⊢
  have HN := Lib.hid hn
  have HXN := Lib.hid hxn
  have HXS := Lib.hid hxs
  have hlt : (i : Int) < (m : Int) := by omega
  unfold maxLen at hl ht hxl
  obtain ⟨r0, hr0⟩ : ∃ r0, (if l ≠ n then 15 else valsE c.attrs x) = r0 := ⟨_, rfl⟩
  rw [hr0]
  have HSZ := Lib.hid (Below.refl W.heap.size W)
  clear hn hm hxn hxs hs hra hrt hrv hx hj h hV hva hvt htv hae hbl
  by_cases hne : l = n
  · subst hne
    rw [if_neg (by simp)] at hr0
    have HR : Hid (r0 = valsE (c.attrs.drop 0) (x.drop 0)) := Lib.hid hr0.symm
    clear hr0
    go_enter Tryz.func77, Tryz.ntmps77
    go_wp2_with fail
    go_loopw [32] (fun iv wr => ∃ k : Nat, k ≤ l ∧ iv = .int .i64 k ∧ Hid (r0 = valsE (c.attrs.drop k) (x.drop k)) ∧ Below W.heap.size W wr) (fun iv _ => l - (Go.RowKit.intOf iv).toNat)
    case atStart => exact ⟨0, Nat.zero_le _, rfl, HR, Below.refl _ _⟩
    case round =>
      clear HR c0 c1 k0
      obtain ⟨k, hk, rfl, hp, hb⟩ := hrel
      by_cases hlt2 : k < l
      · obtain ⟨a, ha⟩ : ∃ a, c.attrs[k]? = some a := ⟨_, List.getElem?_eq_getElem (by rw [HN.out]; omega)⟩
        obtain ⟨v, hv⟩ : ∃ v, x[k]? = some v := ⟨_, List.getElem?_eq_getElem (by rw [HXN.out]; omega)⟩
        obtain ⟨b1, o1, rfl, hbl1, hj1⟩ := at_attr (HRA.out wr hb) (by rw [HN.out]; omega)
        obtain ⟨b2, o2, rfl, hbl2, hj2⟩ := at_str (HRV.out wr hb) (by rw [HXN.out]; omega)
        obtain ⟨e0, e1⟩ := hj1 k a ha
        have f0 := hj2 k v hv
        have hstep := hp.out
        rw [valsE_step ha hv] at hstep
        have hcv := fun W => checkValue_any a ⟨v.toArray⟩ (by rw [Lib.size_eq]; exact HXS.out v (List.mem_of_getElem? hv)) W
        simp only at hcv
        obtain ⟨z, hz⟩ : ∃ z, valX a v = z := ⟨_, rfl⟩
        rw [hz] at hcv hstep
        obtain ⟨F, hF⟩ : ∃ F : ByteArray, (⟨v.toArray⟩ : ByteArray) = F := ⟨_, rfl⟩
        obtain ⟨G, hG⟩ : ∃ G : ByteArray, (⟨a.1.toArray⟩ : ByteArray) = G := ⟨_, rfl⟩
        obtain ⟨st, hst⟩ : ∃ st, a.2 = st := ⟨_, rfl⟩
        rw [hF] at f0 hcv
        rw [hG] at e0 hcv
        rw [hst] at e1 hcv
        have HCV := Lib.hid hcv
        have HST := Lib.hid hstep
        obtain ⟨X, hX⟩ : ∃ X, wr.alloc (.cells #[.string G, .bool st] 71) = X := ⟨_, rfl⟩
        have g0 : X.cell? ⟨wr.heap.size, 0, none⟩ = some (.string G) := by rw [← hX]; exact cell_of (block_new wr _) rfl
        have g1 : X.cell? ⟨wr.heap.size, 1, none⟩ = some (.bool st) := by rw [← hX]; exact cell_of (block_new wr _) rfl
        have hbX : Below wr.heap.size wr X := by rw [← hX]; exact below_box wr _
        have g2 : X.cell? ⟨b2, o2 + k, none⟩ = some (.string F) := (hbX.cell hbl2).trans f0
        have hlt3 : wr.heap.size < X.heap.size := by rw [← hX, alloc_sz]; omega
        have hlt4 : b2 < X.heap.size := by omega
        obtain ⟨N0, hN0⟩ : ∃ N0, wr.heap.size = N0 := ⟨_, rfl⟩
        have HN0 := Lib.hid hN0
        have HX := Lib.hid hX
        have HBX := Lib.hid (hb.trans (hbX.mono hb.size))
        rw [hN0] at g0 g1 hlt3
        have HCL := Lib.hid (fun W (h : Below X.drew.heap.size X.drew W) => And.intro ((h.cell (p := ⟨N0, 0, none⟩) hlt3).trans g0) (And.intro ((h.cell (p := ⟨N0, 1, none⟩) hlt3).trans g1) ((h.cell (p := ⟨b2, o2 + k, none⟩) hlt4).trans g2)))
        have hki : (k : Int) < (l : Int) := by omega
        clear hcv hstep hz hF hG hst hX hbX hN0 ha hv hj1 hj2 hb hp hbl1 hbl2 hlt3 hlt4
        go_wp2_with fail
        rw [HX.out, HN0.out]
        clear e0 e1 f0
        go_wp2_with fail
        go_region_held3 (fun w' => w'.cell? ⟨N0, 0, none⟩ = some (.string G) ∧ w'.cell? ⟨N0, 1, none⟩ = some (.bool st) ∧ w'.cell? ⟨b2, o2 + k, none⟩ = some (.string F))
          (first
            | go_keep
            | (exact HCL.out _ hb3)
            | fail)
          ((first
            | (go_at_call 124; (with_reducible refine (HCV.out _).mono ?_); rintro e w3 ⟨rfl, hb3⟩)
            | fail))
        have HB4 := Lib.hid (HBX.out.drew.trans (hb3.mono HBX.out.size))
        clear hb3 g0 g1 g2
        by_cases h0 : z = 0
        · subst h0
          have hst := HST.out
          rw [if_pos rfl] at hst
          have HST3 := Lib.hid hst
          clear hst HST
          go_wp2_with fail
          exact ⟨⟨k + 1, by omega, by go_num, HST3, HB4.out⟩, by simp only [Go.RowKit.intOf]; omega⟩
        · have hst := HST.out
          rw [if_neg h0] at hst
          have h0i : ¬ ((z : Int) = 0) := by omega
          have HST3 := Lib.hid hst
          clear hst HST h0
          go_wp2_with fail
          go_ret
          exact ⟨by rw [HST3.out]; rfl, HB4.out⟩
      · obtain rfl : k = l := by omega
        have hr1 : r0 = 0 := by
          rw [hp.out, List.drop_eq_nil_of_le (by rw [HN.out]; exact Nat.le_refl _)]
          rfl
        have HB := Lib.hid hb
        subst hr1
        clear hb hp
        go_wp2_with fail
        go_ret
        exact ⟨rfl, HB.out⟩
  · rw [if_pos hne] at hr0
    subst hr0
    have hnei : ¬ ((l : Int) = (n : Int)) := by omega
    go_enter Tryz.func77, Tryz.ntmps77
    go_wp2_with fail
    go_ret
    exact ⟨rfl, HSZ.out⟩
end Go.Proofs.YtglafkonpbcegaaGreat
