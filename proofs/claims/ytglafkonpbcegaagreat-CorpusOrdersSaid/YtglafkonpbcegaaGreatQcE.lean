/-
  WALKS over package corpus: the validator: attributes and tokens.
-/
import Derived.Test.YtglafkonpbcegaaGreatQcD
namespace Go.Proofs.YtglafkonpbcegaaGreat
open Go.RowKit Go.Shelf Go.Lib

set_option maxHeartbeats 400000 in
theorem limited_tok (A : Option Addr) (n cap lim : Nat) (W : World) : Calls Tryz.prog 123 #[.slice A n cap, .int .i64 (lim : Int)] W fun r w' => r = .returned (.int .i64 ((if lim < n then 2 else 0 : Nat) : Int)) ∧ w' = W := by
  by_cases h : lim < n
  · rw [if_pos h]
    go_enter Tryz.func123, Tryz.ntmps123
    go_wp2_with fail
    go_ret
    exact ⟨rfl, rfl⟩
  · rw [if_neg h]
    go_enter Tryz.func123, Tryz.ntmps123
    go_wp2_with fail
    go_ret
    exact ⟨rfl, rfl⟩

set_option maxHeartbeats 400000 in
theorem limited_text (A : Option Addr) (n cap lim : Nat) (W : World) : Calls Tryz.prog 125 #[.slice A n cap, .int .i64 (lim : Int)] W fun r w' => r = .returned (.int .i64 ((if lim < n then 2 else 0 : Nat) : Int)) ∧ w' = W := by
  by_cases h : lim < n
  · rw [if_pos h]
    go_enter Tryz.func125, Tryz.ntmps125
    go_wp2_with fail
    go_ret
    exact ⟨rfl, rfl⟩
  · rw [if_neg h]
    go_enter Tryz.func125, Tryz.ntmps125
    go_wp2_with fail
    go_ret
    exact ⟨rfl, rfl⟩

set_option maxHeartbeats 400000 in
theorem limited_reg (A : Option Addr) (n cap lim : Nat) (W : World) : Calls Tryz.prog 127 #[.slice A n cap, .int .i64 (lim : Int)] W fun r w' => r = .returned (.int .i64 ((if lim < n then 2 else 0 : Nat) : Int)) ∧ w' = W := by
  by_cases h : lim < n
  · rw [if_pos h]
    go_enter Tryz.func127, Tryz.ntmps127
    go_wp2_with fail
    go_ret
    exact ⟨rfl, rfl⟩
  · rw [if_neg h]
    go_enter Tryz.func127, Tryz.ntmps127
    go_wp2_with fail
    go_ret
    exact ⟨rfl, rfl⟩

set_option maxHeartbeats 400000 in
theorem limited_node (A : Option Addr) (n cap lim : Nat) (W : World) : Calls Tryz.prog 133 #[.slice A n cap, .int .i64 (lim : Int)] W fun r w' => r = .returned (.int .i64 ((if lim < n then 2 else 0 : Nat) : Int)) ∧ w' = W := by
  by_cases h : lim < n
  · rw [if_pos h]
    go_enter Tryz.func133, Tryz.ntmps133
    go_wp2_with fail
    go_ret
    exact ⟨rfl, rfl⟩
  · rw [if_neg h]
    go_enter Tryz.func133, Tryz.ntmps133
    go_wp2_with fail
    go_ret
    exact ⟨rfl, rfl⟩

set_option maxHeartbeats 1000000 in
theorem checkValue_any (a : Bs × Bool) (F : ByteArray) (hF : F.size ≤ maxLen) (W : World) :
    Calls Tryz.prog 124 #[.agg #[.string ⟨a.1.toArray⟩, .bool a.2], .string F] W fun e w' => e = .returned (.int .i64 (valX a F.data.toList : Nat)) ∧ Below W.heap.size W w' := by
  have hp := fun W => parse_any F hF W
  have hv := fun W => validValue_any F hF W
  have hx : valX a F.data.toList = if a.2 then (parseL F.data.toList).2 else valE F.data.toList := rfl
  rw [hx]
  obtain ⟨n, st⟩ := a
  simp only
  obtain ⟨N, hN⟩ : ∃ s : ByteArray, (⟨n.toArray⟩ : ByteArray) = s := ⟨_, rfl⟩
  rw [hN]
  obtain ⟨p, hpp⟩ : ∃ p, parseL F.data.toList = p := ⟨_, rfl⟩
  obtain ⟨z, hz⟩ : ∃ z, valE F.data.toList = z := ⟨_, rfl⟩
  rw [hpp] at hp ⊢
  rw [hz] at hv ⊢
  have HP := Lib.hid hp
  have HV := Lib.hid hv
  clear hp hv hN hpp hz hx hF
  cases st with
  | true =>
    go_enter Tryz.func124, Tryz.ntmps124
    go_wp2_with fail
    refine (HP.out _).mono ?_
    rintro e w1 ⟨⟨v, rfl, -⟩, hb⟩
    have HB := Lib.hid (below_alloc _ hb)
    clear hb
    go_wp2_with fail
    go_ret
    exact ⟨rfl, HB.out⟩
  | false =>
    go_enter Tryz.func124, Tryz.ntmps124
    go_wp2_with fail
    refine (HV.out _).mono ?_
    rintro e w1 ⟨rfl, hb⟩
    have HB := Lib.hid (below_alloc _ hb)
    clear hb
    go_wp2_with fail
    go_ret
    exact ⟨rfl, HB.out⟩

set_option maxRecDepth 100000 in
set_option maxHeartbeats 1000000 in
theorem vAttributes {c : Cor} {s : Sv} {o p y : Value} {B : Nat} {W : World} (hV : VAt W B s o p y) (h : CorAt W s c) (hl : c.attrs.length ≤ maxLen) :
    Calls Tryz.prog 74 #[.pointer (some ⟨B, 0, none⟩)] W fun r w' => r = .returned (.int .i64 (attrsE c : Nat)) ∧ w' = W := by
  obtain ⟨c0, -⟩ := hV.c
  obtain ⟨A, cap, hva, -⟩ := h.a.form
  rw [hva] at c0
  unfold attrsE
  obtain ⟨n, hn⟩ : ∃ n, c.attrs.length = n := ⟨_, rfl⟩
  rw [hn] at c0 hl ⊢
  unfold maxLen at hl
  clear hn hva h hV
  by_cases h0 : n = 0
  · subst h0
    rw [if_pos rfl]
    go_enter Tryz.func74, Tryz.ntmps74
    go_wp2_with fail
    go_ret
    exact ⟨rfl, rfl⟩
  · rw [if_neg h0]
    have h0i : ¬ ((n : Int) = 0) := by omega
    by_cases h8 : 8 < n
    · rw [if_pos h8]
      go_enter Tryz.func74, Tryz.ntmps74
      go_wp2_with fail
      go_ret
      exact ⟨rfl, rfl⟩
    · rw [if_neg h8]
      go_enter Tryz.func74, Tryz.ntmps74
      go_wp2_with fail
      go_ret
      exact ⟨rfl, rfl⟩

set_option maxHeartbeats 1000000 in
theorem attribute1_any (x : Bs × Bool) (n : Bs) (B : Nat) (W : World) (hB : W.heap[B]? = some (.cells #[.string ⟨n.toArray⟩] 9 (0, 0))) :
    Calls Tryz.prog 120 (#[.agg #[.string ⟨x.1.toArray⟩, .bool x.2]] ++ #[.pointer (some ⟨B, 0, none⟩)]) W fun e w' => e = .returned (.bool (decide (x.1 = n))) ∧ Below W.heap.size W w' := by
  have c0 := cell_of hB (i := 0) (v := .string ⟨n.toArray⟩) rfl
  have c1 : (W.alloc (.cells #[.string ⟨x.1.toArray⟩, .bool x.2] 71)).cell? ⟨B, 0, none⟩ = some (.string ⟨n.toArray⟩) := cell_of (block_alloc _ hB) rfl
  have he := str_eq x.1 n
  obtain ⟨sa, has⟩ : ∃ s : ByteArray, (⟨x.1.toArray⟩ : ByteArray) = s := ⟨_, rfl⟩
  obtain ⟨sn, hns⟩ : ∃ s : ByteArray, (⟨n.toArray⟩ : ByteArray) = s := ⟨_, rfl⟩
  obtain ⟨xb, hxb⟩ : ∃ s : Bool, x.2 = s := ⟨_, rfl⟩
  rw [has, hns, hxb] at c1
  rw [has, hns] at he
  rw [hns] at c0
  rw [has, hxb, ← he]
  obtain ⟨q, hq⟩ : ∃ q, (sa.toList == sn.toList) = q := ⟨_, rfl⟩
  rw [hq]
  clear he has hns hB hxb
  go_enter Tryz.func120, Tryz.ntmps120
  go_wp2_with fail
  go_ret
  exact ⟨by rw [← hq]; rfl, below_box W _⟩

set_option maxRecDepth 100000 in
set_option maxHeartbeats 2000000 in
theorem vAttribute {c : Cor} {s : Sv} {o p y : Value} {B : Nat} {W : World} (hV : VAt W B s o p y) (h : CorAt W s c) (hl : c.attrs.length ≤ maxLen) (hs : ∀ a ∈ c.attrs, a.1.length ≤ maxLen) (i : Nat) (hi : i < c.attrs.length) :
    Calls Tryz.prog 75 #[.pointer (some ⟨B, 0, none⟩), .int .i64 (i : Int)] W fun r w' => r = .returned (.int .i64 (attrE c i : Nat)) ∧ Below W.heap.size W w' := by
  obtain ⟨c0, -⟩ := hV.c
  obtain ⟨A, cap, hva, hc⟩ := h.a.form
  have hrow := h.a
  rw [hva] at c0 hrow
  obtain ⟨x, hx⟩ : ∃ x, c.attrs[i]? = some x := ⟨_, List.getElem?_eq_getElem hi⟩
  obtain ⟨bk, off, rfl, hbl, hj⟩ := at_attr hrow (by omega)
  obtain ⟨k0, -⟩ := hj i x hx
  have hae : attrE c i = if nameB x.1 = false then 4 else if (c.attrs.take i).any (fun y => decide (y.1 = x.1)) then 5 else 0 := by unfold attrE; rw [hx]
  rw [hae]
  have hxl := hs x (List.mem_of_getElem? hx)
  obtain ⟨n, hn⟩ : ∃ n, c.attrs.length = n := ⟨_, rfl⟩
  rw [hn] at c0 hl hrow hi hc
  have hcon : Calls Tryz.prog 122 #[.slice (some ⟨bk, off, none⟩) i cap, .func (.func 120) #[] #[.pointer (some ⟨W.heap.size, 0, none⟩)]] (W.alloc (.cells #[.string ⟨x.1.toArray⟩] 9)) fun e w' => e = .returned (.bool ((c.attrs.take i).any (fun y => decide (y.1 = x.1)))) ∧ Below W.heap.size W w' := by
    have hb := below_box W (.cells #[.string ⟨x.1.toArray⟩] 9)
    refine (containsFunc_attr stays_attr ((hrow.below stays_attr hb).take (k := i) (by omega)) (by rw [List.length_take]; omega) _ _ (enters_of Tryz.func120 (by kernel_rfl) rfl) (fun y => decide (y.1 = x.1)) ?_).mono fun e w' h => ⟨h.1, hb.trans (h.2.mono hb.size)⟩
    intro V z u0 u1 hV _ hE
    simp only [EAttr, List.cons.injEq, and_true] at hE
    obtain ⟨rfl, rfl⟩ := hE
    exact attribute1_any z x.1 W.heap.size V (block_below (block_new W _) hV (by simp))
  obtain ⟨P, hP⟩ : ∃ s : ByteArray, (⟨x.1.toArray⟩ : ByteArray) = s := ⟨_, rfl⟩
  have hPl : P.data.toList = x.1 := by rw [← hP]
  have hvn := fun W => validName_any P (by rw [Lib.size_eq, hPl]; exact hxl) W
  rw [hPl] at hvn
  rw [hP] at k0 hcon
  obtain ⟨a, ha⟩ : ∃ a, nameB x.1 = a := ⟨_, rfl⟩
  obtain ⟨t, ht⟩ : ∃ t, (c.attrs.take i).any (fun y => decide (y.1 = x.1)) = t := ⟨_, rfl⟩
  rw [ha] at hvn ⊢
  rw [ht] at hcon ⊢
  have HVN := Lib.hid hvn
  have HC := Lib.hid hcon
  obtain ⟨X, hX⟩ : ∃ X, W.alloc (.cells #[.string P] 9) = X := ⟨_, rfl⟩
  have e0 : X.cell? ⟨W.heap.size, 0, none⟩ = some (.string P) := by rw [← hX]; exact cell_of (block_new W _) rfl
  have hbX : Below W.heap.size W X := by rw [← hX]; exact below_box W _
  have d0 : X.cell? ⟨B, 0, none⟩ = some (.slice (some ⟨bk, off, none⟩) n cap) := (hbX.cell hV.lt).trans c0
  rw [hX] at HC
  have HBX := Lib.hid hbX
  have HX := Lib.hid hX
  obtain ⟨N0, hN0⟩ : ∃ N0, W.heap.size = N0 := ⟨_, rfl⟩
  have HN0 := Lib.hid hN0
  rw [hN0] at e0 HC
  have hlt : (i : Int) < (n : Int) := by omega
  have hic : (i : Int) ≤ (cap : Int) := by omega
  unfold maxLen at hl
  clear hcon hvn ht ha hP hPl hX hbX hN0 hj hbl hx hae hn hs hrow h hV hva hxl
  cases a with
  | false =>
    rw [if_pos rfl]
    go_enter Tryz.func75, Tryz.ntmps75
    go_wp2_with fail
    rw [HX.out, HN0.out]
    clear c0 k0
    go_wp2_with fail
    refine (HVN.out _).mono ?_
    rintro e w1 ⟨rfl, rfl⟩
    go_wp2_with fail
    go_ret
    exact ⟨rfl, HN0.out ▸ HBX.out⟩
  | true =>
    rw [if_neg (by decide)]
    go_enter Tryz.func75, Tryz.ntmps75
    go_wp2_with fail
    rw [HX.out, HN0.out]
    clear c0 k0
    go_wp2_with fail
    refine (HVN.out _).mono ?_
    rintro e w1 ⟨rfl, rfl⟩
    go_wp2_with fail
    refine HC.out.mono ?_
    rintro e w2 ⟨rfl, hb2⟩
    have HB2 := Lib.hid hb2
    clear hb2
    cases t with
    | true =>
      go_wp2_with fail
      go_ret
      exact ⟨rfl, by rw [HN0.out]; exact HB2.out⟩
    | false =>
      go_wp2_with fail
      go_ret
      exact ⟨rfl, by rw [HN0.out]; exact HB2.out⟩
end Go.Proofs.YtglafkonpbcegaaGreat
