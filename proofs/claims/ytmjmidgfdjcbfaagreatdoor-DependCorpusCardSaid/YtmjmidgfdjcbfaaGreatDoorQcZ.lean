/-
  WALKS over the library: slices.IndexFunc and ContainsFunc at the element types of package corpus.
  WALKS over package corpus: FindText, TextAt.
  WALKS over package corpus: the validator: attributes, tokens, texts, what a pair and a value is.
  WALKS over package corpus: checkPairs, checkValue.
  WALKS over package corpus: the validator: attributes and tokens.
  WALKS over package corpus: the validator: tokens.
  WALKS over package corpus: the validator: texts.
-/
import Derived.Test.YtmjmidgfdjcbfaaGreatDoorQaR
import Derived.Test.YtmjmidgfdjcbfaaGreatDoorQbM
import Derived.BigQuiet
import Derived.Deep.QuietTactic
import Derived.Test.YtmjmidgfdjcbfaaGreatDoorMkA
import Derived.Test.YtmjmidgfdjcbfaaGreatDoorQpM
import Derived.Deep.RegionHeld3
import Derived.Deep.DrawnRows
namespace Go.Proofs.YtmjmidgfdjcbfaaGreatDoor
open Go.RowKit Go.Shelf Go.Lib

theorem findZ_hit {α : Type} {p : α → Bool} {xs : List α} {k : Nat} {x : α} (hx : xs[k]? = some x) (hp : p x = true) (h : ∀ (j : Nat) (y : α), j < k → xs[j]? = some y → p y = false) : findZ p xs = (k : Int) := findZ_at hx hp h
theorem findZ_miss {α : Type} {p : α → Bool} {xs : List α} {k : Nat} (hk : k = xs.length) (h : ∀ (j : Nat) (y : α), j < k → xs[j]? = some y → p y = false) : findZ p xs = -1 := by
  rcases findZ_spec p xs with ⟨e, _⟩ | ⟨i, x, hi, hp, _, _⟩
  · exact e
  · have := (List.getElem?_eq_some_iff.1 hi).1
    rw [h i x (by omega) hi] at hp
    cases hp
theorem any_findZ {α : Type} (p : α → Bool) (xs : List α) : decide (0 ≤ findZ p xs) = xs.any p := by
  rcases findZ_spec p xs with ⟨e, h⟩ | ⟨i, x, hi, hp, _, e⟩
  · rw [e, Bool.eq_iff_iff]
    simp only [decide_eq_true_eq, List.any_eq_true]
    exact ⟨fun h => by omega, fun ⟨x, hx, hp⟩ => by rw [h x hx] at hp; cases hp⟩
  · rw [e, Bool.eq_iff_iff]
    simp only [decide_eq_true_eq, List.any_eq_true]
    exact ⟨fun _ => ⟨x, List.mem_of_getElem? hi, hp⟩, fun _ => by omega⟩

set_option maxRecDepth 100000 in
set_option maxHeartbeats 2000000 in
theorem indexFunc_text {α : Type} {E : World → List Value → α → Prop} (hE : Stays E) {w : World} {v : Value} {xs : List α} (hv : Rows 4 E w v xs) (hl : xs.length ≤ maxLen) (g : FuncId) (lb : Array Value)
    (eg : ∀ args w, (callFunc g args).run Tryz.prog w = .ok (.enter g args) w) (p : α → Bool)
    (hp : ∀ (W : World) (x : α) (u0 u1 u2 u3 : Value), Below w.heap.size w W → x ∈ xs → E W [u0, u1, u2, u3] x → Calls Tryz.prog g (#[.agg #[u0, u1, u2, u3]] ++ lb) W fun e w' => e = .returned (.bool (p x)) ∧ Below W.heap.size W w') :
    Calls Tryz.prog 82 #[v, .func (.func g) #[] lb] w fun e w' => e = .returned (.int .i64 (findZ p xs)) ∧ Below w.heap.size w w' := by
  obtain ⟨A, cap, rfl, hc⟩ := hv.form
  obtain ⟨n, hn⟩ : ∃ n, xs.length = n := ⟨_, rfl⟩
  have HV := Lib.hid (fun W (h : Below w.heap.size w W) => hv.below hE h)
  rw [hn] at hc hl HV ⊢
  have HN := Lib.hid hn
  have HP := Lib.hid hp
  unfold maxLen at hl
  clear hn hv hp hE
  go_enter Tryz.func82, Tryz.ntmps82
  go_wp2_with fail
  go_loopw [5, 8] (fun _ i wr => ∃ k : Nat, k ≤ n ∧ i = .int .i64 k ∧ Hid (∀ (j : Nat) (y : α), j < k → xs[j]? = some y → p y = false) ∧ Below w.heap.size w wr) (fun _ i _ => n - (Go.RowKit.intOf i).toNat)
  case atStart => exact ⟨0, Nat.zero_le _, rfl, Lib.hid (fun j y h => absurd h (by omega)), Below.refl _ _⟩
  case round =>
    obtain ⟨k, hk, rfl, hs, hb⟩ := hrel
    by_cases hlt : k < n
    · obtain ⟨x, hx⟩ : ∃ x, xs[k]? = some x := ⟨_, List.getElem?_eq_getElem (by rw [HN.out]; omega)⟩
      obtain ⟨bk, off, rfl, hbl, hj⟩ := (HV.out wr hb).at' (by rw [HN.out]; omega)
      obtain ⟨cs, hcl, hec, hcell⟩ := hj k x hx
      obtain ⟨u0, u1, u2, u3, rfl⟩ : ∃ u0 u1 u2 u3, cs = [u0, u1, u2, u3] := by
        match cs, hcl with
        | [u0, u1, u2, u3], _ => exact ⟨u0, u1, u2, u3, rfl⟩
      have c0 := hcell 0 _ rfl
      have c1 := hcell 1 _ rfl
      have c2 := hcell 2 _ rfl
      have c3 := hcell 3 _ rfl
      rw [Nat.add_zero] at c0
      have hcall := HP.out wr x u0 u1 u2 u3 hb (List.mem_of_getElem? hx) hec
      obtain ⟨q, hq⟩ : ∃ q, p x = q := ⟨_, rfl⟩
      rw [hq] at hcall
      have HC := Lib.hid hcall
      have HX := Lib.hid hx
      have HQ := Lib.hid hq
      have HB := Lib.hid hb
      clear hcall hx hq hb hj hec hcell hbl
      cases q with
      | true =>
        go_wp2_with (go_at_fn g; refine HC.out.mono ?_; rintro e w' ⟨rfl, hb'⟩)
        go_ret
        exact ⟨by rw [findZ_hit HX.out HQ.out hs.out]; rfl, HB.out.trans (hb'.mono HB.out.size)⟩
      | false =>
        go_wp2_with (go_at_fn g; refine HC.out.mono ?_; rintro e w' ⟨rfl, hb'⟩; have HB' := Lib.hid hb'; clear hb')
        refine ⟨⟨k + 1, by omega, by go_num, Lib.hid (fun j y hj hy => ?_), HB.out.trans (HB'.out.mono HB.out.size)⟩, by simp only [Go.RowKit.intOf]; omega⟩
        by_cases e : j = k
        · subst e
          rw [HX.out] at hy
          cases hy
          exact HQ.out
        · exact hs.out j y (by omega) hy
    · obtain rfl : k = n := by omega
      have HB := Lib.hid hb
      clear hb
      go_wp2_with fail
      go_ret
      exact ⟨by rw [findZ_miss HN.out.symm hs.out]; rfl, HB.out⟩

set_option maxRecDepth 100000 in
set_option maxHeartbeats 2000000 in
theorem indexFunc_attr {α : Type} {E : World → List Value → α → Prop} (hE : Stays E) {w : World} {v : Value} {xs : List α} (hv : Rows 2 E w v xs) (hl : xs.length ≤ maxLen) (g : FuncId) (lb : Array Value)
    (eg : ∀ args w, (callFunc g args).run Tryz.prog w = .ok (.enter g args) w) (p : α → Bool)
    (hp : ∀ (W : World) (x : α) (u0 u1 : Value), Below w.heap.size w W → x ∈ xs → E W [u0, u1] x → Calls Tryz.prog g (#[.agg #[u0, u1]] ++ lb) W fun e w' => e = .returned (.bool (p x)) ∧ Below W.heap.size W w') :
    Calls Tryz.prog 79 #[v, .func (.func g) #[] lb] w fun e w' => e = .returned (.int .i64 (findZ p xs)) ∧ Below w.heap.size w w' := by
  obtain ⟨A, cap, rfl, hc⟩ := hv.form
  obtain ⟨n, hn⟩ : ∃ n, xs.length = n := ⟨_, rfl⟩
  have HV := Lib.hid (fun W (h : Below w.heap.size w W) => hv.below hE h)
  rw [hn] at hc hl HV ⊢
  have HN := Lib.hid hn
  have HP := Lib.hid hp
  unfold maxLen at hl
  clear hn hv hp hE
  go_enter Tryz.func79, Tryz.ntmps79
  go_wp2_with fail
  go_loopw [5, 8] (fun _ i wr => ∃ k : Nat, k ≤ n ∧ i = .int .i64 k ∧ Hid (∀ (j : Nat) (y : α), j < k → xs[j]? = some y → p y = false) ∧ Below w.heap.size w wr) (fun _ i _ => n - (Go.RowKit.intOf i).toNat)
  case atStart => exact ⟨0, Nat.zero_le _, rfl, Lib.hid (fun j y h => absurd h (by omega)), Below.refl _ _⟩
  case round =>
    obtain ⟨k, hk, rfl, hs, hb⟩ := hrel
    by_cases hlt : k < n
    · obtain ⟨x, hx⟩ : ∃ x, xs[k]? = some x := ⟨_, List.getElem?_eq_getElem (by rw [HN.out]; omega)⟩
      obtain ⟨bk, off, rfl, hbl, hj⟩ := (HV.out wr hb).at' (by rw [HN.out]; omega)
      obtain ⟨cs, hcl, hec, hcell⟩ := hj k x hx
      obtain ⟨u0, u1, rfl⟩ : ∃ u0 u1, cs = [u0, u1] := by
        match cs, hcl with
        | [u0, u1], _ => exact ⟨u0, u1, rfl⟩
      have c0 := hcell 0 _ rfl
      have c1 := hcell 1 _ rfl
      rw [Nat.add_zero] at c0
      have hcall := HP.out wr x u0 u1 hb (List.mem_of_getElem? hx) hec
      obtain ⟨q, hq⟩ : ∃ q, p x = q := ⟨_, rfl⟩
      rw [hq] at hcall
      have HC := Lib.hid hcall
      have HX := Lib.hid hx
      have HQ := Lib.hid hq
      have HB := Lib.hid hb
      clear hcall hx hq hb hj hec hcell hbl
      cases q with
      | true =>
        go_wp2_with (go_at_fn g; refine HC.out.mono ?_; rintro e w' ⟨rfl, hb'⟩)
        go_ret
        exact ⟨by rw [findZ_hit HX.out HQ.out hs.out]; rfl, HB.out.trans (hb'.mono HB.out.size)⟩
      | false =>
        go_wp2_with (go_at_fn g; refine HC.out.mono ?_; rintro e w' ⟨rfl, hb'⟩; have HB' := Lib.hid hb'; clear hb')
        refine ⟨⟨k + 1, by omega, by go_num, Lib.hid (fun j y hj hy => ?_), HB.out.trans (HB'.out.mono HB.out.size)⟩, by simp only [Go.RowKit.intOf]; omega⟩
        by_cases e : j = k
        · subst e
          rw [HX.out] at hy
          cases hy
          exact HQ.out
        · exact hs.out j y (by omega) hy
    · obtain rfl : k = n := by omega
      have HB := Lib.hid hb
      clear hb
      go_wp2_with fail
      go_ret
      exact ⟨by rw [findZ_miss HN.out.symm hs.out]; rfl, HB.out⟩

set_option maxHeartbeats 1000000 in
theorem containsFunc_attr {α : Type} {E : World → List Value → α → Prop} (hE : Stays E) {w : World} {v : Value} {xs : List α} (hv : Rows 2 E w v xs) (hl : xs.length ≤ maxLen) (g : FuncId) (lb : Array Value)
    (eg : ∀ args w, (callFunc g args).run Tryz.prog w = .ok (.enter g args) w) (p : α → Bool)
    (hp : ∀ (W : World) (x : α) (u0 u1 : Value), Below w.heap.size w W → x ∈ xs → E W [u0, u1] x → Calls Tryz.prog g (#[.agg #[u0, u1]] ++ lb) W fun e w' => e = .returned (.bool (p x)) ∧ Below W.heap.size W w') :
    Calls Tryz.prog 50 #[v, .func (.func g) #[] lb] w fun e w' => e = .returned (.bool (xs.any p)) ∧ Below w.heap.size w w' := by
  have HI := Lib.hid (indexFunc_attr hE hv hl g lb eg p hp)
  rw [← any_findZ]
  obtain ⟨A, cap, rfl, -⟩ := hv.form
  obtain ⟨z, hz⟩ : ∃ z, findZ p xs = z := ⟨_, rfl⟩
  obtain ⟨n, hn⟩ : ∃ n, xs.length = n := ⟨_, rfl⟩
  rw [hz, hn] at HI
  rw [hz, hn]
  clear hz hn hv hp hE hl eg
  go_enter Tryz.func50, Tryz.ntmps50
  go_wp2_with fail
  refine HI.out.mono ?_
  rintro e w' ⟨rfl, hb'⟩
  have HB := Lib.hid hb'
  clear hb'
  go_wp2_with fail
  go_ret
  exact ⟨rfl, HB.out⟩

set_option maxRecDepth 100000 in
set_option maxHeartbeats 2000000 in
theorem indexFunc_reg {α : Type} {E : World → List Value → α → Prop} (hE : Stays E) {w : World} {v : Value} {xs : List α} (hv : Rows 4 E w v xs) (hl : xs.length ≤ maxLen) (g : FuncId) (lb : Array Value)
    (eg : ∀ args w, (callFunc g args).run Tryz.prog w = .ok (.enter g args) w) (p : α → Bool)
    (hp : ∀ (W : World) (x : α) (u0 u1 u2 u3 : Value), Below w.heap.size w W → x ∈ xs → E W [u0, u1, u2, u3] x → Calls Tryz.prog g (#[.agg #[u0, u1, u2, u3]] ++ lb) W fun e w' => e = .returned (.bool (p x)) ∧ Below W.heap.size W w') :
    Calls Tryz.prog 89 #[v, .func (.func g) #[] lb] w fun e w' => e = .returned (.int .i64 (findZ p xs)) ∧ Below w.heap.size w w' := by
  obtain ⟨A, cap, rfl, hc⟩ := hv.form
  obtain ⟨n, hn⟩ : ∃ n, xs.length = n := ⟨_, rfl⟩
  have HV := Lib.hid (fun W (h : Below w.heap.size w W) => hv.below hE h)
  rw [hn] at hc hl HV ⊢
  have HN := Lib.hid hn
  have HP := Lib.hid hp
  unfold maxLen at hl
  clear hn hv hp hE
  go_enter Tryz.func89, Tryz.ntmps89
  go_wp2_with fail
  go_loopw [5, 8] (fun _ i wr => ∃ k : Nat, k ≤ n ∧ i = .int .i64 k ∧ Hid (∀ (j : Nat) (y : α), j < k → xs[j]? = some y → p y = false) ∧ Below w.heap.size w wr) (fun _ i _ => n - (Go.RowKit.intOf i).toNat)
  case atStart => exact ⟨0, Nat.zero_le _, rfl, Lib.hid (fun j y h => absurd h (by omega)), Below.refl _ _⟩
  case round =>
    obtain ⟨k, hk, rfl, hs, hb⟩ := hrel
    by_cases hlt : k < n
    · obtain ⟨x, hx⟩ : ∃ x, xs[k]? = some x := ⟨_, List.getElem?_eq_getElem (by rw [HN.out]; omega)⟩
      obtain ⟨bk, off, rfl, hbl, hj⟩ := (HV.out wr hb).at' (by rw [HN.out]; omega)
      obtain ⟨cs, hcl, hec, hcell⟩ := hj k x hx
      obtain ⟨u0, u1, u2, u3, rfl⟩ : ∃ u0 u1 u2 u3, cs = [u0, u1, u2, u3] := by
        match cs, hcl with
        | [u0, u1, u2, u3], _ => exact ⟨u0, u1, u2, u3, rfl⟩
      have c0 := hcell 0 _ rfl
      have c1 := hcell 1 _ rfl
      have c2 := hcell 2 _ rfl
      have c3 := hcell 3 _ rfl
      rw [Nat.add_zero] at c0
      have hcall := HP.out wr x u0 u1 u2 u3 hb (List.mem_of_getElem? hx) hec
      obtain ⟨q, hq⟩ : ∃ q, p x = q := ⟨_, rfl⟩
      rw [hq] at hcall
      have HC := Lib.hid hcall
      have HX := Lib.hid hx
      have HQ := Lib.hid hq
      have HB := Lib.hid hb
      clear hcall hx hq hb hj hec hcell hbl
      cases q with
      | true =>
        go_wp2_with (go_at_fn g; refine HC.out.mono ?_; rintro e w' ⟨rfl, hb'⟩)
        go_ret
        exact ⟨by rw [findZ_hit HX.out HQ.out hs.out]; rfl, HB.out.trans (hb'.mono HB.out.size)⟩
      | false =>
        go_wp2_with (go_at_fn g; refine HC.out.mono ?_; rintro e w' ⟨rfl, hb'⟩; have HB' := Lib.hid hb'; clear hb')
        refine ⟨⟨k + 1, by omega, by go_num, Lib.hid (fun j y hj hy => ?_), HB.out.trans (HB'.out.mono HB.out.size)⟩, by simp only [Go.RowKit.intOf]; omega⟩
        by_cases e : j = k
        · subst e
          rw [HX.out] at hy
          cases hy
          exact HQ.out
        · exact hs.out j y (by omega) hy
    · obtain rfl : k = n := by omega
      have HB := Lib.hid hb
      clear hb
      go_wp2_with fail
      go_ret
      exact ⟨by rw [findZ_miss HN.out.symm hs.out]; rfl, HB.out⟩

set_option maxHeartbeats 1000000 in
theorem containsFunc_reg {α : Type} {E : World → List Value → α → Prop} (hE : Stays E) {w : World} {v : Value} {xs : List α} (hv : Rows 4 E w v xs) (hl : xs.length ≤ maxLen) (g : FuncId) (lb : Array Value)
    (eg : ∀ args w, (callFunc g args).run Tryz.prog w = .ok (.enter g args) w) (p : α → Bool)
    (hp : ∀ (W : World) (x : α) (u0 u1 u2 u3 : Value), Below w.heap.size w W → x ∈ xs → E W [u0, u1, u2, u3] x → Calls Tryz.prog g (#[.agg #[u0, u1, u2, u3]] ++ lb) W fun e w' => e = .returned (.bool (p x)) ∧ Below W.heap.size W w') :
    Calls Tryz.prog 61 #[v, .func (.func g) #[] lb] w fun e w' => e = .returned (.bool (xs.any p)) ∧ Below w.heap.size w w' := by
  have HI := Lib.hid (indexFunc_reg hE hv hl g lb eg p hp)
  rw [← any_findZ]
  obtain ⟨A, cap, rfl, -⟩ := hv.form
  obtain ⟨z, hz⟩ : ∃ z, findZ p xs = z := ⟨_, rfl⟩
  obtain ⟨n, hn⟩ : ∃ n, xs.length = n := ⟨_, rfl⟩
  rw [hz, hn] at HI
  rw [hz, hn]
  clear hz hn hv hp hE hl eg
  go_enter Tryz.func61, Tryz.ntmps61
  go_wp2_with fail
  refine HI.out.mono ?_
  rintro e w' ⟨rfl, hb'⟩
  have HB := Lib.hid hb'
  clear hb'
  go_wp2_with fail
  go_ret
  exact ⟨rfl, HB.out⟩

set_option maxRecDepth 100000 in
set_option maxHeartbeats 2000000 in
theorem indexFunc_int {α : Type} {E : World → List Value → α → Prop} (hE : Stays E) {w : World} {v : Value} {xs : List α} (hv : Rows 1 E w v xs) (hl : xs.length ≤ maxLen) (g : FuncId) (lb : Array Value)
    (eg : ∀ args w, (callFunc g args).run Tryz.prog w = .ok (.enter g args) w) (p : α → Bool)
    (hp : ∀ (W : World) (x : α) (u0 : Value), Below w.heap.size w W → x ∈ xs → E W [u0] x → Calls Tryz.prog g (#[u0] ++ lb) W fun e w' => e = .returned (.bool (p x)) ∧ Below W.heap.size W w') :
    Calls Tryz.prog 33 #[v, .func (.func g) #[] lb] w fun e w' => e = .returned (.int .i64 (findZ p xs)) ∧ Below w.heap.size w w' := by
  obtain ⟨A, cap, rfl, hc⟩ := hv.form
  obtain ⟨n, hn⟩ : ∃ n, xs.length = n := ⟨_, rfl⟩
  have HV := Lib.hid (fun W (h : Below w.heap.size w W) => hv.below hE h)
  rw [hn] at hc hl HV ⊢
  have HN := Lib.hid hn
  have HP := Lib.hid hp
  unfold maxLen at hl
  clear hn hv hp hE
  go_enter Tryz.func33, Tryz.ntmps33
  go_wp2_with fail
  go_loopw [5, 8] (fun _ i wr => ∃ k : Nat, k ≤ n ∧ i = .int .i64 k ∧ Hid (∀ (j : Nat) (y : α), j < k → xs[j]? = some y → p y = false) ∧ Below w.heap.size w wr) (fun _ i _ => n - (Go.RowKit.intOf i).toNat)
  case atStart => exact ⟨0, Nat.zero_le _, rfl, Lib.hid (fun j y h => absurd h (by omega)), Below.refl _ _⟩
  case round =>
    obtain ⟨k, hk, rfl, hs, hb⟩ := hrel
    by_cases hlt : k < n
    · obtain ⟨x, hx⟩ : ∃ x, xs[k]? = some x := ⟨_, List.getElem?_eq_getElem (by rw [HN.out]; omega)⟩
      obtain ⟨bk, off, rfl, hbl, hj⟩ := (HV.out wr hb).at' (by rw [HN.out]; omega)
      obtain ⟨cs, hcl, hec, hcell⟩ := hj k x hx
      obtain ⟨u0, rfl⟩ : ∃ u0, cs = [u0] := by
        match cs, hcl with
        | [u0], _ => exact ⟨u0, rfl⟩
      have c0 := hcell 0 _ rfl
      rw [Nat.mul_one, Nat.add_zero] at c0
      have hcall := HP.out wr x u0 hb (List.mem_of_getElem? hx) hec
      obtain ⟨q, hq⟩ : ∃ q, p x = q := ⟨_, rfl⟩
      rw [hq] at hcall
      have HC := Lib.hid hcall
      have HX := Lib.hid hx
      have HQ := Lib.hid hq
      have HB := Lib.hid hb
      clear hcall hx hq hb hj hec hcell hbl
      cases q with
      | true =>
        go_wp2_with (go_at_fn g; refine HC.out.mono ?_; rintro e w' ⟨rfl, hb'⟩)
        go_ret
        exact ⟨by rw [findZ_hit HX.out HQ.out hs.out]; rfl, HB.out.trans (hb'.mono HB.out.size)⟩
      | false =>
        go_wp2_with (go_at_fn g; refine HC.out.mono ?_; rintro e w' ⟨rfl, hb'⟩; have HB' := Lib.hid hb'; clear hb')
        refine ⟨⟨k + 1, by omega, by go_num, Lib.hid (fun j y hj hy => ?_), HB.out.trans (HB'.out.mono HB.out.size)⟩, by simp only [Go.RowKit.intOf]; omega⟩
        by_cases e : j = k
        · subst e
          rw [HX.out] at hy
          cases hy
          exact HQ.out
        · exact hs.out j y (by omega) hy
    · obtain rfl : k = n := by omega
      have HB := Lib.hid hb
      clear hb
      go_wp2_with fail
      go_ret
      exact ⟨by rw [findZ_miss HN.out.symm hs.out]; rfl, HB.out⟩

set_option maxHeartbeats 1000000 in
theorem containsFunc_int {α : Type} {E : World → List Value → α → Prop} (hE : Stays E) {w : World} {v : Value} {xs : List α} (hv : Rows 1 E w v xs) (hl : xs.length ≤ maxLen) (g : FuncId) (lb : Array Value)
    (eg : ∀ args w, (callFunc g args).run Tryz.prog w = .ok (.enter g args) w) (p : α → Bool)
    (hp : ∀ (W : World) (x : α) (u0 : Value), Below w.heap.size w W → x ∈ xs → E W [u0] x → Calls Tryz.prog g (#[u0] ++ lb) W fun e w' => e = .returned (.bool (p x)) ∧ Below W.heap.size W w') :
    Calls Tryz.prog 90 #[v, .func (.func g) #[] lb] w fun e w' => e = .returned (.bool (xs.any p)) ∧ Below w.heap.size w w' := by
  have HI := Lib.hid (indexFunc_int hE hv hl g lb eg p hp)
  rw [← any_findZ]
  obtain ⟨A, cap, rfl, -⟩ := hv.form
  obtain ⟨z, hz⟩ : ∃ z, findZ p xs = z := ⟨_, rfl⟩
  obtain ⟨n, hn⟩ : ∃ n, xs.length = n := ⟨_, rfl⟩
  rw [hz, hn] at HI
  rw [hz, hn]
  clear hz hn hv hp hE hl eg
  go_enter Tryz.func90, Tryz.ntmps90
  go_wp2_with fail
  refine HI.out.mono ?_
  rintro e w' ⟨rfl, hb'⟩
  have HB := Lib.hid hb'
  clear hb'
  go_wp2_with fail
  go_ret
  exact ⟨rfl, HB.out⟩

set_option maxRecDepth 100000 in
set_option maxHeartbeats 2000000 in
theorem indexFunc_str {α : Type} {E : World → List Value → α → Prop} (hE : Stays E) {w : World} {v : Value} {xs : List α} (hv : Rows 1 E w v xs) (hl : xs.length ≤ maxLen) (g : FuncId) (lb : Array Value)
    (eg : ∀ args w, (callFunc g args).run Tryz.prog w = .ok (.enter g args) w) (p : α → Bool)
    (hp : ∀ (W : World) (x : α) (u0 : Value), Below w.heap.size w W → x ∈ xs → E W [u0] x → Calls Tryz.prog g (#[u0] ++ lb) W fun e w' => e = .returned (.bool (p x)) ∧ Below W.heap.size W w') :
    Calls Tryz.prog 70 #[v, .func (.func g) #[] lb] w fun e w' => e = .returned (.int .i64 (findZ p xs)) ∧ Below w.heap.size w w' := by
  obtain ⟨A, cap, rfl, hc⟩ := hv.form
  obtain ⟨n, hn⟩ : ∃ n, xs.length = n := ⟨_, rfl⟩
  have HV := Lib.hid (fun W (h : Below w.heap.size w W) => hv.below hE h)
  rw [hn] at hc hl HV ⊢
  have HN := Lib.hid hn
  have HP := Lib.hid hp
  unfold maxLen at hl
  clear hn hv hp hE
  go_enter Tryz.func70, Tryz.ntmps70
  go_wp2_with fail
  go_loopw [5, 8] (fun _ i wr => ∃ k : Nat, k ≤ n ∧ i = .int .i64 k ∧ Hid (∀ (j : Nat) (y : α), j < k → xs[j]? = some y → p y = false) ∧ Below w.heap.size w wr) (fun _ i _ => n - (Go.RowKit.intOf i).toNat)
  case atStart => exact ⟨0, Nat.zero_le _, rfl, Lib.hid (fun j y h => absurd h (by omega)), Below.refl _ _⟩
  case round =>
    obtain ⟨k, hk, rfl, hs, hb⟩ := hrel
    by_cases hlt : k < n
    · obtain ⟨x, hx⟩ : ∃ x, xs[k]? = some x := ⟨_, List.getElem?_eq_getElem (by rw [HN.out]; omega)⟩
      obtain ⟨bk, off, rfl, hbl, hj⟩ := (HV.out wr hb).at' (by rw [HN.out]; omega)
      obtain ⟨cs, hcl, hec, hcell⟩ := hj k x hx
      obtain ⟨u0, rfl⟩ : ∃ u0, cs = [u0] := by
        match cs, hcl with
        | [u0], _ => exact ⟨u0, rfl⟩
      have c0 := hcell 0 _ rfl
      rw [Nat.mul_one, Nat.add_zero] at c0
      have hcall := HP.out wr x u0 hb (List.mem_of_getElem? hx) hec
      obtain ⟨q, hq⟩ : ∃ q, p x = q := ⟨_, rfl⟩
      rw [hq] at hcall
      have HC := Lib.hid hcall
      have HX := Lib.hid hx
      have HQ := Lib.hid hq
      have HB := Lib.hid hb
      clear hcall hx hq hb hj hec hcell hbl
      cases q with
      | true =>
        go_wp2_with (go_at_fn g; refine HC.out.mono ?_; rintro e w' ⟨rfl, hb'⟩)
        go_ret
        exact ⟨by rw [findZ_hit HX.out HQ.out hs.out]; rfl, HB.out.trans (hb'.mono HB.out.size)⟩
      | false =>
        go_wp2_with (go_at_fn g; refine HC.out.mono ?_; rintro e w' ⟨rfl, hb'⟩; have HB' := Lib.hid hb'; clear hb')
        refine ⟨⟨k + 1, by omega, by go_num, Lib.hid (fun j y hj hy => ?_), HB.out.trans (HB'.out.mono HB.out.size)⟩, by simp only [Go.RowKit.intOf]; omega⟩
        by_cases e : j = k
        · subst e
          rw [HX.out] at hy
          cases hy
          exact HQ.out
        · exact hs.out j y (by omega) hy
    · obtain rfl : k = n := by omega
      have HB := Lib.hid hb
      clear hb
      go_wp2_with fail
      go_ret
      exact ⟨by rw [findZ_miss HN.out.symm hs.out]; rfl, HB.out⟩

set_option maxHeartbeats 1000000 in
theorem containsFunc_str {α : Type} {E : World → List Value → α → Prop} (hE : Stays E) {w : World} {v : Value} {xs : List α} (hv : Rows 1 E w v xs) (hl : xs.length ≤ maxLen) (g : FuncId) (lb : Array Value)
    (eg : ∀ args w, (callFunc g args).run Tryz.prog w = .ok (.enter g args) w) (p : α → Bool)
    (hp : ∀ (W : World) (x : α) (u0 : Value), Below w.heap.size w W → x ∈ xs → E W [u0] x → Calls Tryz.prog g (#[u0] ++ lb) W fun e w' => e = .returned (.bool (p x)) ∧ Below W.heap.size W w') :
    Calls Tryz.prog 35 #[v, .func (.func g) #[] lb] w fun e w' => e = .returned (.bool (xs.any p)) ∧ Below w.heap.size w w' := by
  have HI := Lib.hid (indexFunc_str hE hv hl g lb eg p hp)
  rw [← any_findZ]
  obtain ⟨A, cap, rfl, -⟩ := hv.form
  obtain ⟨z, hz⟩ : ∃ z, findZ p xs = z := ⟨_, rfl⟩
  obtain ⟨n, hn⟩ : ∃ n, xs.length = n := ⟨_, rfl⟩
  rw [hz, hn] at HI
  rw [hz, hn]
  clear hz hn hv hp hE hl eg
  go_enter Tryz.func35, Tryz.ntmps35
  go_wp2_with fail
  refine HI.out.mono ?_
  rintro e w' ⟨rfl, hb'⟩
  have HB := Lib.hid hb'
  clear hb'
  go_wp2_with fail
  go_ret
  exact ⟨rfl, HB.out⟩
end Go.Proofs.YtmjmidgfdjcbfaaGreatDoor
namespace Go.Proofs.YtmjmidgfdjcbfaaGreatDoor
open Go.RowKit Go.Shelf Go.Lib

theorem str_eq (a c : Bs) : ((⟨a.toArray⟩ : ByteArray).toList == (⟨c.toArray⟩ : ByteArray).toList) = decide (a = c) := by
  rw [Lib.toList_data, Lib.toList_data, Bool.eq_iff_iff]
  simp
theorem below_alloc {w w' : World} (o : Obj) (h : Below (w.alloc o).heap.size (w.alloc o) w') : Below w.heap.size w w' :=
  ((Below.refl _ w).alloc (Nat.le_refl _) o).trans (h.mono (by simp))
theorem alloc_sz (w : World) (o : Obj) : (w.alloc o).heap.size = w.heap.size + 1 := by simp
theorem below_box (w : World) (o : Obj) : Below w.heap.size w (w.alloc o) := (Below.refl _ w).alloc (Nat.le_refl _) o

set_option maxHeartbeats 1000000 in
theorem findText1_any (x : Ex) (mv : Value) (n : Bs) (B : Nat) (W : World) (hB : W.heap[B]? = some (.cells #[.string ⟨n.toArray⟩] 9 (0, 0))) :
    Calls Tryz.prog 83 (#[.agg #[.string ⟨x.name.toArray⟩, .int .i64 x.b, .int .i64 x.e, mv]] ++ #[.pointer (some ⟨B, 0, none⟩)]) W fun e w' => e = .returned (.bool (decide (x.name = n))) ∧ Below W.heap.size W w' := by
  have c0 := cell_of hB (i := 0) (v := .string ⟨n.toArray⟩) rfl
  have c1 : (W.alloc (.cells #[.string ⟨x.name.toArray⟩, .int .i64 x.b, .int .i64 x.e, mv] 29)).cell? ⟨B, 0, none⟩ = some (.string ⟨n.toArray⟩) := cell_of (block_alloc _ hB) rfl
  have he := str_eq x.name n
  obtain ⟨sa, has⟩ : ∃ s : ByteArray, (⟨x.name.toArray⟩ : ByteArray) = s := ⟨_, rfl⟩
  obtain ⟨sn, hns⟩ : ∃ s : ByteArray, (⟨n.toArray⟩ : ByteArray) = s := ⟨_, rfl⟩
  obtain ⟨xb, hxb⟩ : ∃ s : Int, x.b = s := ⟨_, rfl⟩
  obtain ⟨xe, hxe⟩ : ∃ s : Int, x.e = s := ⟨_, rfl⟩
  rw [has, hns, hxb, hxe] at c1
  rw [has, hns] at he
  rw [hns] at c0
  rw [has, hxb, hxe, ← he]
  obtain ⟨q, hq⟩ : ∃ q, (sa.toList == sn.toList) = q := ⟨_, rfl⟩
  rw [hq]
  clear he has hns hB hxb hxe
  go_enter Tryz.func83, Tryz.ntmps83
  go_wp2_with fail
  go_ret
  exact ⟨by rw [← hq]; rfl, below_box W _⟩

set_option maxHeartbeats 1000000 in
theorem textAt1_any (x : Ex) (mv : Value) (pos : Int) (B : Nat) (W : World) (hB : W.heap[B]? = some (.cells #[.int .i64 pos] 3 (0, 0))) :
    Calls Tryz.prog 94 (#[.agg #[.string ⟨x.name.toArray⟩, .int .i64 x.b, .int .i64 x.e, mv]] ++ #[.pointer (some ⟨B, 0, none⟩)]) W fun e w' => e = .returned (.bool (decide (x.b ≤ pos) && decide (pos < x.e))) ∧ Below W.heap.size W w' := by
  have c0 := cell_of hB (i := 0) (v := .int .i64 pos) rfl
  have c1 : (W.alloc (.cells #[.string ⟨x.name.toArray⟩, .int .i64 x.b, .int .i64 x.e, mv] 29)).cell? ⟨B, 0, none⟩ = some (.int .i64 pos) := cell_of (block_alloc _ hB) rfl
  obtain ⟨sa, has⟩ : ∃ s : ByteArray, (⟨x.name.toArray⟩ : ByteArray) = s := ⟨_, rfl⟩
  obtain ⟨xb, hxb⟩ : ∃ s : Int, x.b = s := ⟨_, rfl⟩
  obtain ⟨xe, hxe⟩ : ∃ s : Int, x.e = s := ⟨_, rfl⟩
  rw [has, hxb, hxe] at c1
  rw [has, hxb, hxe]
  clear has hB hxb hxe
  by_cases h1 : xb ≤ pos
  · go_enter Tryz.func94, Tryz.ntmps94
    go_wp2_with fail
    go_ret
    exact ⟨by simp [h1], below_box W _⟩
  · have hf : decide (xb ≤ pos) = false := by simp; omega
    rw [hf]
    go_enter Tryz.func94, Tryz.ntmps94
    go_wp2_with fail
    go_ret
    exact ⟨by first | rfl | simp, below_box W _⟩

set_option maxRecDepth 100000 in
set_option maxHeartbeats 1000000 in
theorem findText_any {w : World} (s : Sv) {l : List Ex} (hx : Rows 4 EEx w s.vx l) (hl : l.length ≤ maxLen) (n : Bs) :
    Calls Tryz.prog 54 #[.agg s.arr, .string ⟨n.toArray⟩] w fun e w' => e = .returned (.int .i64 (findZ (fun t => decide (t.name = n)) l)) ∧ Below w.heap.size w w' := by
  have hW : ∀ w1 w2 : World, w1 = w.alloc (.cells s.arr 35) → w2 = w1.alloc (.cells #[.string ⟨n.toArray⟩] 9) → Calls Tryz.prog 82 #[s.vx, .func (.func 83) #[] #[.pointer (some ⟨w1.heap.size, 0, none⟩)]] w2 fun e w' => e = .returned (.int .i64 (findZ (fun t => decide (t.name = n)) l)) ∧ Below w.heap.size w w' := by
    rintro w1 w2 h1 rfl
    have hb : Below w.heap.size w w1 := by rw [h1]; exact below_box w _
    have hb2 : Below w1.heap.size w1 (w1.alloc (.cells #[.string ⟨n.toArray⟩] 9)) := below_box w1 _
    have hb3 := hb.trans (hb2.mono hb.size)
    refine (indexFunc_text stays_ex (hx.below stays_ex hb3) hl _ _ (enters_of Tryz.func83 (by kernel_rfl) rfl) (fun t => decide (t.name = n)) ?_).mono fun e w' h => ⟨h.1, hb3.trans (h.2.mono hb3.size)⟩
    intro W x u0 u1 u2 u3 hW _ hE
    obtain ⟨mv, he, _⟩ := hE
    simp only [List.cons.injEq, and_true] at he
    obtain ⟨rfl, rfl, rfl, rfl⟩ := he
    exact findText1_any x u3 n w1.heap.size W (block_below (block_new w1 _) hW (by simp))
  have HW := Lib.hid (hW _ _ rfl rfl)
  obtain ⟨z, hz⟩ : ∃ z, findZ (fun t : Ex => decide (t.name = n)) l = z := ⟨_, rfl⟩
  rw [hz] at HW ⊢
  obtain ⟨F, hF⟩ : ∃ s : ByteArray, (⟨n.toArray⟩ : ByteArray) = s := ⟨_, rfl⟩
  rw [hF] at HW ⊢
  unfold Sv.arr at HW ⊢
  obtain ⟨va, vt, vx, vr, vn, vh, vl⟩ := s
  simp only at HW ⊢
  rw [alloc_sz] at HW
  clear hz hF hx hl hW
  go_enter Tryz.func54, Tryz.ntmps54
  go_wp2_with fail
  refine HW.out.mono ?_
  rintro e w' ⟨rfl, hb'⟩
  have HB := Lib.hid hb'
  clear hb'
  go_wp2_with fail
  go_ret
  exact ⟨rfl, HB.out⟩

set_option maxRecDepth 100000 in
set_option maxHeartbeats 1000000 in
theorem textAt_any {w : World} (s : Sv) {l : List Ex} (hx : Rows 4 EEx w s.vx l) (hl : l.length ≤ maxLen) (pos : Int) :
    Calls Tryz.prog 68 #[.agg s.arr, .int .i64 pos] w fun e w' => e = .returned (.int .i64 (findZ (fun t => decide (t.b ≤ pos) && decide (pos < t.e)) l)) ∧ Below w.heap.size w w' := by
  have hW : ∀ w1 w2 : World, w1 = w.alloc (.cells s.arr 35) → w2 = w1.alloc (.cells #[.int .i64 pos] 3) → Calls Tryz.prog 82 #[s.vx, .func (.func 94) #[] #[.pointer (some ⟨w1.heap.size, 0, none⟩)]] w2 fun e w' => e = .returned (.int .i64 (findZ (fun t => decide (t.b ≤ pos) && decide (pos < t.e)) l)) ∧ Below w.heap.size w w' := by
    rintro w1 w2 h1 rfl
    have hb : Below w.heap.size w w1 := by rw [h1]; exact below_box w _
    have hb2 : Below w1.heap.size w1 (w1.alloc (.cells #[.int .i64 pos] 3)) := below_box w1 _
    have hb3 := hb.trans (hb2.mono hb.size)
    refine (indexFunc_text stays_ex (hx.below stays_ex hb3) hl _ _ (enters_of Tryz.func94 (by kernel_rfl) rfl) (fun t => decide (t.b ≤ pos) && decide (pos < t.e)) ?_).mono fun e w' h => ⟨h.1, hb3.trans (h.2.mono hb3.size)⟩
    intro W x u0 u1 u2 u3 hW _ hE
    obtain ⟨mv, he, _⟩ := hE
    simp only [List.cons.injEq, and_true] at he
    obtain ⟨rfl, rfl, rfl, rfl⟩ := he
    exact textAt1_any x u3 pos w1.heap.size W (block_below (block_new w1 _) hW (by simp))
  have HW := Lib.hid (hW _ _ rfl rfl)
  obtain ⟨z, hz⟩ : ∃ z, findZ (fun t : Ex => decide (t.b ≤ pos) && decide (pos < t.e)) l = z := ⟨_, rfl⟩
  rw [hz] at HW ⊢
  unfold Sv.arr at HW ⊢
  obtain ⟨va, vt, vx, vr, vn, vh, vl⟩ := s
  simp only at HW ⊢
  rw [alloc_sz] at HW
  clear hz hx hl hW
  go_enter Tryz.func68, Tryz.ntmps68
  go_wp2_with fail
  refine HW.out.mono ?_
  rintro e w' ⟨rfl, hb'⟩
  have HB := Lib.hid hb'
  clear hb'
  go_wp2_with fail
  go_ret
  exact ⟨rfl, HB.out⟩
end Go.Proofs.YtmjmidgfdjcbfaaGreatDoor
namespace Go.Proofs.YtmjmidgfdjcbfaaGreatDoor
open Go.RowKit Go.Shelf Go.Lib

theorem Rows.take {α : Type} {sz : Nat} {E : World → List Value → α → Prop} {w : World} {A : Option Addr} {n cap : Nat} {xs : List α} (h : Rows sz E w (.slice A n cap) xs) {k : Nat} (hk : k ≤ n) : Rows sz E w (.slice A k cap) (xs.take k) := by
  obtain ⟨h1, h2⟩ := h.len
  have := h.part (lo := 0) (hi := k) (c' := cap) (Nat.zero_le _) (by omega) (by omega) A (fun _ b off e => by rw [e, Nat.zero_mul, Nat.add_zero])
  rw [Nat.sub_zero, List.drop_zero] at this
  exact this
/-- The validator's block. -/
def VAt (w : World) (B : Nat) (s : Sv) (o p y : Value) : Prop := w.heap[B]? = some (.cells #[s.va, s.vt, s.vx, s.vr, s.vn, s.vh, s.vl, o, p, y] 45 (0, 0))
theorem VAt.lt {w : World} {B : Nat} {s : Sv} {o p y : Value} (h : VAt w B s o p y) : B < w.heap.size := (Array.getElem?_eq_some_iff.1 h).1
theorem VAt.below {w w' : World} {B : Nat} {s : Sv} {o p y : Value} (h : VAt w B s o p y) (hb : Below w.heap.size w w') : VAt w' B s o p y := block_below h hb h.lt
theorem VAt.c {w : World} {B : Nat} {s : Sv} {o p y : Value} (h : VAt w B s o p y) : w.cell? ⟨B, 0, none⟩ = some s.va ∧ w.cell? ⟨B, 1, none⟩ = some s.vt ∧ w.cell? ⟨B, 2, none⟩ = some s.vx ∧ w.cell? ⟨B, 3, none⟩ = some s.vr ∧ w.cell? ⟨B, 4, none⟩ = some s.vn ∧ w.cell? ⟨B, 5, none⟩ = some s.vh ∧ w.cell? ⟨B, 6, none⟩ = some s.vl ∧ w.cell? ⟨B, 7, none⟩ = some o ∧ w.cell? ⟨B, 8, none⟩ = some p ∧ w.cell? ⟨B, 9, none⟩ = some y :=
  ⟨cell_of h rfl, cell_of h rfl, cell_of h rfl, cell_of h rfl, cell_of h rfl, cell_of h rfl, cell_of h rfl, cell_of h rfl, cell_of h rfl, cell_of h rfl⟩

set_option maxRecDepth 100000 in
set_option maxHeartbeats 2000000 in
theorem withinText_any {c : Cor} {s : Sv} {o p y : Value} {B : Nat} {W : World} (hV : VAt W B s o p y) (hx : Rows 4 EEx W s.vx c.texts) (hl : c.texts.length ≤ maxLen) (hT : ∀ i, i < c.texts.length → textE c i = 0) (b e : Int) :
    Calls Tryz.prog 57 #[.pointer (some ⟨B, 0, none⟩), .int .i64 b, .int .i64 e] W fun r w' => r = .returned (.bool (within c b e)) ∧ Below W.heap.size W w' := by
  have ht := textAt_any s hx hl b
  obtain ⟨c0, c1, c2, c3, c4, c5, c6, -, -, -⟩ := hV.c
  have HVA := Lib.hid (fun w' (h : Below W.heap.size W w') => hV.below h)
  have HX := Lib.hid (fun w' (h : Below W.heap.size W w') => hx.below stays_ex h)
  have hw := within_eq hT b e
  have hta : findZ (fun t : Ex => decide (t.b ≤ b) && decide (b < t.e)) c.texts = textAt c b := rfl
  rw [hta] at ht
  obtain ⟨va, vt, vx, vr, vn, vh, vl⟩ := s
  simp only [Sv.arr] at ht c0 c1 c2 c3 c4 c5 c6
  obtain ⟨A, cap, hvx, hc⟩ := hx.form
  simp only at hvx
  subst hvx
  obtain ⟨q, hq⟩ : ∃ q, within c b e = q := ⟨_, rfl⟩
  rw [hq] at hw ⊢
  rcases textAt_spec c b with hm | ⟨i, t, hi, h1, h2, hm⟩
  · rw [hm] at ht hw
    have hqf : q = false := by rw [hw]; simp
    subst hqf
    have HT := Lib.hid ht
    clear ht hw hq hta hm hT hx hV hl
    by_cases hbe : b < e
    · go_enter Tryz.func57, Tryz.ntmps57
      go_wp2_with fail
      refine HT.out.mono ?_
      rintro r w1 ⟨rfl, hb1⟩
      have HB := Lib.hid hb1
      clear hb1
      go_wp2_with fail
      go_ret
      exact ⟨rfl, HB.out⟩
    · go_enter Tryz.func57, Tryz.ntmps57
      go_wp2_with fail
      refine HT.out.mono ?_
      rintro r w1 ⟨rfl, hb1⟩
      have HB := Lib.hid hb1
      clear hb1
      go_wp2_with fail
      go_ret
      exact ⟨rfl, HB.out⟩
  · rw [hm] at ht hw
    have hqv : q = (decide (b < e) && decide (e ≤ t.e)) := by
      rw [hw]
      simp [hi]
    have hil : i < c.texts.length := (List.getElem?_eq_some_iff.1 hi).1
    obtain ⟨n, hn⟩ : ∃ n, c.texts.length = n := ⟨_, rfl⟩
    rw [hn] at hil hl c2 ht hc
    unfold maxLen at hl
    have HN := Lib.hid hn
    have HT := Lib.hid ht
    have HI := Lib.hid hi
    have HQ := Lib.hid hqv
    clear ht hw hq hta hm hT hx hV h1 h2 hi hn hqv
    by_cases hbe : b < e
    · go_enter Tryz.func57, Tryz.ntmps57
      go_wp2_with fail
      refine HT.out.mono ?_
      rintro r w1 ⟨rfl, hb1⟩
      obtain ⟨-, -, d2, -⟩ := (HVA.out w1 hb1).c
      simp only at d2
      obtain ⟨bk, off, rfl, -, hj⟩ := at_ex (HX.out w1 hb1) (by rw [HN.out]; omega)
      obtain ⟨mv, -, -, -, k2, -⟩ := hj i t HI.out
      rw [HN.out] at d2
      obtain ⟨te, hte⟩ : ∃ te, t.e = te := ⟨_, rfl⟩
      rw [hte] at k2
      have HTE := Lib.hid hte
      have HB := Lib.hid hb1
      clear hb1 hj hte
      have hz : (0 : Int) ≤ (i : Int) := by omega
      go_wp2_with fail
      go_ret
      exact ⟨by rw [HQ.out, HTE.out]; simp [hbe], HB.out⟩
    · go_enter Tryz.func57, Tryz.ntmps57
      go_wp2_with fail
      refine HT.out.mono ?_
      rintro r w1 ⟨rfl, hb1⟩
      have HB := Lib.hid hb1
      clear hb1
      go_wp2_with fail
      go_ret
      have hf : decide (b < e) = false := by simp; omega
      exact ⟨by rw [HQ.out, hf]; rfl, HB.out⟩
end Go.Proofs.YtmjmidgfdjcbfaaGreatDoor
namespace Go.Proofs.YtmjmidgfdjcbfaaGreatDoor
open Go.RowKit Go.Shelf Go.Lib

/-- The name in front of pair k. -/
def prevN (ps : List (Bs × Bs)) (k : Nat) : Option Bs := if k = 0 then none else (ps[k - 1]?).map (·.1)
theorem pairsGo_step {ps : List (Bs × Bs)} {k : Nat} {p : Bs × Bs} (h : ps[k]? = some p) : pairsGo (prevN ps k) (ps.drop k) = if nameB p.1 = false then 4 else if (prevN ps k).any (fun q => !decide (q < p.1)) then 6 else if valE p.2 = 0 then pairsGo (prevN ps (k + 1)) (ps.drop (k + 1)) else valE p.2 := by
  obtain ⟨hk, rfl⟩ := List.getElem?_eq_some_iff.1 h
  rw [List.drop_eq_getElem_cons hk, pairsGo]
  have : prevN ps (k + 1) = some ps[k].1 := by unfold prevN; rw [if_neg (by omega), Nat.add_sub_cancel, h]; rfl
  rw [this]

set_option maxRecDepth 100000 in
set_option maxHeartbeats 4000000 in
theorem checkPairs_any {w : World} {v : Value} {ps : List (Bs × Bs)} (hv : Rows 2 EPair w v ps) (hl : ps.length ≤ maxLen) (hs : ∀ p ∈ ps, p.1.length ≤ maxLen ∧ p.2.length ≤ maxLen) :
    Calls Tryz.prog 55 #[v] w fun e w' => e = .returned (.int .i64 (pairsE ps : Nat)) ∧ Below w.heap.size w w' := by
  obtain ⟨A, cap, rfl, hc⟩ := hv.form
  obtain ⟨n, hn⟩ : ∃ n, ps.length = n := ⟨_, rfl⟩
  have hpe : pairsE ps = if 8 < n then 2 else pairsGo none ps := by unfold pairsE; rw [hn]
  have HV := Lib.hid (fun W (h : Below w.heap.size w W) => hv.below stays_pair h)
  rw [hn] at hc hl HV ⊢
  have HN := Lib.hid hn
  have HSZ := Lib.hid hs
  obtain ⟨r, hr⟩ : ∃ r, pairsE ps = r := ⟨_, rfl⟩
  rw [hr] at hpe ⊢
  unfold maxLen at hl
  clear hn hv hs hr
  by_cases h8 : 8 < n
  · rw [if_pos h8] at hpe
    subst hpe
    go_enter Tryz.func55, Tryz.ntmps55
    go_wp2_with fail
    go_ret
    exact ⟨rfl, Below.refl _ _⟩
  · rw [if_neg h8] at hpe
    have HPE : Hid (r = pairsGo (prevN ps 0) (ps.drop 0)) := Lib.hid hpe
    clear hpe
    go_enter Tryz.func55, Tryz.ntmps55
    go_wp2_with fail
    go_loopw [11] (fun i wr => ∃ k : Nat, k ≤ n ∧ i = .int .i64 k ∧ Hid (r = pairsGo (prevN ps k) (ps.drop k)) ∧ Below w.heap.size w wr) (fun i _ => n - (Go.RowKit.intOf i).toNat)
    case atStart => exact ⟨0, Nat.zero_le _, rfl, HPE, Below.refl _ _⟩
    case round =>
      clear HPE
      obtain ⟨k, hk, rfl, hp, hb⟩ := hrel
      by_cases hlt : k < n
      · obtain ⟨x, hx⟩ : ∃ x, ps[k]? = some x := ⟨_, List.getElem?_eq_getElem (by rw [HN.out]; omega)⟩
        obtain ⟨bk, off, rfl, hbl, hj⟩ := at_pair (HV.out wr hb) (by rw [HN.out]; omega)
        obtain ⟨c0, c1⟩ := hj k x hx
        have hstep := hp.out
        rw [pairsGo_step hx] at hstep
        obtain ⟨hz1, hz2⟩ := HSZ.out x (List.mem_of_getElem? hx)
        obtain ⟨P, hP⟩ : ∃ s : ByteArray, (⟨x.1.toArray⟩ : ByteArray) = s := ⟨_, rfl⟩
        obtain ⟨Q, hQ⟩ : ∃ s : ByteArray, (⟨x.2.toArray⟩ : ByteArray) = s := ⟨_, rfl⟩
        have hPl : P.data.toList = x.1 := by rw [← hP]
        have hQl : Q.data.toList = x.2 := by rw [← hQ]
        rw [hP] at c0
        rw [hQ] at c1
        have hvn := fun W => validName_any P (by rw [Lib.size_eq, hPl]; exact hz1) W
        have hvv := fun W => validValue_any Q (by rw [Lib.size_eq, hQl]; exact hz2) W
        rw [hPl] at hvn
        rw [hQl] at hvv
        obtain ⟨a, ha⟩ : ∃ a, nameB x.1 = a := ⟨_, rfl⟩
        obtain ⟨z, hz⟩ : ∃ z, valE x.2 = z := ⟨_, rfl⟩
        rw [ha] at hvn hstep
        rw [hz] at hvv hstep
        have HVN := Lib.hid hvn
        have HVV := Lib.hid hvv
        have HB := Lib.hid hb
        have hsz := hb.size
        have hbA := below_box wr (.cells #[.string P, .string Q] 137)
        have HBA := Lib.hid (hb.trans (hbA.mono hsz))
        have hgt : (k : Int) < (n : Int) := by omega
        obtain ⟨X, hX⟩ : ∃ X, wr.alloc (.cells #[.string P, .string Q] 137) = X := ⟨_, rfl⟩
        have e0 : X.cell? ⟨wr.heap.size, 0, none⟩ = some (.string P) := by rw [← hX]; exact cell_of (block_new wr _) rfl
        have e1 : X.cell? ⟨wr.heap.size, 1, none⟩ = some (.string Q) := by rw [← hX]; exact cell_of (block_new wr _) rfl
        have hf0 : X.frozen? ⟨wr.heap.size, 0, none⟩ = false := by rw [← hX]; exact frozen_of (block_new wr _)
        rw [hX] at HBA
        have HXX := Lib.hid hX
        have HE1 := Lib.hid e1
        have HSX := Lib.hid (show wr.heap.size < X.heap.size by rw [← hX, alloc_sz]; omega)
        obtain ⟨N0, hN0⟩ : ∃ N0, wr.heap.size = N0 := ⟨_, rfl⟩
        rw [hN0] at e0 HE1 HSX hf0
        have HN0 := Lib.hid hN0
        cases a with
        | false =>
          rw [if_pos rfl] at hstep
          subst hstep
          clear hvn hvv hb hbA hj hx hP hQ ha hz hX e1 hPl hQl hN0 hsz hz1 hz2
          go_wp2_with fail
          rw [HXX.out, HN0.out]
          clear c0 c1
          go_wp2_with fail
          refine (HVN.out _).mono ?_
          rintro e w1 ⟨rfl, rfl⟩
          go_wp2_with fail
          go_ret
          exact ⟨rfl, HBA.out⟩
        | true =>
          rw [if_neg (by decide)] at hstep
          have hany : (prevN ps k).any (fun q => !decide (q < x.1)) = (decide (k ≠ 0) && !decide (((ps[k - 1]?).map (·.1)).getD [] < x.1)) := by
            unfold prevN
            by_cases h0 : k = 0
            · rw [if_pos h0]; simp [h0]
            · rw [if_neg h0]
              have : ps[k - 1]? = some (ps[k - 1]'(by rw [HN.out]; omega)) := List.getElem?_eq_getElem _
              rw [this]
              simp [h0]
          rw [hany] at hstep
          have hgo : ∀ m : Nat, k = m + 1 → ∃ R : ByteArray, X.cell? ⟨bk, off + m * 2, none⟩ = some (.string R) ∧ Op.bytesLess R.toList P.toList = decide (((ps[k - 1]?).map (·.1)).getD [] < x.1) := by
            intro m hm
            obtain ⟨y, hy⟩ : ∃ y, ps[m]? = some y := ⟨_, List.getElem?_eq_getElem (by rw [HN.out]; omega)⟩
            refine ⟨⟨y.1.toArray⟩, ?_, ?_⟩
            · rw [← hX]
              exact Lib.cell?_alloc_some _ (hj m y hy).1
            · rw [Lib.toList_data, Lib.toList_data, hPl, less_lt, hm, Nat.add_sub_cancel, hy]
              rfl
          obtain ⟨t, ht⟩ : ∃ t, decide (((ps[k - 1]?).map (·.1)).getD [] < x.1) = t := ⟨_, rfl⟩
          rw [ht] at hgo hstep
          have HST := Lib.hid hstep
          have HGO := Lib.hid hgo
          clear hvn hvv hb hbA hj hx hP hQ ha hz hX hPl hQl hN0 hsz hz1 hz2 hany hgo ht hp hstep
          have hHX : ∀ n, Hid (Below w.heap.size w (X.drewN n)) := fun n => Lib.hid (below_drewN HBA.out n)
          have HHX := Lib.hid hHX
          clear hHX
          have hze : ∀ n : Nat, ((z : Int) == 0) = decide (z = 0) := fun _ => by
            by_cases h : z = 0
            · simp [h]
            · have : ¬ ((z : Int) = 0) := by omega
              simp [h]
          have HZE := Lib.hid (hze 0)
          clear hze
          cases k with
          | zero =>
            have hst := HST.out
            simp only [ne_eq, not_true_eq_false, decide_false, Bool.false_and, Bool.false_eq_true, if_false] at hst
            have HST2 := Lib.hid hst
            clear hst HST HGO
            simp only [Nat.zero_mul, Nat.add_zero] at c0 c1
            go_wp2_with fail
            rw [HXX.out, HN0.out]
            clear c0 c1
            go_wp2_with fail
            refine (HVN.out _).mono ?_
            rintro e w1 ⟨rfl, rfl⟩
            go_wp2_with fail
            go_quiet (fail)
            clear e0 e1 hf0
            have e1 : (w1.drewN nq).cell? ⟨N0, 1, none⟩ = some (.string Q) := HE1.out
            by_cases h0 : z = 0
            · subst h0
              have hst := HST2.out
              rw [if_pos rfl] at hst
              have HST3 := Lib.hid hst
              clear hst HST2
              go_wp2_with fail
              refine (HVV.out _).mono ?_
              rintro e w1 ⟨rfl, hb1⟩
              have HB1 := Lib.hid ((HHX.out _).out.trans (hb1.mono (HHX.out _).out.size))
              clear hb1
              go_wp2_with fail
              exact ⟨⟨0 + 1, by omega, by go_num, HST3, HB1.out⟩, by simp only [Go.RowKit.intOf]; omega⟩
            · have hst := HST2.out
              rw [if_neg h0] at hst
              have h0i : ¬ ((z : Int) = 0) := by omega
              have HST3 := Lib.hid hst
              clear hst HST2 h0
              go_wp2_with fail
              refine (HVV.out _).mono ?_
              rintro e w1 ⟨rfl, hb1⟩
              have HB1 := Lib.hid ((HHX.out _).out.trans (hb1.mono (HHX.out _).out.size))
              clear hb1
              go_wp2_with fail
              go_ret
              exact ⟨by rw [HST3.out]; rfl, HB1.out⟩
          | succ m =>
            obtain ⟨R, d0, hless⟩ := HGO.out m rfl
            have hst := HST.out
            have hne : decide (m + 1 ≠ 0) = true := by simp
            rw [hne, Bool.true_and] at hst
            have HST2 := Lib.hid hst
            clear hst HST HGO hne
            rw [show ((m + 1 : Nat) : Int) = (m : Int) + 1 by omega] at hgt ⊢
            have hpos : (0 : Int) < (m : Int) + 1 := by omega
            go_wp2_with fail
            rw [HXX.out, HN0.out]
            clear c0 c1
            go_wp2_with fail
            refine (HVN.out _).mono ?_
            rintro e w1 ⟨rfl, rfl⟩
            go_wp2_with fail
            go_quiet (fail)
            clear e0 e1 hf0 d0
            have e1 : (w1.drewN nq).cell? ⟨N0, 1, none⟩ = some (.string Q) := HE1.out
            cases t with
            | false =>
              have hst := HST2.out
              rw [if_pos (by decide)] at hst
              have HST3 := Lib.hid hst
              clear hst HST2 e1 hless
              go_wp2_with fail
              go_ret
              exact ⟨by rw [HST3.out]; rfl, (HHX.out _).out⟩
            | true =>
              have hst := HST2.out
              rw [if_neg (by decide)] at hst
              replace HST2 := Lib.hid hst
              clear hst hless
              by_cases h0 : z = 0
              · subst h0
                have hst := HST2.out
                rw [if_pos rfl] at hst
                have HST3 := Lib.hid hst
                clear hst HST2
                go_wp2_with fail
                refine (HVV.out _).mono ?_
                rintro e w1 ⟨rfl, hb1⟩
                have HB1 := Lib.hid ((HHX.out _).out.trans (hb1.mono (HHX.out _).out.size))
                clear hb1
                go_wp2_with fail
                exact ⟨⟨m + 1 + 1, by omega, by go_num, HST3, HB1.out⟩, by simp only [Go.RowKit.intOf]; omega⟩
              · have hst := HST2.out
                rw [if_neg h0] at hst
                have h0i : ¬ ((z : Int) = 0) := by omega
                have HST3 := Lib.hid hst
                clear hst HST2 h0
                go_wp2_with fail
                refine (HVV.out _).mono ?_
                rintro e w1 ⟨rfl, hb1⟩
                have HB1 := Lib.hid ((HHX.out _).out.trans (hb1.mono (HHX.out _).out.size))
                clear hb1
                go_wp2_with fail
                go_ret
                exact ⟨by rw [HST3.out]; rfl, HB1.out⟩
      · obtain rfl : k = n := by omega
        have hr0 : r = 0 := by
          rw [hp.out, List.drop_eq_nil_of_le (by rw [HN.out]; exact Nat.le_refl _)]
          rfl
        have HB := Lib.hid hb
        subst hr0
        clear hb hp
        go_wp2_with fail
        go_ret
        exact ⟨rfl, HB.out⟩
end Go.Proofs.YtmjmidgfdjcbfaaGreatDoor
namespace Go.Proofs.YtmjmidgfdjcbfaaGreatDoor
open Go.RowKit Go.Shelf Go.Lib

set_option maxHeartbeats 400000 in
theorem limited_tok (A : Option Addr) (n cap lim : Nat) (W : World) : Calls Tryz.prog 51 #[.slice A n cap, .int .i64 (lim : Int)] W fun r w' => r = .returned (.int .i64 ((if lim < n then 2 else 0 : Nat) : Int)) ∧ w' = W := by
  by_cases h : lim < n
  · rw [if_pos h]
    go_enter Tryz.func51, Tryz.ntmps51
    go_wp2_with fail
    go_ret
    exact ⟨rfl, rfl⟩
  · rw [if_neg h]
    go_enter Tryz.func51, Tryz.ntmps51
    go_wp2_with fail
    go_ret
    exact ⟨rfl, rfl⟩

set_option maxHeartbeats 400000 in
theorem limited_text (A : Option Addr) (n cap lim : Nat) (W : World) : Calls Tryz.prog 53 #[.slice A n cap, .int .i64 (lim : Int)] W fun r w' => r = .returned (.int .i64 ((if lim < n then 2 else 0 : Nat) : Int)) ∧ w' = W := by
  by_cases h : lim < n
  · rw [if_pos h]
    go_enter Tryz.func53, Tryz.ntmps53
    go_wp2_with fail
    go_ret
    exact ⟨rfl, rfl⟩
  · rw [if_neg h]
    go_enter Tryz.func53, Tryz.ntmps53
    go_wp2_with fail
    go_ret
    exact ⟨rfl, rfl⟩

set_option maxHeartbeats 400000 in
theorem limited_reg (A : Option Addr) (n cap lim : Nat) (W : World) : Calls Tryz.prog 56 #[.slice A n cap, .int .i64 (lim : Int)] W fun r w' => r = .returned (.int .i64 ((if lim < n then 2 else 0 : Nat) : Int)) ∧ w' = W := by
  by_cases h : lim < n
  · rw [if_pos h]
    go_enter Tryz.func56, Tryz.ntmps56
    go_wp2_with fail
    go_ret
    exact ⟨rfl, rfl⟩
  · rw [if_neg h]
    go_enter Tryz.func56, Tryz.ntmps56
    go_wp2_with fail
    go_ret
    exact ⟨rfl, rfl⟩

set_option maxHeartbeats 400000 in
theorem limited_node (A : Option Addr) (n cap lim : Nat) (W : World) : Calls Tryz.prog 63 #[.slice A n cap, .int .i64 (lim : Int)] W fun r w' => r = .returned (.int .i64 ((if lim < n then 2 else 0 : Nat) : Int)) ∧ w' = W := by
  by_cases h : lim < n
  · rw [if_pos h]
    go_enter Tryz.func63, Tryz.ntmps63
    go_wp2_with fail
    go_ret
    exact ⟨rfl, rfl⟩
  · rw [if_neg h]
    go_enter Tryz.func63, Tryz.ntmps63
    go_wp2_with fail
    go_ret
    exact ⟨rfl, rfl⟩

set_option maxHeartbeats 1000000 in
theorem checkValue_any (a : Bs × Bool) (F : ByteArray) (hF : F.size ≤ maxLen) (W : World) :
    Calls Tryz.prog 52 #[.agg #[.string ⟨a.1.toArray⟩, .bool a.2], .string F] W fun e w' => e = .returned (.int .i64 (valX a F.data.toList : Nat)) ∧ Below W.heap.size W w' := by
  have hp := fun W => parse_any F hF W
  have hv := fun W => validValue_any F hF W
  have hx : valX a F.data.toList = if a.2 then (parseL F.data.toList).2 else valE F.data.toList := rfl
  rw [hx]
  obtain ⟨n, st⟩ := a
  simp only
  obtain ⟨N, hN⟩ : ∃ s : ByteArray, (⟨n.toArray⟩ : ByteArray) = s := ⟨_, rfl⟩
  rw [hN]
  obtain ⟨p, hpp⟩ : ∃ p, parseL F.data.toList = p := ⟨_, rfl⟩
  obtain ⟨z, hz⟩ : ∃ z, valE F.data.toList = z := ⟨_, rfl⟩
  rw [hpp] at hp ⊢
  rw [hz] at hv ⊢
  have HP := Lib.hid hp
  have HV := Lib.hid hv
  clear hp hv hN hpp hz hx hF
  cases st with
  | true =>
    go_enter Tryz.func52, Tryz.ntmps52
    go_wp2_with fail
    refine (HP.out _).mono ?_
    rintro e w1 ⟨⟨v, rfl, -⟩, hb⟩
    have HB := Lib.hid (below_alloc _ hb)
    clear hb
    go_wp2_with fail
    go_ret
    exact ⟨rfl, HB.out⟩
  | false =>
    go_enter Tryz.func52, Tryz.ntmps52
    go_wp2_with fail
    refine (HV.out _).mono ?_
    rintro e w1 ⟨rfl, hb⟩
    have HB := Lib.hid (below_alloc _ hb)
    clear hb
    go_wp2_with fail
    go_ret
    exact ⟨rfl, HB.out⟩

set_option maxRecDepth 100000 in
set_option maxHeartbeats 1000000 in
theorem vAttributes {c : Cor} {s : Sv} {o p y : Value} {B : Nat} {W : World} (hV : VAt W B s o p y) (h : CorAt W s c) (hl : c.attrs.length ≤ maxLen) :
    Calls Tryz.prog 19 #[.pointer (some ⟨B, 0, none⟩)] W fun r w' => r = .returned (.int .i64 (attrsE c : Nat)) ∧ w' = W := by
  obtain ⟨c0, -⟩ := hV.c
  obtain ⟨A, cap, hva, -⟩ := h.a.form
  rw [hva] at c0
  unfold attrsE
  obtain ⟨n, hn⟩ : ∃ n, c.attrs.length = n := ⟨_, rfl⟩
  rw [hn] at c0 hl ⊢
  unfold maxLen at hl
  clear hn hva h hV
  by_cases h0 : n = 0
  · subst h0
    rw [if_pos rfl]
    go_enter Tryz.func19, Tryz.ntmps19
    go_wp2_with fail
    go_ret
    exact ⟨rfl, rfl⟩
  · rw [if_neg h0]
    have h0i : ¬ ((n : Int) = 0) := by omega
    by_cases h8 : 8 < n
    · rw [if_pos h8]
      go_enter Tryz.func19, Tryz.ntmps19
      go_wp2_with fail
      go_ret
      exact ⟨rfl, rfl⟩
    · rw [if_neg h8]
      go_enter Tryz.func19, Tryz.ntmps19
      go_wp2_with fail
      go_ret
      exact ⟨rfl, rfl⟩

set_option maxHeartbeats 1000000 in
theorem attribute1_any (x : Bs × Bool) (n : Bs) (B : Nat) (W : World) (hB : W.heap[B]? = some (.cells #[.string ⟨n.toArray⟩] 9 (0, 0))) :
    Calls Tryz.prog 48 (#[.agg #[.string ⟨x.1.toArray⟩, .bool x.2]] ++ #[.pointer (some ⟨B, 0, none⟩)]) W fun e w' => e = .returned (.bool (decide (x.1 = n))) ∧ Below W.heap.size W w' := by
  have c0 := cell_of hB (i := 0) (v := .string ⟨n.toArray⟩) rfl
  have c1 : (W.alloc (.cells #[.string ⟨x.1.toArray⟩, .bool x.2] 25)).cell? ⟨B, 0, none⟩ = some (.string ⟨n.toArray⟩) := cell_of (block_alloc _ hB) rfl
  have he := str_eq x.1 n
  obtain ⟨sa, has⟩ : ∃ s : ByteArray, (⟨x.1.toArray⟩ : ByteArray) = s := ⟨_, rfl⟩
  obtain ⟨sn, hns⟩ : ∃ s : ByteArray, (⟨n.toArray⟩ : ByteArray) = s := ⟨_, rfl⟩
  obtain ⟨xb, hxb⟩ : ∃ s : Bool, x.2 = s := ⟨_, rfl⟩
  rw [has, hns, hxb] at c1
  rw [has, hns] at he
  rw [hns] at c0
  rw [has, hxb, ← he]
  obtain ⟨q, hq⟩ : ∃ q, (sa.toList == sn.toList) = q := ⟨_, rfl⟩
  rw [hq]
  clear he has hns hB hxb
  go_enter Tryz.func48, Tryz.ntmps48
  go_wp2_with fail
  go_ret
  exact ⟨by rw [← hq]; rfl, below_box W _⟩

set_option maxRecDepth 100000 in
set_option maxHeartbeats 2000000 in
theorem vAttribute {c : Cor} {s : Sv} {o p y : Value} {B : Nat} {W : World} (hV : VAt W B s o p y) (h : CorAt W s c) (hl : c.attrs.length ≤ maxLen) (hs : ∀ a ∈ c.attrs, a.1.length ≤ maxLen) (i : Nat) (hi : i < c.attrs.length) :
    Calls Tryz.prog 20 #[.pointer (some ⟨B, 0, none⟩), .int .i64 (i : Int)] W fun r w' => r = .returned (.int .i64 (attrE c i : Nat)) ∧ Below W.heap.size W w' := by
  obtain ⟨c0, -⟩ := hV.c
  obtain ⟨A, cap, hva, hc⟩ := h.a.form
  have hrow := h.a
  rw [hva] at c0 hrow
  obtain ⟨x, hx⟩ : ∃ x, c.attrs[i]? = some x := ⟨_, List.getElem?_eq_getElem hi⟩
  obtain ⟨bk, off, rfl, hbl, hj⟩ := at_attr hrow (by omega)
  obtain ⟨k0, -⟩ := hj i x hx
  have hae : attrE c i = if nameB x.1 = false then 4 else if (c.attrs.take i).any (fun y => decide (y.1 = x.1)) then 5 else 0 := by unfold attrE; rw [hx]
  rw [hae]
  have hxl := hs x (List.mem_of_getElem? hx)
  obtain ⟨n, hn⟩ : ∃ n, c.attrs.length = n := ⟨_, rfl⟩
  rw [hn] at c0 hl hrow hi hc
  have hcon : Calls Tryz.prog 50 #[.slice (some ⟨bk, off, none⟩) i cap, .func (.func 48) #[] #[.pointer (some ⟨W.heap.size, 0, none⟩)]] (W.alloc (.cells #[.string ⟨x.1.toArray⟩] 9)) fun e w' => e = .returned (.bool ((c.attrs.take i).any (fun y => decide (y.1 = x.1)))) ∧ Below W.heap.size W w' := by
    have hb := below_box W (.cells #[.string ⟨x.1.toArray⟩] 9)
    refine (containsFunc_attr stays_attr ((hrow.below stays_attr hb).take (k := i) (by omega)) (by rw [List.length_take]; omega) _ _ (enters_of Tryz.func48 (by kernel_rfl) rfl) (fun y => decide (y.1 = x.1)) ?_).mono fun e w' h => ⟨h.1, hb.trans (h.2.mono hb.size)⟩
    intro V z u0 u1 hV _ hE
    simp only [EAttr, List.cons.injEq, and_true] at hE
    obtain ⟨rfl, rfl⟩ := hE
    exact attribute1_any z x.1 W.heap.size V (block_below (block_new W _) hV (by simp))
  obtain ⟨P, hP⟩ : ∃ s : ByteArray, (⟨x.1.toArray⟩ : ByteArray) = s := ⟨_, rfl⟩
  have hPl : P.data.toList = x.1 := by rw [← hP]
  have hvn := fun W => validName_any P (by rw [Lib.size_eq, hPl]; exact hxl) W
  rw [hPl] at hvn
  rw [hP] at k0 hcon
  obtain ⟨a, ha⟩ : ∃ a, nameB x.1 = a := ⟨_, rfl⟩
  obtain ⟨t, ht⟩ : ∃ t, (c.attrs.take i).any (fun y => decide (y.1 = x.1)) = t := ⟨_, rfl⟩
  rw [ha] at hvn ⊢
  rw [ht] at hcon ⊢
  have HVN := Lib.hid hvn
  have HC := Lib.hid hcon
  obtain ⟨X, hX⟩ : ∃ X, W.alloc (.cells #[.string P] 9) = X := ⟨_, rfl⟩
  have e0 : X.cell? ⟨W.heap.size, 0, none⟩ = some (.string P) := by rw [← hX]; exact cell_of (block_new W _) rfl
  have hbX : Below W.heap.size W X := by rw [← hX]; exact below_box W _
  have d0 : X.cell? ⟨B, 0, none⟩ = some (.slice (some ⟨bk, off, none⟩) n cap) := (hbX.cell hV.lt).trans c0
  rw [hX] at HC
  have HBX := Lib.hid hbX
  have HX := Lib.hid hX
  obtain ⟨N0, hN0⟩ : ∃ N0, W.heap.size = N0 := ⟨_, rfl⟩
  have HN0 := Lib.hid hN0
  rw [hN0] at e0 HC
  have hlt : (i : Int) < (n : Int) := by omega
  have hic : (i : Int) ≤ (cap : Int) := by omega
  unfold maxLen at hl
  clear hcon hvn ht ha hP hPl hX hbX hN0 hj hbl hx hae hn hs hrow h hV hva hxl
  cases a with
  | false =>
    rw [if_pos rfl]
    go_enter Tryz.func20, Tryz.ntmps20
    go_wp2_with fail
    rw [HX.out, HN0.out]
    clear c0 k0
    go_wp2_with fail
    refine (HVN.out _).mono ?_
    rintro e w1 ⟨rfl, rfl⟩
    go_wp2_with fail
    go_ret
    exact ⟨rfl, HN0.out ▸ HBX.out⟩
  | true =>
    rw [if_neg (by decide)]
    go_enter Tryz.func20, Tryz.ntmps20
    go_wp2_with fail
    rw [HX.out, HN0.out]
    clear c0 k0
    go_wp2_with fail
    refine (HVN.out _).mono ?_
    rintro e w1 ⟨rfl, rfl⟩
    go_wp2_with fail
    refine HC.out.mono ?_
    rintro e w2 ⟨rfl, hb2⟩
    have HB2 := Lib.hid hb2
    clear hb2
    cases t with
    | true =>
      go_wp2_with fail
      go_ret
      exact ⟨rfl, by rw [HN0.out]; exact HB2.out⟩
    | false =>
      go_wp2_with fail
      go_ret
      exact ⟨rfl, by rw [HN0.out]; exact HB2.out⟩
end Go.Proofs.YtmjmidgfdjcbfaaGreatDoor
namespace Go.Proofs.YtmjmidgfdjcbfaaGreatDoor
open Go.RowKit Go.Shelf Go.Lib
set_option linter.unusedVariables false

set_option maxRecDepth 100000 in
set_option maxHeartbeats 1000000 in
theorem vTokens {c : Cor} {s : Sv} {o p y : Value} {B : Nat} {W : World} (hV : VAt W B s o p y) (h : CorAt W s c) :
    Calls Tryz.prog 21 #[.pointer (some ⟨B, 0, none⟩)] W fun r w' => r = .returned (.int .i64 (toksE c : Nat)) ∧ w' = W := by
  obtain ⟨-, c1, -⟩ := hV.c
  obtain ⟨A, cap, hva, -⟩ := h.t.form
  rw [hva] at c1
  unfold toksE
  obtain ⟨n, hn⟩ : ∃ n, c.toks.length = n := ⟨_, rfl⟩
  rw [hn] at c1 ⊢
  have HL := Lib.hid (limited_tok A n cap 4096 W)
  obtain ⟨z, hz⟩ : ∃ z : Nat, (if 4096 < n then 2 else 0) = z := ⟨_, rfl⟩
  rw [hz] at HL ⊢
  clear hz
  clear hn hva h hV
  go_enter Tryz.func21, Tryz.ntmps21
  go_wp2_with fail
  refine HL.out.mono ?_
  rintro r w1 ⟨rfl, rfl⟩
  go_wp2_with fail
  go_ret
  exact ⟨rfl, rfl⟩
theorem valsE_step {al : List (Bs × Bool)} {vs : Fs} {k : Nat} {a : Bs × Bool} {v : Bs} (ha : al[k]? = some a) (hv : vs[k]? = some v) : valsE (al.drop k) (vs.drop k) = if valX a v = 0 then valsE (al.drop (k + 1)) (vs.drop (k + 1)) else valX a v := by
  obtain ⟨hk, rfl⟩ := List.getElem?_eq_some_iff.1 ha
  obtain ⟨hk2, rfl⟩ := List.getElem?_eq_some_iff.1 hv
  rw [List.drop_eq_getElem_cons hk, List.drop_eq_getElem_cons hk2, valsE]

set_option maxRecDepth 100000 in
set_option maxHeartbeats 4000000 in
theorem vToken {c : Cor} {s : Sv} {o p y : Value} {B : Nat} {W : World} (hV : VAt W B s o p y) (h : CorAt W s c) (hl : c.attrs.length ≤ maxLen) (ht : c.toks.length ≤ maxLen) (i : Nat) (hi : i < c.toks.length)
    (hs : ∀ t ∈ c.toks, t.length ≤ maxLen ∧ ∀ v ∈ t, v.length ≤ maxLen) :
    Calls Tryz.prog 22 #[.pointer (some ⟨B, 0, none⟩), .int .i64 (i : Int)] W fun r w' => r = .returned (.int .i64 (tokE c i : Nat)) ∧ Below W.heap.size W w' := by
  obtain ⟨c0, c1, -⟩ := hV.c
  obtain ⟨A, cap, hva, hc⟩ := h.a.form
  obtain ⟨A2, cap2, hvt, hc2⟩ := h.t.form
  have hra := h.a
  have hrt := h.t
  rw [hva] at c0 hra
  rw [hvt] at c1 hrt
  obtain ⟨x, hx⟩ : ∃ x, c.toks[i]? = some x := ⟨_, List.getElem?_eq_getElem hi⟩
  obtain ⟨bk, off, rfl, hbl, hj⟩ := at_tok hrt (by omega)
  obtain ⟨tv, k0, hrv⟩ := hj i x hx
  obtain ⟨A3, cap3, htv, hc3⟩ := hrv.form
  rw [htv] at k0 hrv
  have hae : tokE c i = if x.length ≠ c.attrs.length then 15 else valsE c.attrs x := by unfold tokE; rw [hx]
  rw [hae]
  obtain ⟨hxl, hxs⟩ := hs x (List.mem_of_getElem? hx)
  have HRA := Lib.hid (fun W' (hb : Below W.heap.size W W') => hra.below stays_attr hb)
  have HRV := Lib.hid (fun W' (hb : Below W.heap.size W W') => hrv.below stays_str hb)
  have HVA := Lib.hid (fun W' (hb : Below W.heap.size W W') => hV.below hb)
  obtain ⟨n, hn⟩ : ∃ n, c.attrs.length = n := ⟨_, rfl⟩
  obtain ⟨m, hm⟩ : ∃ m, c.toks.length = m := ⟨_, rfl⟩
  obtain ⟨l, hxn⟩ : ∃ l, x.length = l := ⟨_, rfl⟩
  rw [hn] at c0 hl hc HRA ⊢
  rw [hm] at c1 ht hc2 hi
  rw [hxn] at k0 hxl hc3 HRV ⊢
  have HN := Lib.hid hn
  have HXN := Lib.hid hxn
  have HXS := Lib.hid hxs
  have hlt : (i : Int) < (m : Int) := by omega
  unfold maxLen at hl ht hxl
  obtain ⟨r0, hr0⟩ : ∃ r0, (if l ≠ n then 15 else valsE c.attrs x) = r0 := ⟨_, rfl⟩
  rw [hr0]
  have HSZ := Lib.hid (Below.refl W.heap.size W)
  clear hn hm hxn hxs hs hra hrt hrv hx hj h hV hva hvt htv hae hbl
  by_cases hne : l = n
  · subst hne
    rw [if_neg (by simp)] at hr0
    have HR : Hid (r0 = valsE (c.attrs.drop 0) (x.drop 0)) := Lib.hid hr0.symm
    clear hr0
    go_enter Tryz.func22, Tryz.ntmps22
    go_wp2_with fail
    go_loopw [32] (fun iv wr => ∃ k : Nat, k ≤ l ∧ iv = .int .i64 k ∧ Hid (r0 = valsE (c.attrs.drop k) (x.drop k)) ∧ Below W.heap.size W wr) (fun iv _ => l - (Go.RowKit.intOf iv).toNat)
    case atStart => exact ⟨0, Nat.zero_le _, rfl, HR, Below.refl _ _⟩
    case round =>
      clear HR c0 c1 k0
      obtain ⟨k, hk, rfl, hp, hb⟩ := hrel
      by_cases hlt2 : k < l
      · obtain ⟨a, ha⟩ : ∃ a, c.attrs[k]? = some a := ⟨_, List.getElem?_eq_getElem (by rw [HN.out]; omega)⟩
        obtain ⟨v, hv⟩ : ∃ v, x[k]? = some v := ⟨_, List.getElem?_eq_getElem (by rw [HXN.out]; omega)⟩
        obtain ⟨b1, o1, rfl, hbl1, hj1⟩ := at_attr (HRA.out wr hb) (by rw [HN.out]; omega)
        obtain ⟨b2, o2, rfl, hbl2, hj2⟩ := at_str (HRV.out wr hb) (by rw [HXN.out]; omega)
        obtain ⟨e0, e1⟩ := hj1 k a ha
        have f0 := hj2 k v hv
        have hstep := hp.out
        rw [valsE_step ha hv] at hstep
        have hcv := fun W => checkValue_any a ⟨v.toArray⟩ (by rw [Lib.size_eq]; exact HXS.out v (List.mem_of_getElem? hv)) W
        simp only at hcv
        obtain ⟨z, hz⟩ : ∃ z, valX a v = z := ⟨_, rfl⟩
        rw [hz] at hcv hstep
        obtain ⟨F, hF⟩ : ∃ F : ByteArray, (⟨v.toArray⟩ : ByteArray) = F := ⟨_, rfl⟩
        obtain ⟨G, hG⟩ : ∃ G : ByteArray, (⟨a.1.toArray⟩ : ByteArray) = G := ⟨_, rfl⟩
        obtain ⟨st, hst⟩ : ∃ st, a.2 = st := ⟨_, rfl⟩
        rw [hF] at f0 hcv
        rw [hG] at e0 hcv
        rw [hst] at e1 hcv
        have HCV := Lib.hid hcv
        have HST := Lib.hid hstep
        obtain ⟨X, hX⟩ : ∃ X, wr.alloc (.cells #[.string G, .bool st] 25) = X := ⟨_, rfl⟩
        have g0 : X.cell? ⟨wr.heap.size, 0, none⟩ = some (.string G) := by rw [← hX]; exact cell_of (block_new wr _) rfl
        have g1 : X.cell? ⟨wr.heap.size, 1, none⟩ = some (.bool st) := by rw [← hX]; exact cell_of (block_new wr _) rfl
        have hbX : Below wr.heap.size wr X := by rw [← hX]; exact below_box wr _
        have g2 : X.cell? ⟨b2, o2 + k, none⟩ = some (.string F) := (hbX.cell hbl2).trans f0
        have hlt3 : wr.heap.size < X.heap.size := by rw [← hX, alloc_sz]; omega
        have hlt4 : b2 < X.heap.size := by omega
        obtain ⟨N0, hN0⟩ : ∃ N0, wr.heap.size = N0 := ⟨_, rfl⟩
        have HN0 := Lib.hid hN0
        have HX := Lib.hid hX
        have HBX := Lib.hid (hb.trans (hbX.mono hb.size))
        rw [hN0] at g0 g1 hlt3
        have HCL := Lib.hid (fun W (h : Below X.drew.heap.size X.drew W) => And.intro ((h.cell (p := ⟨N0, 0, none⟩) hlt3).trans g0) (And.intro ((h.cell (p := ⟨N0, 1, none⟩) hlt3).trans g1) ((h.cell (p := ⟨b2, o2 + k, none⟩) hlt4).trans g2)))
        have hki : (k : Int) < (l : Int) := by omega
        clear hcv hstep hz hF hG hst hX hbX hN0 ha hv hj1 hj2 hb hp hbl1 hbl2 hlt3 hlt4
        go_wp2_with fail
        rw [HX.out, HN0.out]
        clear e0 e1 f0
        go_wp2_with fail
        go_region_held3 (fun w' => w'.cell? ⟨N0, 0, none⟩ = some (.string G) ∧ w'.cell? ⟨N0, 1, none⟩ = some (.bool st) ∧ w'.cell? ⟨b2, o2 + k, none⟩ = some (.string F))
          (first
            | go_keep
            | (exact HCL.out _ hb3)
            | fail)
          ((first
            | (go_at_call 52; (with_reducible refine (HCV.out _).mono ?_); rintro e w3 ⟨rfl, hb3⟩)
            | fail))
        have HB4 := Lib.hid (HBX.out.drew.trans (hb3.mono HBX.out.size))
        clear hb3 g0 g1 g2
        by_cases h0 : z = 0
        · subst h0
          have hst := HST.out
          rw [if_pos rfl] at hst
          have HST3 := Lib.hid hst
          clear hst HST
          go_wp2_with fail
          exact ⟨⟨k + 1, by omega, by go_num, HST3, HB4.out⟩, by simp only [Go.RowKit.intOf]; omega⟩
        · have hst := HST.out
          rw [if_neg h0] at hst
          have h0i : ¬ ((z : Int) = 0) := by omega
          have HST3 := Lib.hid hst
          clear hst HST h0
          go_wp2_with fail
          go_ret
          exact ⟨by rw [HST3.out]; rfl, HB4.out⟩
      · obtain rfl : k = l := by omega
        have hr1 : r0 = 0 := by
          rw [hp.out, List.drop_eq_nil_of_le (by rw [HN.out]; exact Nat.le_refl _)]
          rfl
        have HB := Lib.hid hb
        subst hr1
        clear hb hp
        go_wp2_with fail
        go_ret
        exact ⟨rfl, HB.out⟩
  · rw [if_pos hne] at hr0
    subst hr0
    have hnei : ¬ ((l : Int) = (n : Int)) := by omega
    go_enter Tryz.func22, Tryz.ntmps22
    go_wp2_with fail
    go_ret
    exact ⟨rfl, HSZ.out⟩
end Go.Proofs.YtmjmidgfdjcbfaaGreatDoor
namespace Go.Proofs.YtmjmidgfdjcbfaaGreatDoor
open Go.RowKit Go.Shelf Go.Lib
set_option linter.unusedVariables false

set_option maxRecDepth 100000 in
set_option maxHeartbeats 1000000 in
theorem vTexts {c : Cor} {s : Sv} {o p y : Value} {B : Nat} {W : World} (hV : VAt W B s o p y) (h : CorAt W s c) (hl1 : c.toks.length ≤ maxLen) (hl2 : c.texts.length ≤ maxLen) :
    Calls Tryz.prog 23 #[.pointer (some ⟨B, 0, none⟩)] W fun r w' => r = .returned (.int .i64 (textsE c : Nat)) ∧ Below W.heap.size W w' := by
  obtain ⟨-, c1, c2, -⟩ := hV.c
  obtain ⟨A, cap, hvt, -⟩ := h.t.form
  obtain ⟨A2, cap2, hvx, -⟩ := h.x.form
  rw [hvt] at c1
  rw [hvx] at c2
  unfold textsE
  obtain ⟨n, hn⟩ : ∃ n, c.toks.length = n := ⟨_, rfl⟩
  obtain ⟨m, hm⟩ : ∃ m, c.texts.length = m := ⟨_, rfl⟩
  rw [hn] at c1 hl1 ⊢
  rw [hm] at c2 hl2 ⊢
  have HL := Lib.hid (limited_text A2 m cap2 64 W)
  unfold maxLen at hl1 hl2
  clear hn hm hvt hvx h hV
  by_cases h64 : 64 < m
  · rw [if_pos h64] at HL ⊢
    clear h64
    go_enter Tryz.func23, Tryz.ntmps23
    go_wp2_with fail
    refine HL.out.mono ?_
    rintro r w1 ⟨rfl, rfl⟩
    go_wp2_with fail
    go_ret
    exact ⟨rfl, Below.refl _ _⟩
  · rw [if_neg h64] at HL ⊢
    clear h64
    by_cases h0 : m = 0 <;> by_cases h1 : n = 0
    · subst h0; subst h1
      rw [if_neg (by decide)]
      go_enter Tryz.func23, Tryz.ntmps23
      go_wp2_with fail
      refine HL.out.mono ?_
      rintro r w1 ⟨rfl, rfl⟩
      go_wp2_with fail
      go_quiet (fail)
      go_wp2_with fail
      go_ret
      exact ⟨rfl, below_drewN (Below.refl _ _) _⟩
    · subst h0
      rw [if_pos (by simp [h1])]
      have h1i : ((n : Int) == 0) = false := by simp; omega
      clear h1
      go_enter Tryz.func23, Tryz.ntmps23
      go_wp2_with fail
      refine HL.out.mono ?_
      rintro r w1 ⟨rfl, rfl⟩
      go_wp2_with fail
      go_quiet (fail)
      go_wp2_with fail
      go_ret
      exact ⟨rfl, below_drewN (Below.refl _ _) _⟩
    · subst h1
      rw [if_pos (by simp [h0])]
      have h1i : ((m : Int) == 0) = false := by simp; omega
      clear h0
      go_enter Tryz.func23, Tryz.ntmps23
      go_wp2_with fail
      refine HL.out.mono ?_
      rintro r w1 ⟨rfl, rfl⟩
      go_wp2_with fail
      go_quiet (fail)
      go_wp2_with fail
      go_ret
      exact ⟨rfl, below_drewN (Below.refl _ _) _⟩
    · rw [if_neg (by simp [h0, h1])]
      have h1i : ((m : Int) == 0) = false := by simp; omega
      have h2i : ((n : Int) == 0) = false := by simp; omega
      clear h0 h1
      go_enter Tryz.func23, Tryz.ntmps23
      go_wp2_with fail
      refine HL.out.mono ?_
      rintro r w1 ⟨rfl, rfl⟩
      go_wp2_with fail
      go_quiet (fail)
      go_wp2_with fail
      go_ret
      exact ⟨rfl, below_drewN (Below.refl _ _) _⟩
theorem find_before {l : List Ex} {i : Nat} {x : Ex} (hx : l[i]? = some x) : decide (findZ (fun t => decide (t.name = x.name)) l < (i : Int)) = (l.take i).any (fun y => decide (y.name = x.name)) := by
  rw [Bool.eq_iff_iff, decide_eq_true_iff, List.any_eq_true]
  rcases findZ_spec (fun t : Ex => decide (t.name = x.name)) l with ⟨_, h⟩ | ⟨k, z, hk, hz, hj, e⟩
  · have := h x (List.mem_of_getElem? hx)
    simp at this
  · rw [e]
    constructor
    · intro h
      refine ⟨z, ?_, hz⟩
      obtain ⟨hkl, rfl⟩ := List.getElem?_eq_some_iff.1 hk
      exact List.mem_take_iff_getElem.2 ⟨k, by omega, rfl⟩
    · rintro ⟨z2, hz2, hp⟩
      obtain ⟨j, hj2, rfl⟩ := List.mem_take_iff_getElem.1 hz2
      have hjl : j < l.length := by omega
      by_cases hlt : k < i
      · omega
      · have := hj j _ (by omega) (List.getElem?_eq_getElem hjl)
        rw [this] at hp
        cases hp

set_option maxRecDepth 100000 in
set_option maxHeartbeats 8000000 in
theorem vText {c : Cor} {s : Sv} {o p y : Value} {B : Nat} {W : World} (hV : VAt W B s o p y) (h : CorAt W s c) (hl1 : c.toks.length ≤ maxLen) (hl2 : c.texts.length ≤ maxLen) (i : Nat) (hi : i < c.texts.length)
    (hs : ∀ t ∈ c.texts, t.name.length ≤ maxLen ∧ t.ps.length ≤ maxLen ∧ ∀ q ∈ t.ps, q.1.length ≤ maxLen ∧ q.2.length ≤ maxLen) :
    Calls Tryz.prog 24 #[.pointer (some ⟨B, 0, none⟩), .int .i64 (i : Int)] W fun r w' => r = .returned (.int .i64 (textE c i : Nat)) ∧ Below W.heap.size W w' := by
  obtain ⟨x, hx⟩ : ∃ x, c.texts[i]? = some x := ⟨_, List.getElem?_eq_getElem hi⟩
  obtain ⟨hz1, hz2, hz3⟩ := hs x (List.mem_of_getElem? hx)
  have hae : textE c i = if nameB x.name = false then 4 else if (c.texts.take i).any (fun y => decide (y.name = x.name)) then 5
    else if x.b ≠ endB c i ∨ x.e ≤ x.b ∨ (c.toks.length : Int) < x.e then 8 else if i + 1 = c.texts.length ∧ x.e ≠ (c.toks.length : Int) then 8 else pairsE x.ps := by unfold textE; rw [hx]
  rw [hae]
  have hft := fun W' (hb : Below W.heap.size W W') => findText_any s (h.x.below stays_ex hb) hl2 x.name
  have hfb := find_before hx
  obtain ⟨c0, c1, c2, c3, c4, c5, c6, -⟩ := hV.c
  have hBl := hV.lt
  obtain ⟨A, cap, hvt, hc⟩ := h.t.form
  obtain ⟨A2, cap2, hvx, hc2⟩ := h.x.form
  have hrx := h.x
  rw [hvx] at hrx
  obtain ⟨bk, off, rfl, hbl, hj⟩ := at_ex hrx (by omega)
  obtain ⟨mv, hmv, k0, k1, k2, k3⟩ := hj i x hx
  obtain ⟨Am, cm, hmf, -⟩ := hmv.form
  obtain ⟨lm, hlm⟩ : ∃ lm, x.ps.length = lm := ⟨_, rfl⟩
  rw [hlm] at hmf
  clear hlm
  subst hmf
  have hcp := fun W' (hb : Below W.heap.size W W') => checkPairs_any (hmv.below stays_pair hb) hz2 hz3
  obtain ⟨va, vt, vx, vr, vn, vh, vl⟩ := s
  simp only [Sv.arr] at hft c0 c1 c2 c3 c4 c5 c6
  simp only at hvt hvx
  subst hvt hvx
  have hprev : ∀ m : Nat, i = m + 1 → W.cell? ⟨bk, off + m * 4 + 2, none⟩ = some (.int .i64 (endB c i)) := by
    intro m hm
    obtain ⟨z, hz⟩ : ∃ z, c.texts[m]? = some z := ⟨_, List.getElem?_eq_getElem (by omega)⟩
    obtain ⟨-, -, -, -, e2, -⟩ := hj m z hz
    rw [hm, endB_succ hz]
    exact e2
  have hb0 : i = 0 → endB c i = 0 := fun e => by rw [e]; rfl
  obtain ⟨P, hP⟩ : ∃ s : ByteArray, (⟨x.name.toArray⟩ : ByteArray) = s := ⟨_, rfl⟩
  have hPl : P.data.toList = x.name := by rw [← hP]
  have hvn := fun W => validName_any P (by rw [Lib.size_eq, hPl]; exact hz1) W
  rw [hPl] at hvn
  rw [hP] at k0 hft
  obtain ⟨a, ha⟩ : ∃ a, nameB x.name = a := ⟨_, rfl⟩
  obtain ⟨fz, hfz⟩ : ∃ fz, findZ (fun t : Ex => decide (t.name = x.name)) c.texts = fz := ⟨_, rfl⟩
  obtain ⟨q, hq⟩ : ∃ q, (c.texts.take i).any (fun y => decide (y.name = x.name)) = q := ⟨_, rfl⟩
  obtain ⟨xb, hxb⟩ : ∃ xb, x.b = xb := ⟨_, rfl⟩
  obtain ⟨xe, hxe⟩ : ∃ xe, x.e = xe := ⟨_, rfl⟩
  obtain ⟨bb, hbb⟩ : ∃ bb, endB c i = bb := ⟨_, rfl⟩
  obtain ⟨z, hz⟩ : ∃ z, pairsE x.ps = z := ⟨_, rfl⟩
  obtain ⟨n, hn⟩ : ∃ n, c.texts.length = n := ⟨_, rfl⟩
  obtain ⟨m, hm⟩ : ∃ m, c.toks.length = m := ⟨_, rfl⟩
  rw [ha, hq, hxb, hxe, hbb, hz, hn, hm]
  rw [ha] at hvn
  rw [hfz] at hft hfb
  rw [hq] at hfb
  rw [hxb] at k1
  rw [hxe] at k2
  rw [hbb] at hprev hb0
  rw [hz] at hcp
  rw [hn] at c2 hi hl2 hft
  rw [hm] at c1 hl1 hft
  obtain ⟨lb, hlb⟩ : ∃ lb, ((i : Int) == (n : Int) - 1) = lb := ⟨_, rfl⟩
  have hlbn : lb = decide (i + 1 = n) := by rw [← hlb, Bool.eq_iff_iff]; simp; omega
  obtain ⟨b1, h1⟩ : ∃ b1, (xb != bb) = b1 := ⟨_, rfl⟩
  obtain ⟨b2, h2⟩ : ∃ b2, decide (xe ≤ xb) = b2 := ⟨_, rfl⟩
  obtain ⟨b3, h3⟩ : ∃ b3, decide ((m : Int) < xe) = b3 := ⟨_, rfl⟩
  obtain ⟨b4, h4⟩ : ∃ b4, (xe != (m : Int)) = b4 := ⟨_, rfl⟩
  have hres : (if a = false then 4 else if q = true then 5 else if xb ≠ bb ∨ xe ≤ xb ∨ (m : Int) < xe then 8 else if i + 1 = n ∧ xe ≠ (m : Int) then 8 else z) =
      (if a = false then 4 else if q = true then 5 else if (b1 || b2 || b3) = true then 8 else if (lb && b4) = true then 8 else z) := by
    have e1 : (b1 || b2 || b3) = decide (xb ≠ bb ∨ xe ≤ xb ∨ (m : Int) < xe) := by
      rw [← h1, ← h2, ← h3, Bool.eq_iff_iff]
      simp [or_assoc]
    have e2 : (lb && b4) = decide (i + 1 = n ∧ xe ≠ (m : Int)) := by
      rw [hlbn, ← h4, Bool.eq_iff_iff]
      simp
    rw [e1, e2]
    simp
  rw [hres]
  have hlt : (i : Int) < (n : Int) := by omega
  obtain ⟨X, hX⟩ : ∃ X, W.alloc (.cells #[.string P, .int .i64 xb, .int .i64 xe, .slice Am lm cm] 29) = X := ⟨_, rfl⟩
  have hbX : Below W.heap.size W X := by rw [← hX]; exact below_box W _
  have hlt3 : W.heap.size < X.heap.size := by rw [← hX, alloc_sz]; omega
  obtain ⟨N0, hN0⟩ : ∃ N0, W.heap.size = N0 := ⟨_, rfl⟩
  have g0 : X.cell? ⟨N0, 0, none⟩ = some (.string P) := by rw [← hX, ← hN0]; exact cell_of (block_new W _) rfl
  have g1 : X.cell? ⟨N0, 1, none⟩ = some (.int .i64 xb) := by rw [← hX, ← hN0]; exact cell_of (block_new W _) rfl
  have g2 : X.cell? ⟨N0, 2, none⟩ = some (.int .i64 xe) := by rw [← hX, ← hN0]; exact cell_of (block_new W _) rfl
  have g3 : X.cell? ⟨N0, 3, none⟩ = some (.slice Am lm cm) := by rw [← hX, ← hN0]; exact cell_of (block_new W _) rfl
  have d0 := (hbX.cell (p := ⟨B, 0, none⟩) hBl).trans c0
  have d1 := (hbX.cell (p := ⟨B, 1, none⟩) hBl).trans c1
  have d2 := (hbX.cell (p := ⟨B, 2, none⟩) hBl).trans c2
  have d3 := (hbX.cell (p := ⟨B, 3, none⟩) hBl).trans c3
  have d4 := (hbX.cell (p := ⟨B, 4, none⟩) hBl).trans c4
  have d5 := (hbX.cell (p := ⟨B, 5, none⟩) hBl).trans c5
  have d6 := (hbX.cell (p := ⟨B, 6, none⟩) hBl).trans c6
  have hpx : ∀ m : Nat, i = m + 1 → X.cell? ⟨bk, off + m * 4 + 2, none⟩ = some (.int .i64 bb) := fun m e => (hbX.cell (p := ⟨bk, off + m * 4 + 2, none⟩) hbl).trans (hprev m e)
  rw [hN0] at hlt3
  have hlt4 : B < X.heap.size := by have := hbX.size; omega
  have HS := Lib.hid (fun W' (h : Below X.drew.heap.size X.drew W') => And.intro ((h.cell (p := ⟨B, 0, none⟩) hlt4).trans d0) (And.intro ((h.cell (p := ⟨B, 1, none⟩) hlt4).trans d1) (And.intro ((h.cell (p := ⟨B, 2, none⟩) hlt4).trans d2) (And.intro ((h.cell (p := ⟨B, 3, none⟩) hlt4).trans d3) (And.intro ((h.cell (p := ⟨B, 4, none⟩) hlt4).trans d4) (And.intro ((h.cell (p := ⟨B, 5, none⟩) hlt4).trans d5) (And.intro ((h.cell (p := ⟨B, 6, none⟩) hlt4).trans d6) ((h.cell (p := ⟨N0, 0, none⟩) hlt3).trans g0))))))))
  have HC1 := Lib.hid (fun W' (h : Below X.drew.heap.size X.drew W') => And.intro ((h.cell (p := ⟨N0, 1, none⟩) hlt3).trans g1) (And.intro ((h.cell (p := ⟨N0, 2, none⟩) hlt3).trans g2) (And.intro ((h.cell (p := ⟨N0, 3, none⟩) hlt3).trans g3) ((h.cell (p := ⟨B, 1, none⟩) hlt4).trans d1))))
  have l2 : (W.alloc (.cells #[.string P, .int .i64 xb, .int .i64 xe, .slice Am lm cm] 29)).cell? ⟨B, 2, none⟩ = some (.slice (some ⟨bk, off, none⟩) n cap2) := by rw [hX]; exact d2
  have hpl : ∀ m : Nat, i = m + 1 → (W.alloc (.cells #[.string P, .int .i64 xb, .int .i64 xe, .slice Am lm cm] 29)).cell? ⟨bk, off + m * 4 + 2, none⟩ = some (.int .i64 bb) := by rw [hX]; exact hpx
  have HX := Lib.hid hX
  have HN0 := Lib.hid hN0
  have HBX := Lib.hid hbX
  have HVN := Lib.hid hvn
  have HFT := Lib.hid (fun W' (hb : Below X.drew.heap.size X.drew W') => hft W' (hbX.drew.trans (hb.mono hbX.size)))
  have HCP := Lib.hid hcp
  have HPX := Lib.hid hpl
  have HB0 := Lib.hid hb0
  unfold maxLen at hl1 hl2
  clear hft hcp hvn hX hbX hres hlbn hq hfz ha hxb hxe hbb hz hn hm hP hPl hz1 hz2 hz3 hj hmv hprev hpx hpl hb0 hrx hx hs h hV hae hlt3 hlt4 hbl hN0 hBl d0 d2 d3 d4 d5 d6
  rcases Nat.eq_zero_or_pos i with hi0 | hi0
  · have hb00 := HB0.out hi0
    subst hi0
    subst hb00
    clear HB0 HPX
    simp only [Nat.zero_mul, Nat.add_zero] at k0 k1 k2 k3
    have hz0 : ((0 : Nat) : Int) = 0 := rfl
    rw [hz0] at hlb hlt hfb ⊢
    clear hz0
    go_enter Tryz.func24, Tryz.ntmps24
    go_wp2_with fail
    rw [HX.out, HN0.out]
    clear k0 k1 k2 k3 c0 c1 c2 c3 c4 c5 c6 l2
    cases a with
    | false =>
      refine (HVN.out _).mono ?_
      rintro e w1 ⟨rfl, rfl⟩
      go_wp2_with fail
      go_ret
      exact ⟨rfl, HN0.out ▸ HBX.out⟩
    | true =>
      refine (HVN.out _).mono ?_
      rintro e w1 ⟨rfl, rfl⟩
      obtain ⟨d0, d1, d2', d3, d4, d5, d6, g0'⟩ := HS.out _ (Below.refl _ _)
      have d2 : w1.cell? ⟨B, 2, none⟩ = some (.slice (some ⟨bk, off, none⟩) n cap2) := d2'
      have d0 : w1.cell? ⟨B, 0, none⟩ = some va := d0
      have d1 : w1.cell? ⟨B, 1, none⟩ = some (.slice A m cap) := d1
      have d3 : w1.cell? ⟨B, 3, none⟩ = some vr := d3
      have d4 : w1.cell? ⟨B, 4, none⟩ = some vn := d4
      have d5 : w1.cell? ⟨B, 5, none⟩ = some vh := d5
      have d6 : w1.cell? ⟨B, 6, none⟩ = some vl := d6
      clear d2' g0'
      go_wp2_with fail
      go_region_held3 (fun w' => w'.cell? ⟨B, 0, none⟩ = some va ∧ w'.cell? ⟨B, 1, none⟩ = some (.slice A m cap) ∧ w'.cell? ⟨B, 2, none⟩ = some (.slice (some ⟨bk, off, none⟩) n cap2) ∧ w'.cell? ⟨B, 3, none⟩ = some vr ∧ w'.cell? ⟨B, 4, none⟩ = some vn ∧ w'.cell? ⟨B, 5, none⟩ = some vh ∧ w'.cell? ⟨B, 6, none⟩ = some vl ∧ w'.cell? ⟨N0, 0, none⟩ = some (.string P))
        (first
          | go_keep
          | (exact HS.out _ hb3)
          | fail)
        ((first
          | (go_at_call 54; (with_reducible refine (HFT.out _ (Below.refl _ _)).mono ?_); rintro e w3 ⟨rfl, hb3⟩)
          | fail))
      obtain ⟨m1, m2, m3, e1⟩ := HC1.out w3 hb3
      have HB3 := Lib.hid (HBX.out.drew.trans (hb3.mono HBX.out.size))
      have HCC := Lib.hid (HC1.out w3 hb3)
      clear hb3
      cases q with
      | true =>
        go_wp2_with fail
        go_ret
        exact ⟨rfl, HB3.out⟩
      | false =>
        cases b1 with
        | true =>
          go_wp2_with fail
          go_quiet (fail)
          go_wp2_with fail
          go_ret
          exact ⟨rfl, below_drewN HB3.out _⟩
        | false =>
          cases b2 with
          | true =>
            go_wp2_with fail
            go_quiet (fail)
            go_wp2_with fail
            go_ret
            exact ⟨rfl, below_drewN HB3.out _⟩
          | false =>
            cases b3 with
            | true =>
              go_wp2_with fail
              go_quiet (fail)
              go_wp2_with fail
              go_ret
              exact ⟨rfl, below_drewN HB3.out _⟩
            | false =>
              go_wp2_with fail
              go_quiet (fail)
              obtain ⟨w4, hw4⟩ : ∃ w4, w3.drewN nq = w4 := ⟨_, rfl⟩
              have HB4 := Lib.hid (show Below W.heap.size W w4 from hw4 ▸ below_drewN HB3.out _)
              have HCE := Lib.hid (show w4.cell? ⟨N0, 3, none⟩ = some (.slice Am lm cm) from hw4 ▸ HCC.out.2.2.1)
              have n2 : w4.cell? ⟨N0, 2, none⟩ = some (.int .i64 xe) := hw4 ▸ HCC.out.2.1
              have n1 : w4.cell? ⟨B, 1, none⟩ = some (.slice A m cap) := hw4 ▸ HCC.out.2.2.2
              rw [hw4]
              clear hw4 m1 m2 m3 e1
              cases lb with
              | false =>
                go_wp2_with fail
                go_quiet (fail)
                have n3 : (w4.drewN nq).cell? ⟨N0, 3, none⟩ = some (.slice Am lm cm) := HCE.out
                have HB5 := Lib.hid (below_drewN HB4.out nq)
                go_wp2_with fail
                refine (HCP.out _ HB5.out).mono ?_
                rintro e w6 ⟨rfl, hb6⟩
                have HB6 := Lib.hid (HB5.out.trans (hb6.mono HB5.out.size))
                clear hb6
                go_wp2_with fail
                go_ret
                exact ⟨rfl, HB6.out⟩
              | true =>
                cases b4 with
                | true =>
                  go_wp2_with fail
                  go_quiet (fail)
                  go_wp2_with fail
                  go_ret
                  exact ⟨rfl, below_drewN HB4.out _⟩
                | false =>
                  go_wp2_with fail
                  go_quiet (fail)
                  have n3 : (w4.drewN nq).cell? ⟨N0, 3, none⟩ = some (.slice Am lm cm) := HCE.out
                  have HB5 := Lib.hid (below_drewN HB4.out nq)
                  go_wp2_with fail
                  refine (HCP.out _ HB5.out).mono ?_
                  rintro e w6 ⟨rfl, hb6⟩
                  have HB6 := Lib.hid (HB5.out.trans (hb6.mono HB5.out.size))
                  clear hb6
                  go_wp2_with fail
                  go_ret
                  exact ⟨rfl, HB6.out⟩
  · obtain ⟨k, rfl⟩ : ∃ k, i = k + 1 := ⟨i - 1, by omega⟩
    have f2 := HPX.out k rfl
    clear HPX HB0 hi0
    have hk1 : ((k + 1 : Nat) : Int) = (k : Int) + 1 := by omega
    rw [hk1] at hlb hlt hfb ⊢
    clear hk1
    have hpos : (0 : Int) < (k : Int) + 1 := by omega
    go_enter Tryz.func24, Tryz.ntmps24
    go_wp2_with fail
    rw [HX.out, HN0.out]
    clear k0 k1 k2 k3 c0 c1 c2 c3 c4 c5 c6 l2 f2
    cases a with
    | false =>
      refine (HVN.out _).mono ?_
      rintro e w1 ⟨rfl, rfl⟩
      go_wp2_with fail
      go_ret
      exact ⟨rfl, HN0.out ▸ HBX.out⟩
    | true =>
      refine (HVN.out _).mono ?_
      rintro e w1 ⟨rfl, rfl⟩
      obtain ⟨d0, d1, d2', d3, d4, d5, d6, g0'⟩ := HS.out _ (Below.refl _ _)
      have d2 : w1.cell? ⟨B, 2, none⟩ = some (.slice (some ⟨bk, off, none⟩) n cap2) := d2'
      have d0 : w1.cell? ⟨B, 0, none⟩ = some va := d0
      have d1 : w1.cell? ⟨B, 1, none⟩ = some (.slice A m cap) := d1
      have d3 : w1.cell? ⟨B, 3, none⟩ = some vr := d3
      have d4 : w1.cell? ⟨B, 4, none⟩ = some vn := d4
      have d5 : w1.cell? ⟨B, 5, none⟩ = some vh := d5
      have d6 : w1.cell? ⟨B, 6, none⟩ = some vl := d6
      clear d2' g0'
      go_wp2_with fail
      go_region_held3 (fun w' => w'.cell? ⟨B, 0, none⟩ = some va ∧ w'.cell? ⟨B, 1, none⟩ = some (.slice A m cap) ∧ w'.cell? ⟨B, 2, none⟩ = some (.slice (some ⟨bk, off, none⟩) n cap2) ∧ w'.cell? ⟨B, 3, none⟩ = some vr ∧ w'.cell? ⟨B, 4, none⟩ = some vn ∧ w'.cell? ⟨B, 5, none⟩ = some vh ∧ w'.cell? ⟨B, 6, none⟩ = some vl ∧ w'.cell? ⟨N0, 0, none⟩ = some (.string P))
        (first
          | go_keep
          | (exact HS.out _ hb3)
          | fail)
        ((first
          | (go_at_call 54; (with_reducible refine (HFT.out _ (Below.refl _ _)).mono ?_); rintro e w3 ⟨rfl, hb3⟩)
          | fail))
      obtain ⟨m1, m2, m3, e1⟩ := HC1.out w3 hb3
      have HB3 := Lib.hid (HBX.out.drew.trans (hb3.mono HBX.out.size))
      have HCC := Lib.hid (HC1.out w3 hb3)
      clear hb3
      cases q with
      | true =>
        go_wp2_with fail
        go_ret
        exact ⟨rfl, HB3.out⟩
      | false =>
        cases b1 with
        | true =>
          go_wp2_with fail
          go_quiet (fail)
          go_wp2_with fail
          go_ret
          exact ⟨rfl, below_drewN HB3.out _⟩
        | false =>
          cases b2 with
          | true =>
            go_wp2_with fail
            go_quiet (fail)
            go_wp2_with fail
            go_ret
            exact ⟨rfl, below_drewN HB3.out _⟩
          | false =>
            cases b3 with
            | true =>
              go_wp2_with fail
              go_quiet (fail)
              go_wp2_with fail
              go_ret
              exact ⟨rfl, below_drewN HB3.out _⟩
            | false =>
              go_wp2_with fail
              go_quiet (fail)
              obtain ⟨w4, hw4⟩ : ∃ w4, w3.drewN nq = w4 := ⟨_, rfl⟩
              have HB4 := Lib.hid (show Below W.heap.size W w4 from hw4 ▸ below_drewN HB3.out _)
              have HCE := Lib.hid (show w4.cell? ⟨N0, 3, none⟩ = some (.slice Am lm cm) from hw4 ▸ HCC.out.2.2.1)
              have n2 : w4.cell? ⟨N0, 2, none⟩ = some (.int .i64 xe) := hw4 ▸ HCC.out.2.1
              have n1 : w4.cell? ⟨B, 1, none⟩ = some (.slice A m cap) := hw4 ▸ HCC.out.2.2.2
              rw [hw4]
              clear hw4 m1 m2 m3 e1
              cases lb with
              | false =>
                go_wp2_with fail
                go_quiet (fail)
                have n3 : (w4.drewN nq).cell? ⟨N0, 3, none⟩ = some (.slice Am lm cm) := HCE.out
                have HB5 := Lib.hid (below_drewN HB4.out nq)
                go_wp2_with fail
                refine (HCP.out _ HB5.out).mono ?_
                rintro e w6 ⟨rfl, hb6⟩
                have HB6 := Lib.hid (HB5.out.trans (hb6.mono HB5.out.size))
                clear hb6
                go_wp2_with fail
                go_ret
                exact ⟨rfl, HB6.out⟩
              | true =>
                cases b4 with
                | true =>
                  go_wp2_with fail
                  go_quiet (fail)
                  go_wp2_with fail
                  go_ret
                  exact ⟨rfl, below_drewN HB4.out _⟩
                | false =>
                  go_wp2_with fail
                  go_quiet (fail)
                  have n3 : (w4.drewN nq).cell? ⟨N0, 3, none⟩ = some (.slice Am lm cm) := HCE.out
                  have HB5 := Lib.hid (below_drewN HB4.out nq)
                  go_wp2_with fail
                  refine (HCP.out _ HB5.out).mono ?_
                  rintro e w6 ⟨rfl, hb6⟩
                  have HB6 := Lib.hid (HB5.out.trans (hb6.mono HB5.out.size))
                  clear hb6
                  go_wp2_with fail
                  go_ret
                  exact ⟨rfl, HB6.out⟩
end Go.Proofs.YtmjmidgfdjcbfaaGreatDoor
