/-
  WALKS over the library: slices.IndexFunc and ContainsFunc at the element types of package corpus.
-/
import Derived.Test.YtglafkonpbcegaaGreatQaR
import Derived.Test.YtglafkonpbcegaaGreatQbM
import Derived.BigQuiet
import Derived.Deep.QuietTactic
namespace Go.Proofs.YtglafkonpbcegaaGreat
open Go.RowKit Go.Shelf Go.Lib

theorem findZ_hit {α : Type} {p : α → Bool} {xs : List α} {k : Nat} {x : α} (hx : xs[k]? = some x) (hp : p x = true) (h : ∀ (j : Nat) (y : α), j < k → xs[j]? = some y → p y = false) : findZ p xs = (k : Int) := findZ_at hx hp h
theorem findZ_miss {α : Type} {p : α → Bool} {xs : List α} {k : Nat} (hk : k = xs.length) (h : ∀ (j : Nat) (y : α), j < k → xs[j]? = some y → p y = false) : findZ p xs = -1 := by
  rcases findZ_spec p xs with ⟨e, _⟩ | ⟨i, x, hi, hp, _, _⟩
  · exact e
  · have := (List.getElem?_eq_some_iff.1 hi).1
    rw [h i x (by omega) hi] at hp
    cases hp
theorem any_findZ {α : Type} (p : α → Bool) (xs : List α) : decide (0 ≤ findZ p xs) = xs.any p := by
  rcases findZ_spec p xs with ⟨e, h⟩ | ⟨i, x, hi, hp, _, e⟩
  · rw [e, Bool.eq_iff_iff]
    simp only [decide_eq_true_eq, List.any_eq_true]
    exact ⟨fun h => by omega, fun ⟨x, hx, hp⟩ => by rw [h x hx] at hp; cases hp⟩
  · rw [e, Bool.eq_iff_iff]
    simp only [decide_eq_true_eq, List.any_eq_true]
    exact ⟨fun _ => ⟨x, List.mem_of_getElem? hi, hp⟩, fun _ => by omega⟩

set_option maxRecDepth 100000 in
set_option maxHeartbeats 2000000 in
theorem indexFunc_text {α : Type} {E : World → List Value → α → Prop} (hE : Stays E) {w : World} {v : Value} {xs : List α} (hv : Rows 4 E w v xs) (hl : xs.length ≤ maxLen) (g : FuncId) (lb : Array Value)
    (eg : ∀ args w, (callFunc g args).run Tryz.prog w = .ok (.enter g args) w) (p : α → Bool)
    (hp : ∀ (W : World) (x : α) (u0 u1 u2 u3 : Value), Below w.heap.size w W → x ∈ xs → E W [u0, u1, u2, u3] x → Calls Tryz.prog g (#[.agg #[u0, u1, u2, u3]] ++ lb) W fun e w' => e = .returned (.bool (p x)) ∧ Below W.heap.size W w') :
    Calls Tryz.prog 70 #[v, .func (.func g) #[] lb] w fun e w' => e = .returned (.int .i64 (findZ p xs)) ∧ Below w.heap.size w w' := by
  obtain ⟨A, cap, rfl, hc⟩ := hv.form
  obtain ⟨n, hn⟩ : ∃ n, xs.length = n := ⟨_, rfl⟩
  have HV := Lib.hid (fun W (h : Below w.heap.size w W) => hv.below hE h)
  rw [hn] at hc hl HV ⊢
  have HN := Lib.hid hn
  have HP := Lib.hid hp
  unfold maxLen at hl
  clear hn hv hp hE
  go_enter Tryz.func70, Tryz.ntmps70
  go_wp2_with fail
  go_loopw [5, 8] (fun _ i wr => ∃ k : Nat, k ≤ n ∧ i = .int .i64 k ∧ Hid (∀ (j : Nat) (y : α), j < k → xs[j]? = some y → p y = false) ∧ Below w.heap.size w wr) (fun _ i _ => n - (Go.RowKit.intOf i).toNat)
  case atStart => exact ⟨0, Nat.zero_le _, rfl, Lib.hid (fun j y h => absurd h (by omega)), Below.refl _ _⟩
  case round =>
    obtain ⟨k, hk, rfl, hs, hb⟩ := hrel
    by_cases hlt : k < n
    · obtain ⟨x, hx⟩ : ∃ x, xs[k]? = some x := ⟨_, List.getElem?_eq_getElem (by rw [HN.out]; omega)⟩
      obtain ⟨bk, off, rfl, hbl, hj⟩ := (HV.out wr hb).at' (by rw [HN.out]; omega)
      obtain ⟨cs, hcl, hec, hcell⟩ := hj k x hx
      obtain ⟨u0, u1, u2, u3, rfl⟩ : ∃ u0 u1 u2 u3, cs = [u0, u1, u2, u3] := by
        match cs, hcl with
        | [u0, u1, u2, u3], _ => exact ⟨u0, u1, u2, u3, rfl⟩
      have c0 := hcell 0 _ rfl
      have c1 := hcell 1 _ rfl
      have c2 := hcell 2 _ rfl
      have c3 := hcell 3 _ rfl
      rw [Nat.add_zero] at c0
      have hcall := HP.out wr x u0 u1 u2 u3 hb (List.mem_of_getElem? hx) hec
      obtain ⟨q, hq⟩ : ∃ q, p x = q := ⟨_, rfl⟩
      rw [hq] at hcall
      have HC := Lib.hid hcall
      have HX := Lib.hid hx
      have HQ := Lib.hid hq
      have HB := Lib.hid hb
      clear hcall hx hq hb hj hec hcell hbl
      cases q with
      | true =>
        go_wp2_with (go_at_fn g; refine HC.out.mono ?_; rintro e w' ⟨rfl, hb'⟩)
        go_ret
        exact ⟨by rw [findZ_hit HX.out HQ.out hs.out]; rfl, HB.out.trans (hb'.mono HB.out.size)⟩
      | false =>
        go_wp2_with (go_at_fn g; refine HC.out.mono ?_; rintro e w' ⟨rfl, hb'⟩; have HB' := Lib.hid hb'; clear hb')
        refine ⟨⟨k + 1, by omega, by go_num, Lib.hid (fun j y hj hy => ?_), HB.out.trans (HB'.out.mono HB.out.size)⟩, by simp only [Go.RowKit.intOf]; omega⟩
        by_cases e : j = k
        · subst e
          rw [HX.out] at hy
          cases hy
          exact HQ.out
        · exact hs.out j y (by omega) hy
    · obtain rfl : k = n := by omega
      have HB := Lib.hid hb
      clear hb
      go_wp2_with fail
      go_ret
      exact ⟨by rw [findZ_miss HN.out.symm hs.out]; rfl, HB.out⟩

set_option maxHeartbeats 1000000 in
theorem containsFunc_text {α : Type} {E : World → List Value → α → Prop} (hE : Stays E) {w : World} {v : Value} {xs : List α} (hv : Rows 4 E w v xs) (hl : xs.length ≤ maxLen) (g : FuncId) (lb : Array Value)
    (eg : ∀ args w, (callFunc g args).run Tryz.prog w = .ok (.enter g args) w) (p : α → Bool)
    (hp : ∀ (W : World) (x : α) (u0 u1 u2 u3 : Value), Below w.heap.size w W → x ∈ xs → E W [u0, u1, u2, u3] x → Calls Tryz.prog g (#[.agg #[u0, u1, u2, u3]] ++ lb) W fun e w' => e = .returned (.bool (p x)) ∧ Below W.heap.size W w') :
    Calls Tryz.prog 96 #[v, .func (.func g) #[] lb] w fun e w' => e = .returned (.bool (xs.any p)) ∧ Below w.heap.size w w' := by
  have HI := Lib.hid (indexFunc_text hE hv hl g lb eg p hp)
  rw [← any_findZ]
  obtain ⟨A, cap, rfl, -⟩ := hv.form
  obtain ⟨z, hz⟩ : ∃ z, findZ p xs = z := ⟨_, rfl⟩
  obtain ⟨n, hn⟩ : ∃ n, xs.length = n := ⟨_, rfl⟩
  rw [hz, hn] at HI
  rw [hz, hn]
  clear hz hn hv hp hE hl eg
  go_enter Tryz.func96, Tryz.ntmps96
  go_wp2_with fail
  refine HI.out.mono ?_
  rintro e w' ⟨rfl, hb'⟩
  have HB := Lib.hid hb'
  clear hb'
  go_wp2_with fail
  go_ret
  exact ⟨rfl, HB.out⟩

set_option maxRecDepth 100000 in
set_option maxHeartbeats 2000000 in
theorem indexFunc_attr {α : Type} {E : World → List Value → α → Prop} (hE : Stays E) {w : World} {v : Value} {xs : List α} (hv : Rows 2 E w v xs) (hl : xs.length ≤ maxLen) (g : FuncId) (lb : Array Value)
    (eg : ∀ args w, (callFunc g args).run Tryz.prog w = .ok (.enter g args) w) (p : α → Bool)
    (hp : ∀ (W : World) (x : α) (u0 u1 : Value), Below w.heap.size w W → x ∈ xs → E W [u0, u1] x → Calls Tryz.prog g (#[.agg #[u0, u1]] ++ lb) W fun e w' => e = .returned (.bool (p x)) ∧ Below W.heap.size W w') :
    Calls Tryz.prog 153 #[v, .func (.func g) #[] lb] w fun e w' => e = .returned (.int .i64 (findZ p xs)) ∧ Below w.heap.size w w' := by
  obtain ⟨A, cap, rfl, hc⟩ := hv.form
  obtain ⟨n, hn⟩ : ∃ n, xs.length = n := ⟨_, rfl⟩
  have HV := Lib.hid (fun W (h : Below w.heap.size w W) => hv.below hE h)
  rw [hn] at hc hl HV ⊢
  have HN := Lib.hid hn
  have HP := Lib.hid hp
  unfold maxLen at hl
  clear hn hv hp hE
  go_enter Tryz.func153, Tryz.ntmps153
  go_wp2_with fail
  go_loopw [5, 8] (fun _ i wr => ∃ k : Nat, k ≤ n ∧ i = .int .i64 k ∧ Hid (∀ (j : Nat) (y : α), j < k → xs[j]? = some y → p y = false) ∧ Below w.heap.size w wr) (fun _ i _ => n - (Go.RowKit.intOf i).toNat)
  case atStart => exact ⟨0, Nat.zero_le _, rfl, Lib.hid (fun j y h => absurd h (by omega)), Below.refl _ _⟩
  case round =>
    obtain ⟨k, hk, rfl, hs, hb⟩ := hrel
    by_cases hlt : k < n
    · obtain ⟨x, hx⟩ : ∃ x, xs[k]? = some x := ⟨_, List.getElem?_eq_getElem (by rw [HN.out]; omega)⟩
      obtain ⟨bk, off, rfl, hbl, hj⟩ := (HV.out wr hb).at' (by rw [HN.out]; omega)
      obtain ⟨cs, hcl, hec, hcell⟩ := hj k x hx
      obtain ⟨u0, u1, rfl⟩ : ∃ u0 u1, cs = [u0, u1] := by
        match cs, hcl with
        | [u0, u1], _ => exact ⟨u0, u1, rfl⟩
      have c0 := hcell 0 _ rfl
      have c1 := hcell 1 _ rfl
      rw [Nat.add_zero] at c0
      have hcall := HP.out wr x u0 u1 hb (List.mem_of_getElem? hx) hec
      obtain ⟨q, hq⟩ : ∃ q, p x = q := ⟨_, rfl⟩
      rw [hq] at hcall
      have HC := Lib.hid hcall
      have HX := Lib.hid hx
      have HQ := Lib.hid hq
      have HB := Lib.hid hb
      clear hcall hx hq hb hj hec hcell hbl
      cases q with
      | true =>
        go_wp2_with (go_at_fn g; refine HC.out.mono ?_; rintro e w' ⟨rfl, hb'⟩)
        go_ret
        exact ⟨by rw [findZ_hit HX.out HQ.out hs.out]; rfl, HB.out.trans (hb'.mono HB.out.size)⟩
      | false =>
        go_wp2_with (go_at_fn g; refine HC.out.mono ?_; rintro e w' ⟨rfl, hb'⟩; have HB' := Lib.hid hb'; clear hb')
        refine ⟨⟨k + 1, by omega, by go_num, Lib.hid (fun j y hj hy => ?_), HB.out.trans (HB'.out.mono HB.out.size)⟩, by simp only [Go.RowKit.intOf]; omega⟩
        by_cases e : j = k
        · subst e
          rw [HX.out] at hy
          cases hy
          exact HQ.out
        · exact hs.out j y (by omega) hy
    · obtain rfl : k = n := by omega
      have HB := Lib.hid hb
      clear hb
      go_wp2_with fail
      go_ret
      exact ⟨by rw [findZ_miss HN.out.symm hs.out]; rfl, HB.out⟩

set_option maxHeartbeats 1000000 in
theorem containsFunc_attr {α : Type} {E : World → List Value → α → Prop} (hE : Stays E) {w : World} {v : Value} {xs : List α} (hv : Rows 2 E w v xs) (hl : xs.length ≤ maxLen) (g : FuncId) (lb : Array Value)
    (eg : ∀ args w, (callFunc g args).run Tryz.prog w = .ok (.enter g args) w) (p : α → Bool)
    (hp : ∀ (W : World) (x : α) (u0 u1 : Value), Below w.heap.size w W → x ∈ xs → E W [u0, u1] x → Calls Tryz.prog g (#[.agg #[u0, u1]] ++ lb) W fun e w' => e = .returned (.bool (p x)) ∧ Below W.heap.size W w') :
    Calls Tryz.prog 122 #[v, .func (.func g) #[] lb] w fun e w' => e = .returned (.bool (xs.any p)) ∧ Below w.heap.size w w' := by
  have HI := Lib.hid (indexFunc_attr hE hv hl g lb eg p hp)
  rw [← any_findZ]
  obtain ⟨A, cap, rfl, -⟩ := hv.form
  obtain ⟨z, hz⟩ : ∃ z, findZ p xs = z := ⟨_, rfl⟩
  obtain ⟨n, hn⟩ : ∃ n, xs.length = n := ⟨_, rfl⟩
  rw [hz, hn] at HI
  rw [hz, hn]
  clear hz hn hv hp hE hl eg
  go_enter Tryz.func122, Tryz.ntmps122
  go_wp2_with fail
  refine HI.out.mono ?_
  rintro e w' ⟨rfl, hb'⟩
  have HB := Lib.hid hb'
  clear hb'
  go_wp2_with fail
  go_ret
  exact ⟨rfl, HB.out⟩

set_option maxRecDepth 100000 in
set_option maxHeartbeats 2000000 in
theorem indexFunc_reg {α : Type} {E : World → List Value → α → Prop} (hE : Stays E) {w : World} {v : Value} {xs : List α} (hv : Rows 4 E w v xs) (hl : xs.length ≤ maxLen) (g : FuncId) (lb : Array Value)
    (eg : ∀ args w, (callFunc g args).run Tryz.prog w = .ok (.enter g args) w) (p : α → Bool)
    (hp : ∀ (W : World) (x : α) (u0 u1 u2 u3 : Value), Below w.heap.size w W → x ∈ xs → E W [u0, u1, u2, u3] x → Calls Tryz.prog g (#[.agg #[u0, u1, u2, u3]] ++ lb) W fun e w' => e = .returned (.bool (p x)) ∧ Below W.heap.size W w') :
    Calls Tryz.prog 156 #[v, .func (.func g) #[] lb] w fun e w' => e = .returned (.int .i64 (findZ p xs)) ∧ Below w.heap.size w w' := by
  obtain ⟨A, cap, rfl, hc⟩ := hv.form
  obtain ⟨n, hn⟩ : ∃ n, xs.length = n := ⟨_, rfl⟩
  have HV := Lib.hid (fun W (h : Below w.heap.size w W) => hv.below hE h)
  rw [hn] at hc hl HV ⊢
  have HN := Lib.hid hn
  have HP := Lib.hid hp
  unfold maxLen at hl
  clear hn hv hp hE
  go_enter Tryz.func156, Tryz.ntmps156
  go_wp2_with fail
  go_loopw [5, 8] (fun _ i wr => ∃ k : Nat, k ≤ n ∧ i = .int .i64 k ∧ Hid (∀ (j : Nat) (y : α), j < k → xs[j]? = some y → p y = false) ∧ Below w.heap.size w wr) (fun _ i _ => n - (Go.RowKit.intOf i).toNat)
  case atStart => exact ⟨0, Nat.zero_le _, rfl, Lib.hid (fun j y h => absurd h (by omega)), Below.refl _ _⟩
  case round =>
    obtain ⟨k, hk, rfl, hs, hb⟩ := hrel
    by_cases hlt : k < n
    · obtain ⟨x, hx⟩ : ∃ x, xs[k]? = some x := ⟨_, List.getElem?_eq_getElem (by rw [HN.out]; omega)⟩
      obtain ⟨bk, off, rfl, hbl, hj⟩ := (HV.out wr hb).at' (by rw [HN.out]; omega)
      obtain ⟨cs, hcl, hec, hcell⟩ := hj k x hx
      obtain ⟨u0, u1, u2, u3, rfl⟩ : ∃ u0 u1 u2 u3, cs = [u0, u1, u2, u3] := by
        match cs, hcl with
        | [u0, u1, u2, u3], _ => exact ⟨u0, u1, u2, u3, rfl⟩
      have c0 := hcell 0 _ rfl
      have c1 := hcell 1 _ rfl
      have c2 := hcell 2 _ rfl
      have c3 := hcell 3 _ rfl
      rw [Nat.add_zero] at c0
      have hcall := HP.out wr x u0 u1 u2 u3 hb (List.mem_of_getElem? hx) hec
      obtain ⟨q, hq⟩ : ∃ q, p x = q := ⟨_, rfl⟩
      rw [hq] at hcall
      have HC := Lib.hid hcall
      have HX := Lib.hid hx
      have HQ := Lib.hid hq
      have HB := Lib.hid hb
      clear hcall hx hq hb hj hec hcell hbl
      cases q with
      | true =>
        go_wp2_with (go_at_fn g; refine HC.out.mono ?_; rintro e w' ⟨rfl, hb'⟩)
        go_ret
        exact ⟨by rw [findZ_hit HX.out HQ.out hs.out]; rfl, HB.out.trans (hb'.mono HB.out.size)⟩
      | false =>
        go_wp2_with (go_at_fn g; refine HC.out.mono ?_; rintro e w' ⟨rfl, hb'⟩; have HB' := Lib.hid hb'; clear hb')
        refine ⟨⟨k + 1, by omega, by go_num, Lib.hid (fun j y hj hy => ?_), HB.out.trans (HB'.out.mono HB.out.size)⟩, by simp only [Go.RowKit.intOf]; omega⟩
        by_cases e : j = k
        · subst e
          rw [HX.out] at hy
          cases hy
          exact HQ.out
        · exact hs.out j y (by omega) hy
    · obtain rfl : k = n := by omega
      have HB := Lib.hid hb
      clear hb
      go_wp2_with fail
      go_ret
      exact ⟨by rw [findZ_miss HN.out.symm hs.out]; rfl, HB.out⟩

set_option maxHeartbeats 1000000 in
theorem containsFunc_reg {α : Type} {E : World → List Value → α → Prop} (hE : Stays E) {w : World} {v : Value} {xs : List α} (hv : Rows 4 E w v xs) (hl : xs.length ≤ maxLen) (g : FuncId) (lb : Array Value)
    (eg : ∀ args w, (callFunc g args).run Tryz.prog w = .ok (.enter g args) w) (p : α → Bool)
    (hp : ∀ (W : World) (x : α) (u0 u1 u2 u3 : Value), Below w.heap.size w W → x ∈ xs → E W [u0, u1, u2, u3] x → Calls Tryz.prog g (#[.agg #[u0, u1, u2, u3]] ++ lb) W fun e w' => e = .returned (.bool (p x)) ∧ Below W.heap.size W w') :
    Calls Tryz.prog 131 #[v, .func (.func g) #[] lb] w fun e w' => e = .returned (.bool (xs.any p)) ∧ Below w.heap.size w w' := by
  have HI := Lib.hid (indexFunc_reg hE hv hl g lb eg p hp)
  rw [← any_findZ]
  obtain ⟨A, cap, rfl, -⟩ := hv.form
  obtain ⟨z, hz⟩ : ∃ z, findZ p xs = z := ⟨_, rfl⟩
  obtain ⟨n, hn⟩ : ∃ n, xs.length = n := ⟨_, rfl⟩
  rw [hz, hn] at HI
  rw [hz, hn]
  clear hz hn hv hp hE hl eg
  go_enter Tryz.func131, Tryz.ntmps131
  go_wp2_with fail
  refine HI.out.mono ?_
  rintro e w' ⟨rfl, hb'⟩
  have HB := Lib.hid hb'
  clear hb'
  go_wp2_with fail
  go_ret
  exact ⟨rfl, HB.out⟩

set_option maxRecDepth 100000 in
set_option maxHeartbeats 2000000 in
theorem indexFunc_int {α : Type} {E : World → List Value → α → Prop} (hE : Stays E) {w : World} {v : Value} {xs : List α} (hv : Rows 1 E w v xs) (hl : xs.length ≤ maxLen) (g : FuncId) (lb : Array Value)
    (eg : ∀ args w, (callFunc g args).run Tryz.prog w = .ok (.enter g args) w) (p : α → Bool)
    (hp : ∀ (W : World) (x : α) (u0 : Value), Below w.heap.size w W → x ∈ xs → E W [u0] x → Calls Tryz.prog g (#[u0] ++ lb) W fun e w' => e = .returned (.bool (p x)) ∧ Below W.heap.size W w') :
    Calls Tryz.prog 162 #[v, .func (.func g) #[] lb] w fun e w' => e = .returned (.int .i64 (findZ p xs)) ∧ Below w.heap.size w w' := by
  obtain ⟨A, cap, rfl, hc⟩ := hv.form
  obtain ⟨n, hn⟩ : ∃ n, xs.length = n := ⟨_, rfl⟩
  have HV := Lib.hid (fun W (h : Below w.heap.size w W) => hv.below hE h)
  rw [hn] at hc hl HV ⊢
  have HN := Lib.hid hn
  have HP := Lib.hid hp
  unfold maxLen at hl
  clear hn hv hp hE
  go_enter Tryz.func162, Tryz.ntmps162
  go_wp2_with fail
  go_loopw [5, 8] (fun _ i wr => ∃ k : Nat, k ≤ n ∧ i = .int .i64 k ∧ Hid (∀ (j : Nat) (y : α), j < k → xs[j]? = some y → p y = false) ∧ Below w.heap.size w wr) (fun _ i _ => n - (Go.RowKit.intOf i).toNat)
  case atStart => exact ⟨0, Nat.zero_le _, rfl, Lib.hid (fun j y h => absurd h (by omega)), Below.refl _ _⟩
  case round =>
    obtain ⟨k, hk, rfl, hs, hb⟩ := hrel
    by_cases hlt : k < n
    · obtain ⟨x, hx⟩ : ∃ x, xs[k]? = some x := ⟨_, List.getElem?_eq_getElem (by rw [HN.out]; omega)⟩
      obtain ⟨bk, off, rfl, hbl, hj⟩ := (HV.out wr hb).at' (by rw [HN.out]; omega)
      obtain ⟨cs, hcl, hec, hcell⟩ := hj k x hx
      obtain ⟨u0, rfl⟩ : ∃ u0, cs = [u0] := by
        match cs, hcl with
        | [u0], _ => exact ⟨u0, rfl⟩
      have c0 := hcell 0 _ rfl
      rw [Nat.mul_one, Nat.add_zero] at c0
      have hcall := HP.out wr x u0 hb (List.mem_of_getElem? hx) hec
      obtain ⟨q, hq⟩ : ∃ q, p x = q := ⟨_, rfl⟩
      rw [hq] at hcall
      have HC := Lib.hid hcall
      have HX := Lib.hid hx
      have HQ := Lib.hid hq
      have HB := Lib.hid hb
      clear hcall hx hq hb hj hec hcell hbl
      cases q with
      | true =>
        go_wp2_with (go_at_fn g; refine HC.out.mono ?_; rintro e w' ⟨rfl, hb'⟩)
        go_ret
        exact ⟨by rw [findZ_hit HX.out HQ.out hs.out]; rfl, HB.out.trans (hb'.mono HB.out.size)⟩
      | false =>
        go_wp2_with (go_at_fn g; refine HC.out.mono ?_; rintro e w' ⟨rfl, hb'⟩; have HB' := Lib.hid hb'; clear hb')
        refine ⟨⟨k + 1, by omega, by go_num, Lib.hid (fun j y hj hy => ?_), HB.out.trans (HB'.out.mono HB.out.size)⟩, by simp only [Go.RowKit.intOf]; omega⟩
        by_cases e : j = k
        · subst e
          rw [HX.out] at hy
          cases hy
          exact HQ.out
        · exact hs.out j y (by omega) hy
    · obtain rfl : k = n := by omega
      have HB := Lib.hid hb
      clear hb
      go_wp2_with fail
      go_ret
      exact ⟨by rw [findZ_miss HN.out.symm hs.out]; rfl, HB.out⟩

set_option maxHeartbeats 1000000 in
theorem containsFunc_int {α : Type} {E : World → List Value → α → Prop} (hE : Stays E) {w : World} {v : Value} {xs : List α} (hv : Rows 1 E w v xs) (hl : xs.length ≤ maxLen) (g : FuncId) (lb : Array Value)
    (eg : ∀ args w, (callFunc g args).run Tryz.prog w = .ok (.enter g args) w) (p : α → Bool)
    (hp : ∀ (W : World) (x : α) (u0 : Value), Below w.heap.size w W → x ∈ xs → E W [u0] x → Calls Tryz.prog g (#[u0] ++ lb) W fun e w' => e = .returned (.bool (p x)) ∧ Below W.heap.size W w') :
    Calls Tryz.prog 148 #[v, .func (.func g) #[] lb] w fun e w' => e = .returned (.bool (xs.any p)) ∧ Below w.heap.size w w' := by
  have HI := Lib.hid (indexFunc_int hE hv hl g lb eg p hp)
  rw [← any_findZ]
  obtain ⟨A, cap, rfl, -⟩ := hv.form
  obtain ⟨z, hz⟩ : ∃ z, findZ p xs = z := ⟨_, rfl⟩
  obtain ⟨n, hn⟩ : ∃ n, xs.length = n := ⟨_, rfl⟩
  rw [hz, hn] at HI
  rw [hz, hn]
  clear hz hn hv hp hE hl eg
  go_enter Tryz.func148, Tryz.ntmps148
  go_wp2_with fail
  refine HI.out.mono ?_
  rintro e w' ⟨rfl, hb'⟩
  have HB := Lib.hid hb'
  clear hb'
  go_wp2_with fail
  go_ret
  exact ⟨rfl, HB.out⟩

set_option maxRecDepth 100000 in
set_option maxHeartbeats 2000000 in
theorem indexFunc_str {α : Type} {E : World → List Value → α → Prop} (hE : Stays E) {w : World} {v : Value} {xs : List α} (hv : Rows 1 E w v xs) (hl : xs.length ≤ maxLen) (g : FuncId) (lb : Array Value)
    (eg : ∀ args w, (callFunc g args).run Tryz.prog w = .ok (.enter g args) w) (p : α → Bool)
    (hp : ∀ (W : World) (x : α) (u0 : Value), Below w.heap.size w W → x ∈ xs → E W [u0] x → Calls Tryz.prog g (#[u0] ++ lb) W fun e w' => e = .returned (.bool (p x)) ∧ Below W.heap.size W w') :
    Calls Tryz.prog 163 #[v, .func (.func g) #[] lb] w fun e w' => e = .returned (.int .i64 (findZ p xs)) ∧ Below w.heap.size w w' := by
  obtain ⟨A, cap, rfl, hc⟩ := hv.form
  obtain ⟨n, hn⟩ : ∃ n, xs.length = n := ⟨_, rfl⟩
  have HV := Lib.hid (fun W (h : Below w.heap.size w W) => hv.below hE h)
  rw [hn] at hc hl HV ⊢
  have HN := Lib.hid hn
  have HP := Lib.hid hp
  unfold maxLen at hl
  clear hn hv hp hE
  go_enter Tryz.func163, Tryz.ntmps163
  go_wp2_with fail
  go_loopw [5, 8] (fun _ i wr => ∃ k : Nat, k ≤ n ∧ i = .int .i64 k ∧ Hid (∀ (j : Nat) (y : α), j < k → xs[j]? = some y → p y = false) ∧ Below w.heap.size w wr) (fun _ i _ => n - (Go.RowKit.intOf i).toNat)
  case atStart => exact ⟨0, Nat.zero_le _, rfl, Lib.hid (fun j y h => absurd h (by omega)), Below.refl _ _⟩
  case round =>
    obtain ⟨k, hk, rfl, hs, hb⟩ := hrel
    by_cases hlt : k < n
    · obtain ⟨x, hx⟩ : ∃ x, xs[k]? = some x := ⟨_, List.getElem?_eq_getElem (by rw [HN.out]; omega)⟩
      obtain ⟨bk, off, rfl, hbl, hj⟩ := (HV.out wr hb).at' (by rw [HN.out]; omega)
      obtain ⟨cs, hcl, hec, hcell⟩ := hj k x hx
      obtain ⟨u0, rfl⟩ : ∃ u0, cs = [u0] := by
        match cs, hcl with
        | [u0], _ => exact ⟨u0, rfl⟩
      have c0 := hcell 0 _ rfl
      rw [Nat.mul_one, Nat.add_zero] at c0
      have hcall := HP.out wr x u0 hb (List.mem_of_getElem? hx) hec
      obtain ⟨q, hq⟩ : ∃ q, p x = q := ⟨_, rfl⟩
      rw [hq] at hcall
      have HC := Lib.hid hcall
      have HX := Lib.hid hx
      have HQ := Lib.hid hq
      have HB := Lib.hid hb
      clear hcall hx hq hb hj hec hcell hbl
      cases q with
      | true =>
        go_wp2_with (go_at_fn g; refine HC.out.mono ?_; rintro e w' ⟨rfl, hb'⟩)
        go_ret
        exact ⟨by rw [findZ_hit HX.out HQ.out hs.out]; rfl, HB.out.trans (hb'.mono HB.out.size)⟩
      | false =>
        go_wp2_with (go_at_fn g; refine HC.out.mono ?_; rintro e w' ⟨rfl, hb'⟩; have HB' := Lib.hid hb'; clear hb')
        refine ⟨⟨k + 1, by omega, by go_num, Lib.hid (fun j y hj hy => ?_), HB.out.trans (HB'.out.mono HB.out.size)⟩, by simp only [Go.RowKit.intOf]; omega⟩
        by_cases e : j = k
        · subst e
          rw [HX.out] at hy
          cases hy
          exact HQ.out
        · exact hs.out j y (by omega) hy
    · obtain rfl : k = n := by omega
      have HB := Lib.hid hb
      clear hb
      go_wp2_with fail
      go_ret
      exact ⟨by rw [findZ_miss HN.out.symm hs.out]; rfl, HB.out⟩

set_option maxHeartbeats 1000000 in
theorem containsFunc_str {α : Type} {E : World → List Value → α → Prop} (hE : Stays E) {w : World} {v : Value} {xs : List α} (hv : Rows 1 E w v xs) (hl : xs.length ≤ maxLen) (g : FuncId) (lb : Array Value)
    (eg : ∀ args w, (callFunc g args).run Tryz.prog w = .ok (.enter g args) w) (p : α → Bool)
    (hp : ∀ (W : World) (x : α) (u0 : Value), Below w.heap.size w W → x ∈ xs → E W [u0] x → Calls Tryz.prog g (#[u0] ++ lb) W fun e w' => e = .returned (.bool (p x)) ∧ Below W.heap.size W w') :
    Calls Tryz.prog 150 #[v, .func (.func g) #[] lb] w fun e w' => e = .returned (.bool (xs.any p)) ∧ Below w.heap.size w w' := by
  have HI := Lib.hid (indexFunc_str hE hv hl g lb eg p hp)
  rw [← any_findZ]
  obtain ⟨A, cap, rfl, -⟩ := hv.form
  obtain ⟨z, hz⟩ : ∃ z, findZ p xs = z := ⟨_, rfl⟩
  obtain ⟨n, hn⟩ : ∃ n, xs.length = n := ⟨_, rfl⟩
  rw [hz, hn] at HI
  rw [hz, hn]
  clear hz hn hv hp hE hl eg
  go_enter Tryz.func150, Tryz.ntmps150
  go_wp2_with fail
  refine HI.out.mono ?_
  rintro e w' ⟨rfl, hb'⟩
  have HB := Lib.hid hb'
  clear hb'
  go_wp2_with fail
  go_ret
  exact ⟨rfl, HB.out⟩
end Go.Proofs.YtglafkonpbcegaaGreat
