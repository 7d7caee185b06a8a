/-
  WALKS over package depend: validRelations (for Format).
-/
import Derived.Test.YtpkkebojiengpaaGreatDoorDbD
import Derived.Test.YtpkkebojiengpaaGreatDoorDaC
namespace Go.Proofs.YtpkkebojiengpaaGreatDoor
open Go.RowKit Go.Shelf Go.Lib
set_option linter.unusedVariables false

set_option maxHeartbeats 1000000 in
theorem indexFunc_str {α : Type} {E : World → List Value → α → Prop} (hE : Stays E) {w : World} {v : Value} {xs : List α} (hv : Rows 1 E w v xs) (hl : xs.length ≤ maxLen) (g : FuncId) (lb : Array Value)
    (eg : ∀ args w, (callFunc g args).run Tryz.prog w = .ok (.enter g args) w) (p : α → Bool)
    (hp : ∀ (W : World) (x : α) (u0 : Value), Below w.heap.size w W → x ∈ xs → E W [u0] x → Calls Tryz.prog g (#[u0] ++ lb) W fun e w' => e = .returned (.bool (p x)) ∧ Below W.heap.size W w') :
    Calls Tryz.prog 41 #[v, .func (.func g) #[] lb] w fun e w' => e = .returned (.int .i64 (findZ p xs)) ∧ Below w.heap.size w w' := by
  obtain ⟨A, cap, rfl, hc⟩ := hv.form
  obtain ⟨n, hn⟩ : ∃ n, xs.length = n := ⟨_, rfl⟩
  have HV := Lib.hid (fun W (h : Below w.heap.size w W) => hv.below hE h)
  rw [hn] at hc hl HV ⊢
  have HN := Lib.hid hn
  have HP := Lib.hid hp
  unfold maxLen at hl
  clear hn hv hp hE
  go_enter Tryz.func41, Tryz.ntmps41
  go_wp2_with fail
  go_loopw [5, 8] (fun _ i wr => ∃ k : Nat, k ≤ n ∧ i = .int .i64 k ∧ Hid (∀ (j : Nat) (y : α), j < k → xs[j]? = some y → p y = false) ∧ Below w.heap.size w wr) (fun _ i _ => n - (Go.RowKit.intOf i).toNat)
  case atStart => exact ⟨0, Nat.zero_le _, rfl, Lib.hid (fun j y h => absurd h (by omega)), Below.refl _ _⟩
  case round =>
    obtain ⟨k, hk, rfl, hs, hb⟩ := hrel
    by_cases hlt : k < n
    · obtain ⟨x, hx⟩ : ∃ x, xs[k]? = some x := ⟨_, List.getElem?_eq_getElem (by rw [HN.out]; omega)⟩
      obtain ⟨bk, off, rfl, hbl, hj⟩ := (HV.out wr hb).at' (by rw [HN.out]; omega)
      obtain ⟨cs, hcl, hec, hcell⟩ := hj k x hx
      obtain ⟨u0, rfl⟩ : ∃ u0, cs = [u0] := by
        match cs, hcl with
        | [u0], _ => exact ⟨u0, rfl⟩
      have c0 := hcell 0 _ rfl
      rw [Nat.mul_one, Nat.add_zero] at c0
      have hcall := HP.out wr x u0 hb (List.mem_of_getElem? hx) hec
      obtain ⟨q, hq⟩ : ∃ q, p x = q := ⟨_, rfl⟩
      rw [hq] at hcall
      have HC := Lib.hid hcall
      have HX := Lib.hid hx
      have HQ := Lib.hid hq
      have HB := Lib.hid hb
      clear hcall hx hq hb hj hec hcell hbl
      cases q with
      | true =>
        go_wp2_with (go_at_fn g; refine HC.out.mono ?_; rintro e w' ⟨rfl, hb'⟩)
        go_ret
        exact ⟨by rw [findZ_hit HX.out HQ.out hs.out]; rfl, HB.out.trans (hb'.mono HB.out.size)⟩
      | false =>
        go_wp2_with (go_at_fn g; refine HC.out.mono ?_; rintro e w' ⟨rfl, hb'⟩; have HB' := Lib.hid hb'; clear hb')
        refine ⟨⟨k + 1, by omega, by go_num, Lib.hid (fun j y hj hy => ?_), HB.out.trans (HB'.out.mono HB.out.size)⟩, by simp only [Go.RowKit.intOf]; omega⟩
        by_cases e : j = k
        · subst e
          rw [HX.out] at hy
          cases hy
          exact HQ.out
        · exact hs.out j y (by omega) hy
    · obtain rfl : k = n := by omega
      have HB := Lib.hid hb
      clear hb
      go_wp2_with fail
      go_ret
      exact ⟨by rw [findZ_miss HN.out.symm hs.out]; rfl, HB.out⟩

theorem notValid_any (s : ByteArray) (hs : s.size ≤ maxLen) (W : World) :
    Calls Tryz.prog 25 (#[.string s] ++ #[]) W fun e w' => e = .returned (.bool (!relB s.data.toList)) ∧ Below W.heap.size W w' := by
  have HV := Lib.hid (validRelation_any s hs W)
  obtain ⟨q, hq⟩ : ∃ q, relB s.data.toList = q := ⟨_, rfl⟩
  rw [hq] at HV ⊢
  clear hq
  go_enter Tryz.func25, Tryz.ntmps25
  go_wp2_with fail
  refine HV.out.mono ?_
  rintro e w' ⟨rfl, rfl⟩
  cases q with
  | true => go_wp2_with fail; go_ret; exact ⟨rfl, Below.refl _ _⟩
  | false => go_wp2_with fail; go_ret; exact ⟨rfl, Below.refl _ _⟩
/-- All relations are right. -/
def relsB (G : Fs) : Bool := G.all relB
theorem rels_find (G : Fs) : decide (findZ (fun x => !relB x) G ≥ 0) = !relsB G := by
  unfold relsB
  rw [Bool.eq_iff_iff, decide_eq_true_iff]
  have h := findZ_neg (p := fun x => !relB x) (l := G)
  constructor
  · intro hf
    rw [Bool.not_eq_true', ← Bool.not_eq_true, List.all_eq_true]
    intro ha
    have := h.2 (fun x hx => by simp [ha x hx])
    omega
  · intro hf
    rw [Bool.not_eq_true', ← Bool.not_eq_true, List.all_eq_true] at hf
    refine Int.not_lt.1 fun hn => hf fun x hx => ?_
    have := h.1 hn x hx
    simpa using this
set_option maxRecDepth 100000 in
set_option maxHeartbeats 2000000 in
theorem validRelations_any {w : World} {v : Value} {G : Fs} (hv : Rows 1 EStr w v G) (hl : G.length ≤ maxLen) (hz : ∀ x ∈ G, x.length ≤ maxLen) :
    Calls Tryz.prog 8 #[v] w fun e w' => e = .returned (.bool (relsB G)) ∧ Below w.heap.size w w' := by
  have HI := Lib.hid (indexFunc_str stays_str hv hl 25 #[] (fun args w => by kernel_rfl) (fun x => !relB x) (fun W x u0 hb hx he => by
    cases he
    have := notValid_any ⟨x.toArray⟩ (by show x.toArray.size ≤ maxLen; rw [List.size_toArray]; exact hz x hx) W
    exact this))
  have hrf := rels_find G
  obtain ⟨A, cap, rfl, hc⟩ := hv.form
  obtain ⟨z, hzz⟩ : ∃ z, findZ (fun x => !relB x) G = z := ⟨_, rfl⟩
  obtain ⟨q, hq⟩ : ∃ q, relsB G = q := ⟨_, rfl⟩
  obtain ⟨n, hn⟩ : ∃ n, G.length = n := ⟨_, rfl⟩
  rw [hzz] at HI hrf
  rw [hq] at hrf ⊢
  rw [hn] at HI hc ⊢
  have HC : Hid (Calls Tryz.prog 24 #[.slice A n cap, .func (.func 25) #[] #[]] w fun e w' => e = .returned (.bool (!q)) ∧ Below w.heap.size w w') := Lib.hid (by
    clear hv hl hz hzz hq hn
    cases q with
    | true =>
      have hz0 : ¬ z ≥ 0 := by simpa using hrf
      have hz1 : decide (0 ≤ z) = false := decide_eq_false hz0
      clear hrf
      go_enter Tryz.func24, Tryz.ntmps24
      go_wp2_with fail
      refine HI.out.mono ?_
      rintro e w1 ⟨rfl, hb1⟩
      have HB1 := Lib.hid hb1
      clear hb1
      go_wp2_with fail
      go_ret
      exact ⟨by first | rfl | (rw [hz1]; rfl), HB1.out⟩
    | false =>
      have hz0 : z ≥ 0 := by simpa using hrf
      have hz1 : decide (0 ≤ z) = true := decide_eq_true hz0
      clear hrf
      go_enter Tryz.func24, Tryz.ntmps24
      go_wp2_with fail
      refine HI.out.mono ?_
      rintro e w1 ⟨rfl, hb1⟩
      have HB1 := Lib.hid hb1
      clear hb1
      go_wp2_with fail
      go_ret
      exact ⟨by first | rfl | (rw [hz1]; rfl), HB1.out⟩)
  clear hv hl hz hzz hq hn hrf
  go_enter Tryz.func8, Tryz.ntmps8
  go_wp2_with fail
  refine HC.out.mono ?_
  rintro e w1 ⟨rfl, hb1⟩
  have HB1 := Lib.hid hb1
  clear hb1
  cases q with
  | true => go_wp2_with fail; go_ret; exact ⟨rfl, HB1.out⟩
  | false => go_wp2_with fail; go_ret; exact ⟨rfl, HB1.out⟩
end Go.Proofs.YtpkkebojiengpaaGreatDoor
