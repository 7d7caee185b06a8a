/-
  THE PLAIN MATHEMATICS of an index' encoding, of no program: numbers one behind the other, spans as pairs of numbers, sealed.
-/
import Derived.Test.YtifdencdbpdbfaaDoorYaM
import Derived.Test.YtifdencdbpdbfaaDoorBiM
import Derived.Test.YtifdencdbpdbfaaDoorCkM
namespace Go.Proofs.YtifdencdbpdbfaaDoor
set_option linter.unusedVariables false
theorem tk_enc {v : Nat} (h : v < 18446744073709551616) (rest : List UInt8) : tk (enc v ++ rest) 0 0 = (v, (enc v).length, 0) := by
  have := tk_back v 0 0 rest (by omega) (by simpa using h) (fun h => absurd h (by omega))
  simpa using this
theorem tk_canG : ∀ (L : List UInt8) (i a V s : Nat), tk L i a = (V, s, 0) → i ≤ 9 → ∃ (v : Nat) (rest : List UInt8), L = enc v ++ rest ∧ V = a + v * 2 ^ (7 * i) ∧ s = i + (enc v).length ∧ (0 < i → 0 < v)
  | [], i, a, V, s, h, _ => by simp [tk_nil] at h
  | c :: r, i, a, V, s, h, hi => by
    have hc : c.toNat < 256 := UInt8.toNat_lt c
    by_cases h1 : i = 9 ∧ 1 < c.toNat
    · rw [tk_big c r i a h1.1 h1.2] at h
      simp at h
    · by_cases h2 : c.toNat < 128
      · by_cases h3 : c.toNat = 0 ∧ 0 < i
        · rw [tk_zero c r i a h3.1 h3.2] at h
          simp at h
        · rw [tk_last c r i a h1 h2 h3] at h
          simp only [Prod.mk.injEq, and_true] at h
          refine ⟨c.toNat, r, ?_, ?_, ?_, fun h0 => by omega⟩
          · rw [enc_lt h2, UInt8.ofNat_toNat]
            rfl
          · rw [← h.1, Nat.mod_eq_of_lt h2]
          · rw [← h.2, enc_lt h2]
            rfl
      · have h9 : i ≠ 9 := fun e => h1 ⟨e, by omega⟩
        rw [tk_more c r i a h9 (by omega)] at h
        obtain ⟨v, rest, hr, hV, hs, h0⟩ := tk_canG r (i + 1) _ V s h (by omega)
        have hv := h0 (by omega)
        have e1 : (c.toNat % 128 + 128 * v) % 128 = c.toNat % 128 := by omega
        have e2 : (c.toNat % 128 + 128 * v) / 128 = v := by omega
        have henc : enc (c.toNat % 128 + 128 * v) = c :: enc v := by
          rw [enc_ge (by omega), e1, e2, show c.toNat % 128 + 128 = c.toNat by omega, UInt8.ofNat_toNat]
        refine ⟨c.toNat % 128 + 128 * v, rest, ?_, ?_, ?_, fun _ => by omega⟩
        · rw [henc, hr]
          rfl
        · rw [hV, show 7 * (i + 1) = 7 + 7 * i by omega, Nat.pow_add, Nat.add_mul, Nat.add_assoc]
          congr 1
          rw [show (2 : Nat) ^ 7 = 128 by decide, ← Nat.mul_assoc, Nat.mul_comm v 128]
        · rw [hs, henc, List.length_cons]
          omega
theorem tk_can {L : List UInt8} {V s : Nat} (h : tk L 0 0 = (V, s, 0)) : ∃ rest : List UInt8, L = enc V ++ rest ∧ s = (enc V).length ∧ V < 18446744073709551616 := by
  obtain ⟨v, rest, h1, h2, h3, _⟩ := tk_canG L 0 0 V s h (by omega)
  have hf := (tk_fits L 0 0 (by omega) (by decide)).1
  rw [h] at hf
  have : V = v := by simpa using h2
  subst this
  exact ⟨rest, h1, by simpa using h3, hf⟩
theorem enc_cancel {v u : Nat} {X Y : List UInt8} (hv : v < 18446744073709551616) (hu : u < 18446744073709551616) (h : enc v ++ X = enc u ++ Y) : v = u ∧ X = Y := by
  have h1 := tk_enc hv X
  rw [h, tk_enc hu Y] at h1
  simp only [Prod.mk.injEq] at h1
  obtain rfl := h1.1
  exact ⟨rfl, List.append_cancel_left h⟩
def bytesN (ns : List Nat) : List UInt8 := ns.flatMap enc
theorem bytesN_cons (v : Nat) (ns : List Nat) : bytesN (v :: ns) = enc v ++ bytesN ns := by simp [bytesN]
theorem bytesN_app (a b : List Nat) : bytesN (a ++ b) = bytesN a ++ bytesN b := by simp [bytesN]
theorem bytesN_nil : bytesN [] = [] := rfl
def B64 (ns : List Nat) : Prop := ∀ v ∈ ns, v < 18446744073709551616
theorem bytes_cancel : ∀ (pre ns : List Nat) (R : List UInt8), B64 pre → B64 ns → bytesN pre ++ R = bytesN ns → ∃ ns', ns = pre ++ ns' ∧ R = bytesN ns'
  | [], ns, R, _, _, h => ⟨ns, rfl, by simpa [bytesN] using h⟩
  | v :: pre, [], R, _, _, h => by
    rw [bytesN_cons, bytesN_nil] at h
    have := congrArg List.length h
    have h1 := enc_pos v
    rw [List.length_append, List.length_append, List.length_nil] at this
    omega
  | v :: pre, u :: ns, R, h1, h2, h => by
    rw [bytesN_cons, bytesN_cons, List.append_assoc] at h
    obtain ⟨rfl, h3⟩ := enc_cancel (h1 v (by simp)) (h2 u (by simp)) h
    obtain ⟨ns', h4, h5⟩ := bytes_cancel pre ns R (fun x hx => h1 x (by simp [hx])) (fun x hx => h2 x (by simp [hx])) h3
    exact ⟨ns', by rw [h4]; rfl, h5⟩
theorem bytes_inj {a b : List Nat} (ha : B64 a) (hb : B64 b) (h : bytesN a = bytesN b) : a = b := by
  obtain ⟨ns', h1, h2⟩ := bytes_cancel a b [] ha hb (by simpa using h)
  cases ns' with
  | nil => simpa using h1.symm
  | cons v r =>
    rw [bytesN_cons] at h2
    have := congrArg List.length h2
    have h3 := enc_pos v
    simp at this
    omega
theorem bytesN_len : ∀ (ns : List Nat), B64 ns → (bytesN ns).length ≤ 10 * ns.length
  | [], _ => by simp [bytesN]
  | v :: ns, h => by
    have h1 := enc_ten v (h v (by simp))
    have h2 := bytesN_len ns (fun x hx => h x (by simp [hx]))
    rw [bytesN_cons, List.length_append, List.length_cons]
    omega
/-- The numbers that stand for spans. -/
def flatN (l : List Sp) : List Nat := l.flatMap fun s => [s.1.toNat, (s.2 - s.1 - 1).toNat]
def numsN (l : List Sp) : List Nat := l.length :: flatN l
def payL (l : List Sp) : List UInt8 := bytesN (numsN l)
def encL (l : List Sp) : List UInt8 := sealL (payL l)
theorem flatN_app (a b : List Sp) : flatN (a ++ b) = flatN a ++ flatN b := by simp [flatN]
theorem flatN_len : ∀ l : List Sp, (flatN l).length = 2 * l.length
  | [] => rfl
  | s :: l => by
    have := flatN_len l
    simp only [flatN, List.flatMap_cons, List.length_append, List.length_cons, List.length_nil] at this ⊢
    omega
theorem chkT_ok {l : List Sp} (h : chkT l = 0) : l.length ≤ 4096 ∧ ∀ x ∈ l, 0 ≤ x.1 ∧ x.1 < x.2 ∧ x.2 ≤ 2147483647 := by
  unfold chkT at h
  split at h
  · cases h
  · refine ⟨by omega, fun x hx => ?_⟩
    split at h
    · have := List.all_eq_true.1 (by assumption) x hx
      unfold okT okS at this
      simp at this
      omega
    · cases h
theorem nums_small {l : List Sp} (h : chkT l = 0) : ∀ v ∈ numsN l, v ≤ 2147483647 := by
  obtain ⟨h1, h2⟩ := chkT_ok h
  intro v hv
  unfold numsN flatN at hv
  rcases List.mem_cons.1 hv with rfl | hv
  · omega
  · obtain ⟨s, hs, hv⟩ := List.mem_flatMap.1 hv
    have := h2 s hs
    simp at hv
    rcases hv with rfl | rfl <;> omega
theorem nums_b64 {l : List Sp} (h : chkT l = 0) : B64 (numsN l) := fun v hv => by have := nums_small h v hv; omega
theorem flat_inj : ∀ (l m : List Sp), (∀ x ∈ l, 0 ≤ x.1 ∧ x.1 < x.2) → (∀ x ∈ m, 0 ≤ x.1 ∧ x.1 < x.2) → flatN l = flatN m → l = m
  | [], [], _, _, _ => rfl
  | [], y :: m, _, _, h => by simp [flatN] at h
  | x :: l, [], _, _, h => by simp [flatN] at h
  | x :: l, y :: m, h1, h2, h => by
    simp only [flatN, List.flatMap_cons, List.cons_append, List.nil_append, List.cons.injEq] at h
    obtain ⟨e1, e2, e3⟩ := h
    have a := h1 x (by simp)
    have b := h2 y (by simp)
    rw [flat_inj l m (fun z hz => h1 z (by simp [hz])) (fun z hz => h2 z (by simp [hz])) e3]
    congr 1
    exact Prod.ext (by omega) (by omega)
theorem nums_inj {l m : List Sp} (hl : ∀ x ∈ l, 0 ≤ x.1 ∧ x.1 < x.2) (hm : ∀ x ∈ m, 0 ≤ x.1 ∧ x.1 < x.2) (h : numsN l = numsN m) : l = m :=
  flat_inj l m hl hm (List.cons.inj h).2
theorem chkT_pos {l : List Sp} (h : chkT l = 0) : ∀ x ∈ l, 0 ≤ x.1 ∧ x.1 < x.2 := fun x hx => ⟨((chkT_ok h).2 x hx).1, ((chkT_ok h).2 x hx).2.1⟩
theorem seal_inj {p q : List UInt8} (h : sealL p = sealL q) : p = q := by
  have h1 := congrArg List.length h
  rw [seal_len, seal_len] at h1
  have h2 := congrArg (List.take p.length) h
  unfold sealL at h2
  rw [List.take_left' rfl, List.take_left' (by omega)] at h2
  exact h2
theorem enc_inj2 {l m : List Sp} (hl : chkT l = 0) (hm : chkT m = 0) (h : encL l = encL m) : l = m :=
  nums_inj (chkT_pos hl) (chkT_pos hm) (bytes_inj (nums_b64 hl) (nums_b64 hm) (seal_inj h))
theorem encL_len {l : List Sp} (h : chkT l = 0) : (encL l).length ≤ 81934 := by
  have h1 := bytesN_len (numsN l) (nums_b64 h)
  have h2 := flatN_len l
  have h3 := (chkT_ok h).1
  unfold encL payL
  rw [seal_len]
  unfold numsN at h1 ⊢
  rw [List.length_cons, h2] at h1
  omega
/-- Spans out of pairs of numbers. -/
def pairsN : List Nat → List Sp
  | x :: y :: r => ((x : Int), (x : Int) + (y : Int) + 1) :: pairsN r
  | _ => []
theorem pairs_flat : ∀ (ns : List Nat), ns.length % 2 = 0 → flatN (pairsN ns) = ns ∧ (pairsN ns).length = ns.length / 2
  | [], _ => ⟨rfl, rfl⟩
  | [x], h => by simp at h
  | x :: y :: r, h => by
    obtain ⟨h1, h2⟩ := pairs_flat r (by simp at h; omega)
    constructor
    · unfold flatN at h1 ⊢
      rw [pairsN, List.flatMap_cons, h1]
      have e1 : ((x : Int)).toNat = x := by omega
      have e2 : ((x : Int) + (y : Int) + 1 - (x : Int) - 1).toNat = y := by omega
      simp [e1, e2]
    · rw [pairsN, List.length_cons, h2]
      simp
      omega
theorem pairs_of_flat {l : List Sp} (h : ∀ x ∈ l, 0 ≤ x.1 ∧ x.1 < x.2) : pairsN (flatN l) = l := by
  induction l with
  | nil => rfl
  | cons s l ih =>
    have h1 := ih (fun x hx => h x (by simp [hx]))
    have h2 := h s (by simp)
    unfold flatN at h1 ⊢
    rw [List.flatMap_cons]
    simp only [List.cons_append, List.nil_append]
    rw [pairsN, h1]
    congr 1
    exact Prod.ext (by show ((s.1.toNat : Nat) : Int) = s.1; omega) (by show ((s.1.toNat : Nat) : Int) + (((s.2 - s.1 - 1).toNat : Nat) : Int) + 1 = s.2; omega)
/-- A payload that the code reads: numbers one behind the other, none of them too great. -/
def Good (p : List UInt8) (ns : List Nat) : Prop := p = bytesN ns ∧ ∀ v ∈ ns, v ≤ 2147483647
theorem good_b64 {p : List UInt8} {ns : List Nat} (h : Good p ns) : B64 ns := fun v hv => by have := h.2 v hv; omega
theorem good_pre {p R : List UInt8} {pre ns : List Nat} (hp : p = bytesN pre ++ R) (hpre : ∀ v ∈ pre, v ≤ 2147483647) (h : Good p ns) : ∃ ns', ns = pre ++ ns' ∧ Good R ns' := by
  obtain ⟨ns', h1, h2⟩ := bytes_cancel pre ns R (fun v hv => by have := hpre v hv; omega) (good_b64 h) (by rw [← hp]; exact h.1)
  exact ⟨ns', h1, h2, fun v hv => h.2 v (by rw [h1]; simp [hv])⟩
/-- Where a number cannot be read, nothing can. -/
theorem good_stop {R : List UInt8} {ns : List Nat} (hR : R ≠ []) (h : Good R ns) : (tk R 0 0).2.2 = 0 ∧ (tk R 0 0).1 ≤ 2147483647 := by
  obtain ⟨h1, h2⟩ := h
  cases ns with
  | nil => exact absurd h1 hR
  | cons v r =>
    rw [h1, bytesN_cons, tk_enc (by have := h2 v (by simp); omega)]
    exact ⟨rfl, h2 v (by simp)⟩
end Go.Proofs.YtifdencdbpdbfaaDoor
