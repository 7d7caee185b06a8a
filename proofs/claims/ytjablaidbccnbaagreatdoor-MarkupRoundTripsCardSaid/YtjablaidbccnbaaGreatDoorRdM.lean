/-
  THE PLAIN MATHEMATICS of package markup: a tag is read back from its text, also with more spaces in front of the keys.
-/
import Derived.Test.YtjablaidbccnbaaGreatDoorMkZ
namespace Go.Proofs.YtjablaidbccnbaaGreatDoor
open Go.Lib

theorem drop_next {L A B : Bs} {i n : Nat} (h : L.drop i = A ++ B) (hn : A.length = n) : L.drop (i + n) = B := by
  subst hn
  rw [← List.drop_drop, h, List.drop_left]
theorem get_head {L r : Bs} {i : Nat} {c : UInt8} (h : L.drop i = c :: r) : L[i]? = some c := by
  have := List.getElem?_drop (xs := L) (i := i) (j := 0)
  rw [h] at this
  simpa using this.symm
theorem take_while_stop {p : UInt8 → Bool} : ∀ (a b : Bs), (∀ c ∈ a, p c = true) → (∀ c, b.head? = some c → p c = false) → (a ++ b).takeWhile p = a
  | [], [], _, _ => rfl
  | [], c :: r, _, h => by
    rw [List.nil_append, List.takeWhile_cons, h c rfl]
    rfl
  | c :: r, b, h, hb => by
    rw [List.cons_append, List.takeWhile_cons, h c (by simp), if_pos rfl, take_while_stop r b (fun x hx => h x (by simp [hx])) hb]
theorem name_parts {n : Bs} (h : nameB n = true) : ∃ d m, n = d :: m ∧ letN d.toNat = true ∧ (∀ c ∈ m, nxtB c = true) ∧ n.length ≤ 32 := by
  unfold nameB at h
  simp only [Bool.and_eq_true, decide_eq_true_eq] at h
  obtain ⟨⟨h0, h32⟩, hn⟩ := h
  cases n with
  | nil => exact absurd rfl h0
  | cons d m =>
    have hn' : (if letN d.toNat then 1 + (m.takeWhile nxtB).length else 0) = m.length + 1 := hn
    by_cases hl : letN d.toNat = true
    · rw [if_pos hl] at hn'
      have hm : m.takeWhile nxtB = m := (List.takeWhile_prefix nxtB).eq_of_length (by omega)
      refine ⟨d, m, rfl, hl, fun c hc => ?_, h32⟩
      rw [← hm] at hc
      have := List.all_takeWhile (p := nxtB) (l := m)
      exact List.all_eq_true.1 this c hc
    · rw [if_neg hl] at hn'
      omega
theorem name_run {n X : Bs} (h : nameB n = true) (hX : ∀ c, X.head? = some c → nxtB c = false) : nameN (n ++ X) = n.length := by
  obtain ⟨d, m, rfl, hl, hm, _⟩ := name_parts h
  show (if letN d.toNat then 1 + ((m ++ X).takeWhile nxtB).length else 0) = m.length + 1
  rw [if_pos hl, take_while_stop m X hm hX]
  omega
theorem pName_run {L n X : Bs} {i : Nat} (hL : L.drop i = n ++ X) (h : nameB n = true) (hX : ∀ c, X.head? = some c → nxtB c = false) : pName L i = .ok n (i + n.length) := by
  have hr := name_run h hX
  obtain ⟨d, m, hd, _, _, h32⟩ := name_parts h
  unfold pName
  rw [hL, hr, if_neg (by rw [hd]; simp), if_neg (by omega), List.take_left]
theorem escB_raw (c : UInt8) : ∀ x ∈ escB c, rawB x = true := by
  unfold escB
  intro x hx
  split at hx
  · revert x; decide
  · split at hx
    · revert x; decide
    · split at hx
      · revert x; decide
      · split at hx
        · revert x; decide
        · rename_i h1 h2 h3 h4
          simp at hx
          subst hx
          unfold rawB
          simp [h2, h3, h4]
theorem esc_raw (v : Bs) : ∀ x ∈ esc v, rawB x = true := by
  intro x hx
  obtain ⟨c, _, hc⟩ := List.mem_flatMap.1 hx
  exact escB_raw c x hc
theorem pValue_run {L v X : Bs} {i : Nat} (hL : L.drop i = 34 :: (esc v ++ 34 :: X)) (hv : valE v = 0) : pValue L i = .ok v (i + 1 + (esc v).length + 1) ∧ L.drop (i + 1 + (esc v).length + 1) = X := by
  have h1 : L.drop (i + 1) = esc v ++ 34 :: X := drop_next (A := [34]) hL rfl
  have hr : rawN L (i + 1) = (esc v).length := by
    unfold rawN
    rw [h1, take_while_stop (esc v) (34 :: X) (esc_raw v) (fun c hc => by simp at hc; subst hc; decide)]
  have hT : rawT L (i + 1) = esc v := by
    unfold rawT
    rw [hr, h1, List.take_left]
  have h2 : L.drop (i + 1 + (esc v).length) = 34 :: X := drop_next h1 rfl
  refine ⟨?_, drop_next (A := [34]) h2 rfl⟩
  unfold pValue
  rw [if_pos (get_head hL), hr, if_pos (get_head h2), hT, unesc_esc]
  simp only [if_pos hv]
theorem pEnd_run {L : Bs} {t : TagL} {i : Nat} (hL : L.drop i = [62]) (hi : i + 1 = L.length) : pEnd L t i = .ok t (i + 1) := by
  unfold pEnd pExpect
  rw [if_pos (get_head hL)]
  simp only [hi]
  rw [if_neg (by omega)]
theorem letter_not {d : UInt8} (h : letN d.toNat = true) : d ≠ 32 ∧ d ≠ 47 := by
  refine ⟨?_, ?_⟩ <;> (intro e; subst e; revert h; decide)
theorem hasN_false {ks : List Pr} {n : Bs} (h : ∀ p ∈ ks, p.1 ≠ n) : hasN ks n = false := by
  unfold hasN
  rw [List.any_eq_false]
  intro p hp
  simpa using h p hp
/-- Reading keys behind any number of spaces. -/
theorem pKeys_run : ∀ (ks acc : List Pr) (f g i : Nat) (L : Bs), L.drop i = List.replicate g 32 ++ (ks.flatMap keyT ++ [62]) → (ks = [] → g = 0) → ks.length < f → acc.length + ks.length ≤ 8 → Apart (acc ++ ks) → (∀ p ∈ ks, nameB p.1 = true ∧ valE p.2 = 0) →
    pKeys f L i acc = .ok (acc ++ ks) (i + g + (ks.flatMap keyT).length)
  | [], acc, f + 1, g, i, L, hL, hg, _, _, _, _ => by
    have h0 := hg rfl
    subst h0
    have hL' : L.drop i = 62 :: [] := hL
    have hs : spN L i = 0 := by
      unfold spN
      rw [hL']
      rfl
    unfold pKeys
    rw [if_pos hs]
    simp
  | k :: r, acc, f + 1, g, i, L, hL, _, hf, h8, hap, hall => by
    obtain ⟨hkn, hkv⟩ := hall k (by simp)
    obtain ⟨d, m, hd, hld, hm, h32⟩ := name_parts hkn
    have hkT : (k :: r).flatMap keyT ++ [62] = [32] ++ (k.1 ++ (61 :: 34 :: (esc k.2 ++ 34 :: (r.flatMap keyT ++ [62])))) := by
      rw [List.flatMap_cons]
      simp [keyT]
    rw [hkT] at hL
    have hrep : List.replicate g 32 ++ ([32] ++ (k.1 ++ (61 :: 34 :: (esc k.2 ++ 34 :: (r.flatMap keyT ++ [62]))))) = List.replicate (g + 1) 32 ++ (k.1 ++ (61 :: 34 :: (esc k.2 ++ 34 :: (r.flatMap keyT ++ [62])))) := by
      rw [List.replicate_succ', List.append_assoc]
    rw [hrep] at hL
    have hs : spN L i = g + 1 := by
      unfold spN
      rw [hL, take_while_stop (List.replicate (g + 1) 32) _ (fun c hc => by rw [List.mem_replicate] at hc; rw [hc.2]; rfl) (fun c hc => by rw [hd] at hc; simp at hc; subst hc; simpa using (letter_not hld).1), List.length_replicate]
    have hL1 : L.drop (i + (g + 1)) = k.1 ++ (61 :: 34 :: (esc k.2 ++ 34 :: (r.flatMap keyT ++ [62]))) := drop_next hL (List.length_replicate)
    have hno : hasN acc k.1 = false := hasN_false (fun p hp => by
      unfold Apart at hap
      rw [List.pairwise_append] at hap
      exact hap.2.2 p hp k (by simp))
    have hkN : pKeyName L (i + (g + 1)) acc = .ok k.1 (i + (g + 1) + k.1.length) := by
      unfold pKeyName
      rw [pName_run hL1 hkn (fun c hc => by simp at hc; subst hc; decide)]
      simp only [hno]
      rw [List.length_cons] at h8
      rw [if_neg (by decide), if_neg (by omega)]
    have hL2 := drop_next hL1 rfl
    have hL3 : L.drop (i + (g + 1) + k.1.length + 1) = 34 :: (esc k.2 ++ 34 :: (r.flatMap keyT ++ [62])) := drop_next (A := [61]) hL2 rfl
    obtain ⟨hv, hL4⟩ := pValue_run hL3 hkv
    have hex : pExpect L (i + (g + 1) + k.1.length) 61 = .ok () (i + (g + 1) + k.1.length + 1) := by
      unfold pExpect
      rw [if_pos (get_head hL2)]
    have ih := pKeys_run r (acc ++ [(k.1, k.2)]) f 0 (i + (g + 1) + k.1.length + 1 + 1 + (esc k.2).length + 1) L hL4 (fun _ => rfl) (by rw [List.length_cons] at hf; omega) (by rw [List.length_append]; rw [List.length_cons] at h8; simp; omega) (by simpa using hap) (fun p hp => hall p (by simp [hp]))
    unfold pKeys
    rw [if_neg (by omega), hs]
    simp only [hkN, hex, hv, ih]
    have e : acc ++ [(k.1, k.2)] ++ r = acc ++ k :: r := by simp
    rw [e]
    congr 1
    rw [List.flatMap_cons, List.length_append]
    simp [keyT]
    omega
/-- What the checks say. -/
theorem keysE_all : ∀ (ks before : List Pr), keysE before ks = 0 → ∀ p ∈ ks, nameB p.1 = true ∧ valE p.2 = 0
  | [], before, _, p, hp => by simp at hp
  | k :: r, before, h, p, hp => by
    unfold keysE at h
    split at h
    · rename_i h1
      exact absurd h h1
    · rename_i h1
      rcases List.mem_cons.1 hp with rfl | hp
      · unfold keyE at h1
        split at h1
        · exact absurd (by decide) h1
        · rename_i h2
          split at h1
          · exact absurd (by decide) h1
          · exact ⟨by simpa using h2, by omega⟩
      · exact keysE_all r _ h p hp
theorem sortP_again {ks : List Pr} (h : Apart ks) : sortP (sortP ks) = sortP ks := by
  have ha : Apart (sortP ks) := by
    unfold Apart
    exact (List.Perm.pairwise_iff (fun {a b} h => fun e => h e.symm) (sortP_perm ks)).2 h
  exact uniq _ _ (sortP_perm _) (sortP_sorted _) (sortP_sorted _) ((List.Perm.pairwise_iff (fun {a b} h => fun e => h e.symm) (sortP_perm (sortP ks))).2 ha)
theorem keysT_ge : ∀ l : List Pr, l.length ≤ (l.flatMap keyT).length
  | [] => Nat.zero_le _
  | k :: r => by
    have ih := keysT_ge r
    have h1 : 1 ≤ (keyT k).length := by unfold keyT; simp only [List.length_append, List.length_cons, List.length_nil]; omega
    rw [List.flatMap_cons, List.length_append, List.length_cons]
    omega
/-- The text with more spaces in front of the keys. -/
def textG (t : TagL) (g : Nat) : Bs := headT t ++ List.replicate g 32 ++ ((sortP t.keys).flatMap keyT ++ [62])
theorem textG_zero (t : TagL) : textG t 0 = textT t := by
  unfold textG textT
  simp
theorem read_back {t : TagL} (h : checkT t = 0) (g : Nat) (hg : t.keys = [] → g = 0) : ∃ i, pTag (textG t g) = .ok ⟨t.close, t.name, sortP t.keys⟩ i := by
  obtain ⟨hn, hcl, h8, hk0, hap⟩ := checkT_zero h
  obtain ⟨d, m, hd, hld, hm, h32⟩ := name_parts hn
  have hall := keysE_all t.keys [] hk0
  cases hc : t.close with
  | true =>
    have hk : t.keys = [] := by
      by_cases e : 0 < t.keys.length
      · exact absurd ⟨hc, e⟩ hcl
      · exact List.length_eq_zero_iff.1 (by omega)
    have h0 := hg hk
    subst h0
    have hL : textG t 0 = 60 :: 47 :: (t.name ++ [62]) := by
      unfold textG headT
      rw [hc, hk]
      simp [sortP]
    obtain ⟨L, hLL⟩ : ∃ L, textG t 0 = L := ⟨_, rfl⟩
    rw [hLL] at hL ⊢
    have h1 : L.drop 2 = t.name ++ [62] := by rw [hL]; rfl
    have hp := pName_run h1 hn (fun c hc => by simp at hc; subst hc; decide)
    have h2 := drop_next h1 rfl
    have hlen : 2 + t.name.length + 1 = L.length := by rw [hL]; simp; omega
    have e0 : pExpect L 0 60 = .ok () 1 := by unfold pExpect; rw [if_pos (by rw [hL]; rfl)]
    refine ⟨2 + t.name.length + 1, ?_⟩
    unfold pTag
    rw [e0]
    have e1 : L[1]? = some 47 := by rw [hL]; rfl
    simp only [e1, if_true, Nat.reduceAdd, hp]
    rw [pEnd_run h2 hlen, hk]
    rfl
  | false =>
    have hL : textG t g = 60 :: (t.name ++ (List.replicate g 32 ++ ((sortP t.keys).flatMap keyT ++ [62]))) := by
      unfold textG headT
      rw [hc]
      simp
    obtain ⟨L, hLL⟩ : ∃ L, textG t g = L := ⟨_, rfl⟩
    rw [hLL] at hL ⊢
    obtain ⟨sk, hsk⟩ : ∃ sk, sortP t.keys = sk := ⟨_, rfl⟩
    have hperm := sortP_perm t.keys
    rw [hsk] at hL hperm
    have hskl : sk.length = t.keys.length := hperm.length_eq
    have hska : Apart sk := by
      unfold Apart
      exact (List.Perm.pairwise_iff (fun {a b} h => fun e => h e.symm) hperm).2 hap
    have hskall : ∀ p ∈ sk, nameB p.1 = true ∧ valE p.2 = 0 := fun p hp => hall p (hperm.mem_iff.1 hp)
    have hsk0 : sk = [] → g = 0 := fun e => hg (List.length_eq_zero_iff.1 (by rw [← hskl, e]; rfl))
    have h1 : L.drop 1 = t.name ++ (List.replicate g 32 ++ (sk.flatMap keyT ++ [62])) := by rw [hL]; rfl
    have hX : ∀ c, (List.replicate g 32 ++ (sk.flatMap keyT ++ [62]) : Bs).head? = some c → nxtB c = false := by
      intro c hc
      cases g with
      | succ g =>
        rw [List.replicate_succ] at hc
        simp at hc
        subst hc
        decide
      | zero =>
        cases sk with
        | nil => simp at hc; subst hc; decide
        | cons k r => simp [keyT] at hc; subst hc; decide
    have hp := pName_run h1 hn hX
    have h2 := drop_next h1 rfl
    have hkl := pKeys_run sk [] (L.length + 1) g (1 + t.name.length) L h2 hsk0 (by
      have := keysT_ge sk
      rw [hL]
      simp only [List.length_cons, List.length_append, List.length_replicate, List.length_nil]
      omega) (by rw [hskl]; simpa using h8) (by simpa using hska) hskall
    have h3 : L.drop (1 + t.name.length + g + (sk.flatMap keyT).length) = [62] := by
      have h4 := drop_next h2 (List.length_replicate (n := g))
      exact drop_next h4 rfl
    have hlen : 1 + t.name.length + g + (sk.flatMap keyT).length + 1 = L.length := by rw [hL]; simp only [List.length_cons, List.length_append, List.length_replicate, List.length_nil]; omega
    have e0 : pExpect L 0 60 = .ok () 1 := by unfold pExpect; rw [if_pos (by rw [hL]; rfl)]
    have e1 : ¬ L[1]? = some 47 := by
      rw [hL, hd]
      simp
      exact (letter_not hld).2
    refine ⟨1 + t.name.length + g + (sk.flatMap keyT).length + 1, ?_⟩
    unfold pTag
    rw [e0]
    simp only [e1, if_false, hp, hkl, List.nil_append]
    rw [pEnd_run h3 hlen, hsk]
end Go.Proofs.YtjablaidbccnbaaGreatDoor
