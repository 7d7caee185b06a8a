/-
  MATHEMATICS of Format: the text of heads and relations, and that it is read back, with or without its last line feed.
-/
import Derived.Test.YtpkkebojiengpaaGreatDoorDcG
import Derived.Test.YtpkkebojiengpaaGreatDoorDpC
import Derived.Test.YtpkkebojiengpaaGreatDoorDfA
namespace Go.Proofs.YtpkkebojiengpaaGreatDoor
open Go Go.RowKit Go.Shelf Go.Lib
set_option linter.unusedVariables false

/-- The line of a token without its line feed. -/
def lnF (h : Int) (r : Bs) : Bs := decDigits (h + 1).toNat ++ 9 :: r
/-- The lines of heads and relations, and their text. -/
def lnsF : List Int → Fs → List Bs
  | h :: H, r :: G => (lnF h r ++ [10]) :: lnsF H G
  | [], _ => []
  | _ :: _, [] => []
def txtF (H : List Int) (G : Fs) : Bs := (lnsF H G).flatten
theorem dig_no {n : Nat} : (9 : UInt8) ∉ decDigits n ∧ (10 : UInt8) ∉ decDigits n := by
  have h := (dec_dig n).1
  rw [List.all_eq_true] at h
  exact ⟨fun hm => absurd (h _ hm) (by decide), fun hm => absurd (h _ hm) (by decide)⟩
theorem takeWhile_sep {p : UInt8 → Bool} {a t : Bs} {c : UInt8} (ha : a.all p = true) (hc : p c = false) : (a ++ c :: t).takeWhile p = a ∧ (a ++ c :: t).dropWhile p = c :: t := by
  induction a with
  | nil => constructor <;> simp [hc]
  | cons x l ih =>
    rw [List.all_cons, Bool.and_eq_true] at ha
    obtain ⟨i1, i2⟩ := ih ha.2
    rw [List.cons_append]
    constructor
    · rw [List.takeWhile_cons, if_pos ha.1, i1]
    · rw [List.dropWhile_cons, if_pos ha.1, i2]
theorem lineR_ln {T k : Nat} {h : Int} {r : Bs} (hk : k ≠ T) (h0 : -1 ≤ h) (h1 : h + 1 ≤ (T : Int)) (hr : relB r = true) : lineR T k (lnF h r) = (0, 0, h, r) := by
  obtain ⟨d1, d2, d3, d4⟩ := dec_dig (h + 1).toNat
  obtain ⟨e1, e2⟩ := takeWhile_sep (t := r) (c := 9) d1 (by decide)
  unfold lineR lnF
  rw [if_neg hk, e1, e2, if_neg d3]
  have hn : ¬ (1 < (decDigits (h + 1).toNat).length ∧ (decDigits (h + 1).toNat).head? = some 48) := by
    rintro ⟨q1, q2⟩
    by_cases hz : 1 ≤ (h + 1).toNat
    · exact d4 hz q2
    · rw [decDigits_one (by omega)] at q1
      simp at q1
  rw [if_neg hn, if_neg (by simp), if_neg (by rw [d2]; omega), d2]
  have hd : List.drop 1 (9 :: r : Bs) = r := rfl
  rw [hd, if_neg (by rw [hr]; decide)]
  congr 2
  · have : ((h + 1).toNat : Int) - 1 = h := by omega
    rw [this]
theorem relB_no {r : Bs} (h : relB r = true) : (10 : UInt8) ∉ r := by
  unfold relB at h
  rw [Bool.or_eq_true, decide_eq_true_iff] at h
  rcases h with rfl | h
  · simp
  · unfold nameB at h
    simp only [Bool.and_eq_true, decide_eq_true_iff] at h
    obtain ⟨⟨h1, h2⟩, h3⟩ := h
    cases r with
    | nil => simp
    | cons c l =>
      have h4 : (if letN c.toNat = true then 1 + (l.takeWhile nxtB).length else 0) = l.length + 1 := h3
      by_cases hc : letN c.toNat = true
      · rw [if_pos hc] at h4
        have hl : (l.takeWhile nxtB).length = l.length := by omega
        have he : l.takeWhile nxtB = l := (List.takeWhile_prefix nxtB).eq_of_length hl
        intro hm
        rcases List.mem_cons.1 hm with h10 | hm
        · rw [← h10] at hc
          exact absurd hc (by decide)
        · rw [← he] at hm
          have := List.all_takeWhile (p := nxtB) (l := l)
          rw [List.all_eq_true] at this
          exact absurd (this _ hm) (by decide)
      · rw [if_neg hc] at h4
        omega
theorem lnF_no {h : Int} {r : Bs} (hr : relB r = true) : (10 : UInt8) ∉ lnF h r := by
  unfold lnF
  rw [List.mem_append, List.mem_cons]
  rintro (h1 | h1 | h1)
  · exact dig_no.2 h1
  · exact absurd h1 (by decide)
  · exact relB_no hr h1
theorem lnF_ne {h : Int} {r : Bs} : lnF h r ≠ [] := by
  unfold lnF
  simp
theorem indexByte_sep {a t : Bs} (ha : (10 : UInt8) ∉ a) : indexByte (a ++ 10 :: t) 10 = (a.length : Int) := by
  have hge := indexByte_ge (a ++ 10 :: t) 10
  by_cases hi : indexByte (a ++ 10 :: t) 10 = -1
  · exact absurd (show (a ++ 10 :: t)[a.length]? = some 10 by simp) (indexByte_none hi _)
  · obtain ⟨i, e⟩ : ∃ i : Nat, indexByte (a ++ 10 :: t) 10 = (i : Int) := ⟨(indexByte (a ++ 10 :: t) 10).toNat, by omega⟩
    obtain ⟨h1, h2⟩ := indexByte_some e
    rw [e]
    by_cases hlt : i < a.length
    · rw [List.getElem?_append_left hlt] at h1
      exact absurd (List.mem_of_getElem? h1) ha
    · by_cases hgt : a.length < i
      · exact absurd (show (a ++ 10 :: t)[a.length]? = some 10 by simp) (h2 _ hgt)
      · omega
theorem indexByte_not {a : Bs} (ha : (10 : UInt8) ∉ a) : indexByte a 10 = -1 := by
  have hge := indexByte_ge a 10
  by_cases hi : indexByte a 10 = -1
  · exact hi
  · obtain ⟨i, e⟩ : ∃ i : Nat, indexByte a 10 = (i : Int) := ⟨(indexByte a 10).toNat, by omega⟩
    exact absurd (List.mem_of_getElem? (indexByte_some e).1) ha
/-- The lines of lines and a rest. -/
theorem lines_txt : ∀ (H : List Int) (G : Fs) (t : Bs) (f : Nat), (∀ r ∈ G, relB r = true) → (10 : UInt8) ∉ t → (txtF H G ++ t).length ≤ f →
    linF f (txtF H G ++ t) = lnsF H G ++ (if t = [] then [] else [t])
  | h :: H, r :: G, t, f, hG, ht, hf => by
    have hx : txtF (h :: H) (r :: G) ++ t = lnF h r ++ 10 :: (txtF H G ++ t) := by
      unfold txtF
      rw [lnsF, List.flatten_cons]
      simp
    rw [hx] at hf ⊢
    have hne : lnF h r ++ 10 :: (txtF H G ++ t) ≠ [] := by simp
    have hi := indexByte_sep (t := txtF H G ++ t) (lnF_no (h := h) (hG r (by simp)))
    obtain ⟨f', rfl⟩ : ∃ f', f = f' + 1 := ⟨f - 1, by simp at hf; omega⟩
    rw [linF_next hne hi]
    have e1 : (lnF h r ++ 10 :: (txtF H G ++ t)).take ((lnF h r).length + 1) = lnF h r ++ [10] := by
      rw [List.take_append, List.take_of_length_le (by omega), Nat.add_sub_cancel_left]
      rfl
    have e2 : (lnF h r ++ 10 :: (txtF H G ++ t)).drop ((lnF h r).length + 1) = txtF H G ++ t := by
      rw [List.drop_append, List.drop_eq_nil_of_le (by omega), Nat.add_sub_cancel_left]
      rfl
    rw [e1, e2, lines_txt H G t f' (fun x hx => hG x (by simp [hx])) ht (by rw [List.length_append, List.length_cons] at hf; omega), lnsF]
    rfl
  | [], G, t, f, hG, ht, hf => by
    have hx : txtF [] G ++ t = t := by unfold txtF; rw [lnsF]; rfl
    rw [hx] at hf ⊢
    rw [lnsF, List.nil_append]
    by_cases hn : t = []
    · rw [if_pos hn, hn, linF_nil]
    · rw [if_neg hn]
      obtain ⟨f', rfl⟩ : ∃ f', f = f' + 1 := ⟨f - 1, by have := List.length_pos_iff.2 hn; omega⟩
      rw [linF_last hn (indexByte_not ht)]
  | h :: H, [], t, f, hG, ht, hf => by
    have hx : txtF (h :: H) [] ++ t = t := by unfold txtF; rw [lnsF]; rfl
    rw [hx] at hf ⊢
    rw [lnsF, List.nil_append]
    by_cases hn : t = []
    · rw [if_pos hn, hn, linF_nil]
    · rw [if_neg hn]
      obtain ⟨f', rfl⟩ : ∃ f', f = f' + 1 := ⟨f - 1, by have := List.length_pos_iff.2 hn; omega⟩
      rw [linF_last hn (indexByte_not ht)]
theorem trimNL_of (l : Bs) : trimNL (l ++ [10]) = l := by
  unfold trimNL trimSuffix hasSuffix
  simp
theorem trimNL_no {l : Bs} (h : (10 : UInt8) ∉ l) : trimNL l = l := by
  unfold trimNL trimSuffix
  split
  · rename_i hs
    exfalso
    apply h
    have : ([10] : Bs) <:+ l := by
      exact List.isSuffixOf_iff_suffix.1 hs
    exact this.subset (by simp)
  · rfl
/-- One line more. -/
theorem stepL_ln {T : Nat} {s : Rst} {h : Int} {r l : Bs} (he : s.err = none) (hk : s.hs.length ≠ T) (h0 : -1 ≤ h) (h1 : h + 1 ≤ (T : Int)) (hr : relB r = true) (hl : trimNL l = lnF h r) :
    stepL T s l = ⟨none, s.off + l.length, s.bs ++ [s.off], s.hs ++ [h], s.rs ++ [r]⟩ := by
  unfold stepL
  rw [he, hl, lineR_ln hk h0 h1 hr]
  rfl
theorem rd_lns (T : Nat) : ∀ (H : List Int) (G : Fs) (s : Rst), H.length = G.length → (∀ h ∈ H, -1 ≤ h ∧ h + 1 ≤ (T : Int)) → (∀ r ∈ G, relB r = true) → s.err = none → s.hs.length + H.length ≤ T →
    ((lnsF H G).foldl (stepL T) s).err = none ∧ ((lnsF H G).foldl (stepL T) s).hs = s.hs ++ H ∧ ((lnsF H G).foldl (stepL T) s).rs = s.rs ++ G
  | h :: H, r :: G, s, hl, hH, hG, he, hT => by
    rw [lnsF, List.foldl_cons]
    simp only [List.length_cons] at hl hT
    rw [stepL_ln he (by omega) (hH h (by simp)).1 (hH h (by simp)).2 (hG r (by simp)) (trimNL_of _)]
    have ih := rd_lns T H G ⟨none, s.off + (lnF h r ++ [10]).length, s.bs ++ [s.off], s.hs ++ [h], s.rs ++ [r]⟩ (by omega) (fun x hx => hH x (by simp [hx])) (fun x hx => hG x (by simp [hx])) rfl (by simp only [List.length_append, List.length_cons, List.length_nil]; omega)
    refine ⟨ih.1, ?_, ?_⟩
    · rw [ih.2.1]; simp
    · rw [ih.2.2]; simp
  | [], [], s, hl, hH, hG, he, hT => by
    rw [lnsF]
    exact ⟨he, by simp, by simp⟩
  | [], _ :: _, s, hl, hH, hG, he, hT => by simp at hl
  | _ :: _, [], s, hl, hH, hG, he, hT => by simp at hl
theorem lns_snoc : ∀ (H : List Int) (G : Fs) (h : Int) (r : Bs), H.length = G.length → lnsF (H ++ [h]) (G ++ [r]) = lnsF H G ++ [lnF h r ++ [10]]
  | a :: H, b :: G, h, r, hl => by
    rw [List.cons_append, List.cons_append, lnsF, lnsF, lns_snoc H G h r (by simpa using hl)]
    rfl
  | [], [], h, r, hl => rfl
  | [], _ :: _, h, r, hl => by simp at hl
  | _ :: _, [], h, r, hl => by simp at hl
/-- What the heads must be for their text to be read back. -/
theorem text_back {H : List Int} {G : Fs} (hl : H.length = G.length) (hH : ∀ h ∈ H, -1 ≤ h ∧ h < (H.length : Int)) (hG : ∀ r ∈ G, relB r = true) (hc : (checkH H).2 = 0) :
    (textE H.length (txtF H G)).2 = 0 ∧ (rd H.length (linesL (txtF H G))).hs = H ∧ (rd H.length (linesL (txtF H G))).rs = G := by
  have e : linesL (txtF H G) = lnsF H G := by
    have := lines_txt H G [] (txtF H G).length hG (by simp) (by simp)
    rw [List.append_nil, if_pos rfl, List.append_nil] at this
    exact this
  obtain ⟨r1, r2, r3⟩ := rd_lns H.length H G ⟨none, 0, [], [], []⟩ hl (fun h hh => ⟨(hH h hh).1, by have := (hH h hh).2; omega⟩) hG rfl (by simp)
  have k1 : (rd H.length (linesL (txtF H G))).err = none := by rw [e]; exact r1
  have k2 : (rd H.length (linesL (txtF H G))).hs = H := by rw [e]; exact r2
  have k3 : (rd H.length (linesL (txtF H G))).rs = G := by rw [e]; exact r3
  refine ⟨?_, k2, k3⟩
  unfold textE
  rw [k1]
  simp only
  rw [k2, if_neg (by omega), if_pos hc]
theorem text_back1 {H : List Int} {G : Fs} (hn : H ≠ []) (hl : H.length = G.length) (hH : ∀ h ∈ H, -1 ≤ h ∧ h < (H.length : Int)) (hG : ∀ r ∈ G, relB r = true) (hc : (checkH H).2 = 0) :
    (textE H.length ((txtF H G).take ((txtF H G).length - 1))).2 = 0 ∧ (rd H.length (linesL ((txtF H G).take ((txtF H G).length - 1)))).hs = H ∧ (rd H.length (linesL ((txtF H G).take ((txtF H G).length - 1)))).rs = G := by
  rcases List.eq_nil_or_concat H with rfl | ⟨H1, h, rfl⟩
  · exact absurd rfl hn
  rcases List.eq_nil_or_concat G with rfl | ⟨G1, r, rfl⟩
  · simp at hl
  rw [List.concat_eq_append] at *
  rw [List.concat_eq_append] at *
  have hl1 : H1.length = G1.length := by simpa using hl
  have hG1 : ∀ x ∈ G1, relB x = true := fun x hx => hG x (by simp [hx])
  have hr : relB r = true := hG r (by simp)
  have ht : txtF (H1 ++ [h]) (G1 ++ [r]) = txtF H1 G1 ++ lnF h r ++ [10] := by
    unfold txtF
    rw [lns_snoc _ _ _ _ hl1]
    simp
  have hcut : (txtF (H1 ++ [h]) (G1 ++ [r])).take ((txtF (H1 ++ [h]) (G1 ++ [r])).length - 1) = txtF H1 G1 ++ lnF h r := by
    rw [ht, List.length_append, List.length_singleton, Nat.add_sub_cancel, List.take_left']
    rfl
  rw [hcut]
  obtain ⟨T, hT⟩ : ∃ T, (H1 ++ [h]).length = T := ⟨_, rfl⟩
  rw [hT] at hH ⊢
  have hTn : T = H1.length + 1 := by rw [← hT]; simp
  have e : linesL (txtF H1 G1 ++ lnF h r) = lnsF H1 G1 ++ [lnF h r] := by
    have := lines_txt H1 G1 (lnF h r) (txtF H1 G1 ++ lnF h r).length hG1 (lnF_no hr) (Nat.le_refl _)
    rw [if_neg lnF_ne] at this
    exact this
  obtain ⟨r1, r2, r3⟩ := rd_lns T H1 G1 ⟨none, 0, [], [], []⟩ hl1 (fun x hx => ⟨(hH x (by simp [hx])).1, by have := (hH x (by simp [hx])).2; omega⟩) hG1 rfl (by simp only [List.length_nil]; omega)
  have hs : (rd T (linesL (txtF H1 G1 ++ lnF h r))).err = none ∧ (rd T (linesL (txtF H1 G1 ++ lnF h r))).hs = H1 ++ [h] ∧ (rd T (linesL (txtF H1 G1 ++ lnF h r))).rs = G1 ++ [r] := by
    rw [e, rd_snoc]
    have hq2 : (rd T (lnsF H1 G1)).hs = H1 := r2
    have hq3 : (rd T (lnsF H1 G1)).rs = G1 := r3
    rw [stepL_ln (s := rd T (lnsF H1 G1)) r1 (by rw [hq2]; omega) (hH h (by simp)).1 (by have := (hH h (by simp)).2; omega) hr (trimNL_no (lnF_no hr)), hq2, hq3]
    exact ⟨rfl, rfl, rfl⟩
  obtain ⟨k1, k2, k3⟩ := hs
  refine ⟨?_, k2, k3⟩
  unfold textE
  rw [k1]
  simp only
  rw [k2, hT, if_neg (by omega), if_pos hc]
/-! The size of the text. -/
theorem dec_le : ∀ (n k : Nat), n < 10 ^ (k + 1) → (decDigits n).length ≤ k + 1
  | n, 0, h => by rw [decDigits_one (by omega)]; simp
  | n, k + 1, h => by
    by_cases h1 : n < 10
    · rw [decDigits_one h1]; simp
    · rw [decDigits, dif_neg h1, List.length_append]
      have := dec_le (n / 10) k (by rw [Nat.pow_succ] at h; omega)
      simp
      omega
theorem lnF_len {h : Int} {r : Bs} (h0 : h < 9999) (hr : relB r = true) : (lnF h r).length ≤ 40 := by
  unfold lnF
  have h1 := dec_le (h + 1).toNat 3 (by omega)
  have h2 : r.length ≤ 32 := by
    unfold relB at hr
    rw [Bool.or_eq_true, decide_eq_true_iff] at hr
    rcases hr with rfl | hr
    · simp
    · unfold nameB at hr
      simp only [Bool.and_eq_true, decide_eq_true_iff] at hr
      exact hr.1.2
  simp
  omega
theorem txtF_len : ∀ (H : List Int) (G : Fs), (∀ h ∈ H, h < 9999) → (∀ r ∈ G, relB r = true) → (txtF H G).length ≤ 41 * H.length
  | h :: H, r :: G, hH, hG => by
    have ih := txtF_len H G (fun x hx => hH x (by simp [hx])) (fun x hx => hG x (by simp [hx]))
    have h1 := lnF_len (h := h) (r := r) (hH h (by simp)) (hG r (by simp))
    unfold txtF at ih ⊢
    rw [lnsF, List.flatten_cons, List.length_append, List.length_append, List.length_cons, List.length_cons, List.length_nil]
    omega
  | [], G, hH, hG => by unfold txtF; rw [lnsF]; simp
  | h :: H, [], hH, hG => by unfold txtF; rw [lnsF]; simp
/-- The text of the first tokens. -/
theorem txtF_take {H : List Int} {G : Fs} {k : Nat} {h : Int} {r : Bs} (hl : H.length = G.length) (hh : H[k]? = some h) (hr : G[k]? = some r) : txtF (H.take (k + 1)) (G.take (k + 1)) = txtF (H.take k) (G.take k) ++ (lnF h r ++ [10]) := by
  rw [List.take_add_one, List.take_add_one, hh, hr]
  unfold txtF
  simp only [Option.toList_some]
  rw [lns_snoc _ _ _ _ (by simp; omega)]
  simp
/-- What Format answers. -/
def formatH (H : List Int) (G : Fs) : Bs × Int :=
  if (checkH H).2 ≠ 0 then ([], (checkH H).2)
  else if H.length ≠ G.length then ([], 15)
  else if relsB G = false then ([], 4)
  else (txtF H G, 0)
end Go.Proofs.YtpkkebojiengpaaGreatDoor
