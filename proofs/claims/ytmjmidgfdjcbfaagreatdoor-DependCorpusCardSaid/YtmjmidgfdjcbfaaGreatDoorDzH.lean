/-
  WALKS over package depend: validRelations (for Format).
  MATHEMATICS of Format: the text of heads and relations, and that it is read back, with or without its last line feed.
  WALKS over package depend: Format.
  ARGUMENTS of the laws about Format, opened: lists of strings; what the listed variables hold: the error, the table of powers of ten.
-/
import Derived.Test.YtmjmidgfdjcbfaaGreatDoorDzB
import Derived.Test.YtmjmidgfdjcbfaaGreatDoorDaC
import Derived.Test.YtmjmidgfdjcbfaaGreatDoorDzG
import Derived.Test.YtmjmidgfdjcbfaaGreatDoorDzF
import Derived.Test.YtmjmidgfdjcbfaaGreatDoorDaD
import Derived.Deep.RegionHeld3
import Derived.Test.YtmjmidgfdjcbfaaGreatDoorDcL
import Derived.SliceStrings
import Derived.Lib.LaidTab
namespace Go.Proofs.YtmjmidgfdjcbfaaGreatDoor.Dep
open Go.RowKit Go.Shelf Go.Lib
set_option linter.unusedVariables false

set_option maxHeartbeats 1000000 in
theorem indexFunc_str {α : Type} {E : World → List Value → α → Prop} (hE : Stays E) {w : World} {v : Value} {xs : List α} (hv : Rows 1 E w v xs) (hl : xs.length ≤ maxLen) (g : FuncId) (lb : Array Value)
    (eg : ∀ args w, (callFunc g args).run Tryz.prog w = .ok (.enter g args) w) (p : α → Bool)
    (hp : ∀ (W : World) (x : α) (u0 : Value), Below w.heap.size w W → x ∈ xs → E W [u0] x → Calls Tryz.prog g (#[u0] ++ lb) W fun e w' => e = .returned (.bool (p x)) ∧ Below W.heap.size W w') :
    Calls Tryz.prog 70 #[v, .func (.func g) #[] lb] w fun e w' => e = .returned (.int .i64 (findZ p xs)) ∧ Below w.heap.size w w' := by
  obtain ⟨A, cap, rfl, hc⟩ := hv.form
  obtain ⟨n, hn⟩ : ∃ n, xs.length = n := ⟨_, rfl⟩
  have HV := Lib.hid (fun W (h : Below w.heap.size w W) => hv.below hE h)
  rw [hn] at hc hl HV ⊢
  have HN := Lib.hid hn
  have HP := Lib.hid hp
  unfold maxLen at hl
  clear hn hv hp hE
  go_enter Tryz.func70, Tryz.ntmps70
  go_wp2_with fail
  go_loopw [5, 8] (fun _ i wr => ∃ k : Nat, k ≤ n ∧ i = .int .i64 k ∧ Hid (∀ (j : Nat) (y : α), j < k → xs[j]? = some y → p y = false) ∧ Below w.heap.size w wr) (fun _ i _ => n - (Go.RowKit.intOf i).toNat)
  case atStart => exact ⟨0, Nat.zero_le _, rfl, Lib.hid (fun j y h => absurd h (by omega)), Below.refl _ _⟩
  case round =>
    obtain ⟨k, hk, rfl, hs, hb⟩ := hrel
    by_cases hlt : k < n
    · obtain ⟨x, hx⟩ : ∃ x, xs[k]? = some x := ⟨_, List.getElem?_eq_getElem (by rw [HN.out]; omega)⟩
      obtain ⟨bk, off, rfl, hbl, hj⟩ := (HV.out wr hb).at' (by rw [HN.out]; omega)
      obtain ⟨cs, hcl, hec, hcell⟩ := hj k x hx
      obtain ⟨u0, rfl⟩ : ∃ u0, cs = [u0] := by
        match cs, hcl with
        | [u0], _ => exact ⟨u0, rfl⟩
      have c0 := hcell 0 _ rfl
      rw [Nat.mul_one, Nat.add_zero] at c0
      have hcall := HP.out wr x u0 hb (List.mem_of_getElem? hx) hec
      obtain ⟨q, hq⟩ : ∃ q, p x = q := ⟨_, rfl⟩
      rw [hq] at hcall
      have HC := Lib.hid hcall
      have HX := Lib.hid hx
      have HQ := Lib.hid hq
      have HB := Lib.hid hb
      clear hcall hx hq hb hj hec hcell hbl
      cases q with
      | true =>
        go_wp2_with (go_at_fn g; refine HC.out.mono ?_; rintro e w' ⟨rfl, hb'⟩)
        go_ret
        exact ⟨by rw [findZ_hit HX.out HQ.out hs.out]; rfl, HB.out.trans (hb'.mono HB.out.size)⟩
      | false =>
        go_wp2_with (go_at_fn g; refine HC.out.mono ?_; rintro e w' ⟨rfl, hb'⟩; have HB' := Lib.hid hb'; clear hb')
        refine ⟨⟨k + 1, by omega, by go_num, Lib.hid (fun j y hj hy => ?_), HB.out.trans (HB'.out.mono HB.out.size)⟩, by simp only [Go.RowKit.intOf]; omega⟩
        by_cases e : j = k
        · subst e
          rw [HX.out] at hy
          cases hy
          exact HQ.out
        · exact hs.out j y (by omega) hy
    · obtain rfl : k = n := by omega
      have HB := Lib.hid hb
      clear hb
      go_wp2_with fail
      go_ret
      exact ⟨by rw [findZ_miss HN.out.symm hs.out]; rfl, HB.out⟩

theorem notValid_any (s : ByteArray) (hs : s.size ≤ maxLen) (W : World) :
    Calls Tryz.prog 36 (#[.string s] ++ #[]) W fun e w' => e = .returned (.bool (!relB s.data.toList)) ∧ Below W.heap.size W w' := by
  have HV := Lib.hid (validRelation_any s hs W)
  obtain ⟨q, hq⟩ : ∃ q, relB s.data.toList = q := ⟨_, rfl⟩
  rw [hq] at HV ⊢
  clear hq
  go_enter Tryz.func36, Tryz.ntmps36
  go_wp2_with fail
  refine HV.out.mono ?_
  rintro e w' ⟨rfl, rfl⟩
  cases q with
  | true => go_wp2_with fail; go_ret; exact ⟨rfl, Below.refl _ _⟩
  | false => go_wp2_with fail; go_ret; exact ⟨rfl, Below.refl _ _⟩
/-- All relations are right. -/
def relsB (G : Fs) : Bool := G.all relB
theorem rels_find (G : Fs) : decide (findZ (fun x => !relB x) G ≥ 0) = !relsB G := by
  unfold relsB
  rw [Bool.eq_iff_iff, decide_eq_true_iff]
  have h := findZ_neg (p := fun x => !relB x) (l := G)
  constructor
  · intro hf
    rw [Bool.not_eq_true', ← Bool.not_eq_true, List.all_eq_true]
    intro ha
    have := h.2 (fun x hx => by simp [ha x hx])
    omega
  · intro hf
    rw [Bool.not_eq_true', ← Bool.not_eq_true, List.all_eq_true] at hf
    refine Int.not_lt.1 fun hn => hf fun x hx => ?_
    have := h.1 hn x hx
    simpa using this
set_option maxRecDepth 100000 in
set_option maxHeartbeats 2000000 in
theorem validRelations_any {w : World} {v : Value} {G : Fs} (hv : Rows 1 EStr w v G) (hl : G.length ≤ maxLen) (hz : ∀ x ∈ G, x.length ≤ maxLen) :
    Calls Tryz.prog 10 #[v] w fun e w' => e = .returned (.bool (relsB G)) ∧ Below w.heap.size w w' := by
  have HI := Lib.hid (indexFunc_str stays_str hv hl 36 #[] (fun args w => by kernel_rfl) (fun x => !relB x) (fun W x u0 hb hx he => by
    cases he
    have := notValid_any ⟨x.toArray⟩ (by show x.toArray.size ≤ maxLen; rw [List.size_toArray]; exact hz x hx) W
    exact this))
  have hrf := rels_find G
  obtain ⟨A, cap, rfl, hc⟩ := hv.form
  obtain ⟨z, hzz⟩ : ∃ z, findZ (fun x => !relB x) G = z := ⟨_, rfl⟩
  obtain ⟨q, hq⟩ : ∃ q, relsB G = q := ⟨_, rfl⟩
  obtain ⟨n, hn⟩ : ∃ n, G.length = n := ⟨_, rfl⟩
  rw [hzz] at HI hrf
  rw [hq] at hrf ⊢
  rw [hn] at HI hc ⊢
  have HC : Hid (Calls Tryz.prog 35 #[.slice A n cap, .func (.func 36) #[] #[]] w fun e w' => e = .returned (.bool (!q)) ∧ Below w.heap.size w w') := Lib.hid (by
    clear hv hl hz hzz hq hn
    cases q with
    | true =>
      have hz0 : ¬ z ≥ 0 := by simpa using hrf
      have hz1 : decide (0 ≤ z) = false := decide_eq_false hz0
      clear hrf
      go_enter Tryz.func35, Tryz.ntmps35
      go_wp2_with fail
      refine HI.out.mono ?_
      rintro e w1 ⟨rfl, hb1⟩
      have HB1 := Lib.hid hb1
      clear hb1
      go_wp2_with fail
      go_ret
      exact ⟨by first | rfl | (rw [hz1]; rfl), HB1.out⟩
    | false =>
      have hz0 : z ≥ 0 := by simpa using hrf
      have hz1 : decide (0 ≤ z) = true := decide_eq_true hz0
      clear hrf
      go_enter Tryz.func35, Tryz.ntmps35
      go_wp2_with fail
      refine HI.out.mono ?_
      rintro e w1 ⟨rfl, hb1⟩
      have HB1 := Lib.hid hb1
      clear hb1
      go_wp2_with fail
      go_ret
      exact ⟨by first | rfl | (rw [hz1]; rfl), HB1.out⟩)
  clear hv hl hz hzz hq hn hrf
  go_enter Tryz.func10, Tryz.ntmps10
  go_wp2_with fail
  refine HC.out.mono ?_
  rintro e w1 ⟨rfl, hb1⟩
  have HB1 := Lib.hid hb1
  clear hb1
  cases q with
  | true => go_wp2_with fail; go_ret; exact ⟨rfl, HB1.out⟩
  | false => go_wp2_with fail; go_ret; exact ⟨rfl, HB1.out⟩
end Go.Proofs.YtmjmidgfdjcbfaaGreatDoor.Dep
namespace Go.Proofs.YtmjmidgfdjcbfaaGreatDoor.Dep
open Go Go.RowKit Go.Shelf Go.Lib
set_option linter.unusedVariables false

/-- The line of a token without its line feed. -/
def lnF (h : Int) (r : Bs) : Bs := decDigits (h + 1).toNat ++ 9 :: r
/-- The lines of heads and relations, and their text. -/
def lnsF : List Int → Fs → List Bs
  | h :: H, r :: G => (lnF h r ++ [10]) :: lnsF H G
  | [], _ => []
  | _ :: _, [] => []
def txtF (H : List Int) (G : Fs) : Bs := (lnsF H G).flatten
theorem dig_no {n : Nat} : (9 : UInt8) ∉ decDigits n ∧ (10 : UInt8) ∉ decDigits n := by
  have h := (dec_dig n).1
  rw [List.all_eq_true] at h
  exact ⟨fun hm => absurd (h _ hm) (by decide), fun hm => absurd (h _ hm) (by decide)⟩
theorem takeWhile_sep {p : UInt8 → Bool} {a t : Bs} {c : UInt8} (ha : a.all p = true) (hc : p c = false) : (a ++ c :: t).takeWhile p = a ∧ (a ++ c :: t).dropWhile p = c :: t := by
  induction a with
  | nil => constructor <;> simp [hc]
  | cons x l ih =>
    rw [List.all_cons, Bool.and_eq_true] at ha
    obtain ⟨i1, i2⟩ := ih ha.2
    rw [List.cons_append]
    constructor
    · rw [List.takeWhile_cons, if_pos ha.1, i1]
    · rw [List.dropWhile_cons, if_pos ha.1, i2]
theorem lineR_ln {T k : Nat} {h : Int} {r : Bs} (hk : k ≠ T) (h0 : -1 ≤ h) (h1 : h + 1 ≤ (T : Int)) (hr : relB r = true) : lineR T k (lnF h r) = (0, 0, h, r) := by
  obtain ⟨d1, d2, d3, d4⟩ := dec_dig (h + 1).toNat
  obtain ⟨e1, e2⟩ := takeWhile_sep (t := r) (c := 9) d1 (by decide)
  unfold lineR lnF
  rw [if_neg hk, e1, e2, if_neg d3]
  have hn : ¬ (1 < (decDigits (h + 1).toNat).length ∧ (decDigits (h + 1).toNat).head? = some 48) := by
    rintro ⟨q1, q2⟩
    by_cases hz : 1 ≤ (h + 1).toNat
    · exact d4 hz q2
    · rw [decDigits_one (by omega)] at q1
      simp at q1
  rw [if_neg hn, if_neg (by simp), if_neg (by rw [d2]; omega), d2]
  have hd : List.drop 1 (9 :: r : Bs) = r := rfl
  rw [hd, if_neg (by rw [hr]; decide)]
  congr 2
  · have : ((h + 1).toNat : Int) - 1 = h := by omega
    rw [this]
theorem relB_no {r : Bs} (h : relB r = true) : (10 : UInt8) ∉ r := by
  unfold relB at h
  rw [Bool.or_eq_true, decide_eq_true_iff] at h
  rcases h with rfl | h
  · simp
  · unfold nameB at h
    simp only [Bool.and_eq_true, decide_eq_true_iff] at h
    obtain ⟨⟨h1, h2⟩, h3⟩ := h
    cases r with
    | nil => simp
    | cons c l =>
      have h4 : (if letN c.toNat = true then 1 + (l.takeWhile nxtB).length else 0) = l.length + 1 := h3
      by_cases hc : letN c.toNat = true
      · rw [if_pos hc] at h4
        have hl : (l.takeWhile nxtB).length = l.length := by omega
        have he : l.takeWhile nxtB = l := (List.takeWhile_prefix nxtB).eq_of_length hl
        intro hm
        rcases List.mem_cons.1 hm with h10 | hm
        · rw [← h10] at hc
          exact absurd hc (by decide)
        · rw [← he] at hm
          have := List.all_takeWhile (p := nxtB) (l := l)
          rw [List.all_eq_true] at this
          exact absurd (this _ hm) (by decide)
      · rw [if_neg hc] at h4
        omega
theorem lnF_no {h : Int} {r : Bs} (hr : relB r = true) : (10 : UInt8) ∉ lnF h r := by
  unfold lnF
  rw [List.mem_append, List.mem_cons]
  rintro (h1 | h1 | h1)
  · exact dig_no.2 h1
  · exact absurd h1 (by decide)
  · exact relB_no hr h1
theorem lnF_ne {h : Int} {r : Bs} : lnF h r ≠ [] := by
  unfold lnF
  simp
theorem indexByte_sep {a t : Bs} (ha : (10 : UInt8) ∉ a) : indexByte (a ++ 10 :: t) 10 = (a.length : Int) := by
  have hge := indexByte_ge (a ++ 10 :: t) 10
  by_cases hi : indexByte (a ++ 10 :: t) 10 = -1
  · exact absurd (show (a ++ 10 :: t)[a.length]? = some 10 by simp) (indexByte_none hi _)
  · obtain ⟨i, e⟩ : ∃ i : Nat, indexByte (a ++ 10 :: t) 10 = (i : Int) := ⟨(indexByte (a ++ 10 :: t) 10).toNat, by omega⟩
    obtain ⟨h1, h2⟩ := indexByte_some e
    rw [e]
    by_cases hlt : i < a.length
    · rw [List.getElem?_append_left hlt] at h1
      exact absurd (List.mem_of_getElem? h1) ha
    · by_cases hgt : a.length < i
      · exact absurd (show (a ++ 10 :: t)[a.length]? = some 10 by simp) (h2 _ hgt)
      · omega
theorem indexByte_not {a : Bs} (ha : (10 : UInt8) ∉ a) : indexByte a 10 = -1 := by
  have hge := indexByte_ge a 10
  by_cases hi : indexByte a 10 = -1
  · exact hi
  · obtain ⟨i, e⟩ : ∃ i : Nat, indexByte a 10 = (i : Int) := ⟨(indexByte a 10).toNat, by omega⟩
    exact absurd (List.mem_of_getElem? (indexByte_some e).1) ha
/-- The lines of lines and a rest. -/
theorem lines_txt : ∀ (H : List Int) (G : Fs) (t : Bs) (f : Nat), (∀ r ∈ G, relB r = true) → (10 : UInt8) ∉ t → (txtF H G ++ t).length ≤ f →
    linF f (txtF H G ++ t) = lnsF H G ++ (if t = [] then [] else [t])
  | h :: H, r :: G, t, f, hG, ht, hf => by
    have hx : txtF (h :: H) (r :: G) ++ t = lnF h r ++ 10 :: (txtF H G ++ t) := by
      unfold txtF
      rw [lnsF, List.flatten_cons]
      simp
    rw [hx] at hf ⊢
    have hne : lnF h r ++ 10 :: (txtF H G ++ t) ≠ [] := by simp
    have hi := indexByte_sep (t := txtF H G ++ t) (lnF_no (h := h) (hG r (by simp)))
    obtain ⟨f', rfl⟩ : ∃ f', f = f' + 1 := ⟨f - 1, by simp at hf; omega⟩
    rw [linF_next hne hi]
    have e1 : (lnF h r ++ 10 :: (txtF H G ++ t)).take ((lnF h r).length + 1) = lnF h r ++ [10] := by
      rw [List.take_append, List.take_of_length_le (by omega), Nat.add_sub_cancel_left]
      rfl
    have e2 : (lnF h r ++ 10 :: (txtF H G ++ t)).drop ((lnF h r).length + 1) = txtF H G ++ t := by
      rw [List.drop_append, List.drop_eq_nil_of_le (by omega), Nat.add_sub_cancel_left]
      rfl
    rw [e1, e2, lines_txt H G t f' (fun x hx => hG x (by simp [hx])) ht (by rw [List.length_append, List.length_cons] at hf; omega), lnsF]
    rfl
  | [], G, t, f, hG, ht, hf => by
    have hx : txtF [] G ++ t = t := by unfold txtF; rw [lnsF]; rfl
    rw [hx] at hf ⊢
    rw [lnsF, List.nil_append]
    by_cases hn : t = []
    · rw [if_pos hn, hn, linF_nil]
    · rw [if_neg hn]
      obtain ⟨f', rfl⟩ : ∃ f', f = f' + 1 := ⟨f - 1, by have := List.length_pos_iff.2 hn; omega⟩
      rw [linF_last hn (indexByte_not ht)]
  | h :: H, [], t, f, hG, ht, hf => by
    have hx : txtF (h :: H) [] ++ t = t := by unfold txtF; rw [lnsF]; rfl
    rw [hx] at hf ⊢
    rw [lnsF, List.nil_append]
    by_cases hn : t = []
    · rw [if_pos hn, hn, linF_nil]
    · rw [if_neg hn]
      obtain ⟨f', rfl⟩ : ∃ f', f = f' + 1 := ⟨f - 1, by have := List.length_pos_iff.2 hn; omega⟩
      rw [linF_last hn (indexByte_not ht)]
theorem trimNL_of (l : Bs) : trimNL (l ++ [10]) = l := by
  unfold trimNL trimSuffix hasSuffix
  simp
theorem trimNL_no {l : Bs} (h : (10 : UInt8) ∉ l) : trimNL l = l := by
  unfold trimNL trimSuffix
  split
  · rename_i hs
    exfalso
    apply h
    have : ([10] : Bs) <:+ l := by
      exact List.isSuffixOf_iff_suffix.1 hs
    exact this.subset (by simp)
  · rfl
/-- One line more. -/
theorem stepL_ln {T : Nat} {s : Rst} {h : Int} {r l : Bs} (he : s.err = none) (hk : s.hs.length ≠ T) (h0 : -1 ≤ h) (h1 : h + 1 ≤ (T : Int)) (hr : relB r = true) (hl : trimNL l = lnF h r) :
    stepL T s l = ⟨none, s.off + l.length, s.bs ++ [s.off], s.hs ++ [h], s.rs ++ [r]⟩ := by
  unfold stepL
  rw [he, hl, lineR_ln hk h0 h1 hr]
  rfl
theorem rd_lns (T : Nat) : ∀ (H : List Int) (G : Fs) (s : Rst), H.length = G.length → (∀ h ∈ H, -1 ≤ h ∧ h + 1 ≤ (T : Int)) → (∀ r ∈ G, relB r = true) → s.err = none → s.hs.length + H.length ≤ T →
    ((lnsF H G).foldl (stepL T) s).err = none ∧ ((lnsF H G).foldl (stepL T) s).hs = s.hs ++ H ∧ ((lnsF H G).foldl (stepL T) s).rs = s.rs ++ G
  | h :: H, r :: G, s, hl, hH, hG, he, hT => by
    rw [lnsF, List.foldl_cons]
    simp only [List.length_cons] at hl hT
    rw [stepL_ln he (by omega) (hH h (by simp)).1 (hH h (by simp)).2 (hG r (by simp)) (trimNL_of _)]
    have ih := rd_lns T H G ⟨none, s.off + (lnF h r ++ [10]).length, s.bs ++ [s.off], s.hs ++ [h], s.rs ++ [r]⟩ (by omega) (fun x hx => hH x (by simp [hx])) (fun x hx => hG x (by simp [hx])) rfl (by simp only [List.length_append, List.length_cons, List.length_nil]; omega)
    refine ⟨ih.1, ?_, ?_⟩
    · rw [ih.2.1]; simp
    · rw [ih.2.2]; simp
  | [], [], s, hl, hH, hG, he, hT => by
    rw [lnsF]
    exact ⟨he, by simp, by simp⟩
  | [], _ :: _, s, hl, hH, hG, he, hT => by simp at hl
  | _ :: _, [], s, hl, hH, hG, he, hT => by simp at hl
theorem lns_snoc : ∀ (H : List Int) (G : Fs) (h : Int) (r : Bs), H.length = G.length → lnsF (H ++ [h]) (G ++ [r]) = lnsF H G ++ [lnF h r ++ [10]]
  | a :: H, b :: G, h, r, hl => by
    rw [List.cons_append, List.cons_append, lnsF, lnsF, lns_snoc H G h r (by simpa using hl)]
    rfl
  | [], [], h, r, hl => rfl
  | [], _ :: _, h, r, hl => by simp at hl
  | _ :: _, [], h, r, hl => by simp at hl
/-- What the heads must be for their text to be read back. -/
theorem text_back {H : List Int} {G : Fs} (hl : H.length = G.length) (hH : ∀ h ∈ H, -1 ≤ h ∧ h < (H.length : Int)) (hG : ∀ r ∈ G, relB r = true) (hc : (checkH H).2 = 0) :
    (textE H.length (txtF H G)).2 = 0 ∧ (rd H.length (linesL (txtF H G))).hs = H ∧ (rd H.length (linesL (txtF H G))).rs = G := by
  have e : linesL (txtF H G) = lnsF H G := by
    have := lines_txt H G [] (txtF H G).length hG (by simp) (by simp)
    rw [List.append_nil, if_pos rfl, List.append_nil] at this
    exact this
  obtain ⟨r1, r2, r3⟩ := rd_lns H.length H G ⟨none, 0, [], [], []⟩ hl (fun h hh => ⟨(hH h hh).1, by have := (hH h hh).2; omega⟩) hG rfl (by simp)
  have k1 : (rd H.length (linesL (txtF H G))).err = none := by rw [e]; exact r1
  have k2 : (rd H.length (linesL (txtF H G))).hs = H := by rw [e]; exact r2
  have k3 : (rd H.length (linesL (txtF H G))).rs = G := by rw [e]; exact r3
  refine ⟨?_, k2, k3⟩
  unfold textE
  rw [k1]
  simp only
  rw [k2, if_neg (by omega), if_pos hc]
theorem text_back1 {H : List Int} {G : Fs} (hn : H ≠ []) (hl : H.length = G.length) (hH : ∀ h ∈ H, -1 ≤ h ∧ h < (H.length : Int)) (hG : ∀ r ∈ G, relB r = true) (hc : (checkH H).2 = 0) :
    (textE H.length ((txtF H G).take ((txtF H G).length - 1))).2 = 0 ∧ (rd H.length (linesL ((txtF H G).take ((txtF H G).length - 1)))).hs = H ∧ (rd H.length (linesL ((txtF H G).take ((txtF H G).length - 1)))).rs = G := by
  rcases List.eq_nil_or_concat H with rfl | ⟨H1, h, rfl⟩
  · exact absurd rfl hn
  rcases List.eq_nil_or_concat G with rfl | ⟨G1, r, rfl⟩
  · simp at hl
  rw [List.concat_eq_append] at *
  rw [List.concat_eq_append] at *
  have hl1 : H1.length = G1.length := by simpa using hl
  have hG1 : ∀ x ∈ G1, relB x = true := fun x hx => hG x (by simp [hx])
  have hr : relB r = true := hG r (by simp)
  have ht : txtF (H1 ++ [h]) (G1 ++ [r]) = txtF H1 G1 ++ lnF h r ++ [10] := by
    unfold txtF
    rw [lns_snoc _ _ _ _ hl1]
    simp
  have hcut : (txtF (H1 ++ [h]) (G1 ++ [r])).take ((txtF (H1 ++ [h]) (G1 ++ [r])).length - 1) = txtF H1 G1 ++ lnF h r := by
    rw [ht, List.length_append, List.length_singleton, Nat.add_sub_cancel, List.take_left']
    rfl
  rw [hcut]
  obtain ⟨T, hT⟩ : ∃ T, (H1 ++ [h]).length = T := ⟨_, rfl⟩
  rw [hT] at hH ⊢
  have hTn : T = H1.length + 1 := by rw [← hT]; simp
  have e : linesL (txtF H1 G1 ++ lnF h r) = lnsF H1 G1 ++ [lnF h r] := by
    have := lines_txt H1 G1 (lnF h r) (txtF H1 G1 ++ lnF h r).length hG1 (lnF_no hr) (Nat.le_refl _)
    rw [if_neg lnF_ne] at this
    exact this
  obtain ⟨r1, r2, r3⟩ := rd_lns T H1 G1 ⟨none, 0, [], [], []⟩ hl1 (fun x hx => ⟨(hH x (by simp [hx])).1, by have := (hH x (by simp [hx])).2; omega⟩) hG1 rfl (by simp only [List.length_nil]; omega)
  have hs : (rd T (linesL (txtF H1 G1 ++ lnF h r))).err = none ∧ (rd T (linesL (txtF H1 G1 ++ lnF h r))).hs = H1 ++ [h] ∧ (rd T (linesL (txtF H1 G1 ++ lnF h r))).rs = G1 ++ [r] := by
    rw [e, rd_snoc]
    have hq2 : (rd T (lnsF H1 G1)).hs = H1 := r2
    have hq3 : (rd T (lnsF H1 G1)).rs = G1 := r3
    rw [stepL_ln (s := rd T (lnsF H1 G1)) r1 (by rw [hq2]; omega) (hH h (by simp)).1 (by have := (hH h (by simp)).2; omega) hr (trimNL_no (lnF_no hr)), hq2, hq3]
    exact ⟨rfl, rfl, rfl⟩
  obtain ⟨k1, k2, k3⟩ := hs
  refine ⟨?_, k2, k3⟩
  unfold textE
  rw [k1]
  simp only
  rw [k2, hT, if_neg (by omega), if_pos hc]
/-! The size of the text. -/
theorem dec_le : ∀ (n k : Nat), n < 10 ^ (k + 1) → (decDigits n).length ≤ k + 1
  | n, 0, h => by rw [decDigits_one (by omega)]; simp
  | n, k + 1, h => by
    by_cases h1 : n < 10
    · rw [decDigits_one h1]; simp
    · rw [decDigits, dif_neg h1, List.length_append]
      have := dec_le (n / 10) k (by rw [Nat.pow_succ] at h; omega)
      simp
      omega
theorem lnF_len {h : Int} {r : Bs} (h0 : h < 9999) (hr : relB r = true) : (lnF h r).length ≤ 40 := by
  unfold lnF
  have h1 := dec_le (h + 1).toNat 3 (by omega)
  have h2 : r.length ≤ 32 := by
    unfold relB at hr
    rw [Bool.or_eq_true, decide_eq_true_iff] at hr
    rcases hr with rfl | hr
    · simp
    · unfold nameB at hr
      simp only [Bool.and_eq_true, decide_eq_true_iff] at hr
      exact hr.1.2
  simp
  omega
theorem txtF_len : ∀ (H : List Int) (G : Fs), (∀ h ∈ H, h < 9999) → (∀ r ∈ G, relB r = true) → (txtF H G).length ≤ 41 * H.length
  | h :: H, r :: G, hH, hG => by
    have ih := txtF_len H G (fun x hx => hH x (by simp [hx])) (fun x hx => hG x (by simp [hx]))
    have h1 := lnF_len (h := h) (r := r) (hH h (by simp)) (hG r (by simp))
    unfold txtF at ih ⊢
    rw [lnsF, List.flatten_cons, List.length_append, List.length_append, List.length_cons, List.length_cons, List.length_nil]
    omega
  | [], G, hH, hG => by unfold txtF; rw [lnsF]; simp
  | h :: H, [], hH, hG => by unfold txtF; rw [lnsF]; simp
/-- The text of the first tokens. -/
theorem txtF_take {H : List Int} {G : Fs} {k : Nat} {h : Int} {r : Bs} (hl : H.length = G.length) (hh : H[k]? = some h) (hr : G[k]? = some r) : txtF (H.take (k + 1)) (G.take (k + 1)) = txtF (H.take k) (G.take k) ++ (lnF h r ++ [10]) := by
  rw [List.take_add_one, List.take_add_one, hh, hr]
  unfold txtF
  simp only [Option.toList_some]
  rw [lns_snoc _ _ _ _ (by simp; omega)]
  simp
/-- What Format answers. -/
def formatH (H : List Int) (G : Fs) : Bs × Int :=
  if (checkH H).2 ≠ 0 then ([], (checkH H).2)
  else if H.length ≠ G.length then ([], 15)
  else if relsB G = false then ([], 4)
  else (txtF H G, 0)
end Go.Proofs.YtmjmidgfdjcbfaaGreatDoor.Dep
namespace Go.Proofs.YtmjmidgfdjcbfaaGreatDoor.Dep
open Go Go.RowKit Go.Shelf Go.Lib
set_option linter.unusedVariables false
attribute [local go_sem] Oper.semAt_some

/-- The table of the powers of ten. -/
abbrev TabAt (w : World) : Prop := Lib.TabIs Tryz.prog w "internal/strconv.uint64pow10" .u64 Lib.pow10Tab
theorem Tryz.gPow : Tryz.prog.globalNamed "internal/strconv.uint64pow10" = some 0 := by kernel_rfl
theorem tab_below {w w' : World} (h : TabAt w) (hb : Below w.heap.size w w') : TabAt w' := by
  unfold TabAt Lib.TabIs World.var? at h ⊢
  rw [Tryz.gPow] at h ⊢
  simp only [Option.bind_some] at h ⊢
  have hlt : 0 < w.heap.size := by
    rcases Nat.lt_or_ge 0 w.heap.size with hlt | hge
    · exact hlt
    · rw [Array.getElem?_eq_none hge] at h
      cases h
  rw [hb.block _ hlt]
  exact h
theorem grow_below (w : World) (k : Nat) (os : Array Obj) : Below w.heap.size w (Go.Sort.grow (w.drewN k) os) :=
  (below_drewN (Below.refl _ w) k).trans ⟨rfl, rfl, rfl, by show _ ≤ (_ ++ os).size; rw [Array.size_append]; exact Nat.le_add_right _ _, fun i hi => by show (_ ++ os)[i]? = _; exact Array.getElem?_append_left hi⟩
/-- The decimal digits of a head's number. -/
theorem itoa_any {W : World} (hT : TabAt W) {h : Int} (h0 : -1 ≤ h) (h1 : h < 1000000) :
    Calls Tryz.prog 12 #[.int .i64 (h + 1)] W fun e w' => e = .returned (.string ⟨(decDigits (h + 1).toNat).toArray⟩) ∧ Below W.heap.size W w' := by
  obtain ⟨m, hm⟩ : ∃ m : Nat, h + 1 = (m : Int) := ⟨(h + 1).toNat, by omega⟩
  refine (Tryz.strconv_Itoa (h + 1) (by omega) (by omega) W hT).mono ?_
  rintro e w' ⟨rfl, k, os, rfl⟩
  refine ⟨?_, grow_below _ _ _⟩
  rw [hm, itoa_nonneg, Int.toNat_natCast]

set_option maxRecDepth 100000 in
set_option maxHeartbeats 4000000 in
theorem format_any {w : World} (hT : TabAt w) {vh vr : Value} {H : List Int} {G : Fs} (hv : Rows 1 EInt w vh H) (hr : Rows 1 EStr w vr G) (hl : H.length ≤ maxLen) (hl2 : G.length ≤ maxLen) (hz : ∀ x ∈ G, x.length ≤ maxLen) :
    Calls Tryz.prog 5 #[vh, vr] w fun e w' => e = .returned (.tuple #[.string ⟨(formatH H G).1.toArray⟩, .int .i64 (formatH H G).2]) ∧ Below w.heap.size w w' := by
  have HC := Lib.hid (check_any hv hl)
  have HVR := Lib.hid (fun (W : World) (hb : Below w.heap.size w W) => validRelations_any (hr.below stays_str hb) hl2 hz)
  have HTB := Lib.hid (fun (W : World) (hb : Below w.heap.size w W) => tab_below hT hb)
  obtain ⟨A, cap, rfl, hc⟩ := hv.form
  obtain ⟨A2, cap2, rfl, hc2⟩ := hr.form
  have hfm : formatH H G = if (checkH H).2 ≠ 0 then ([], (checkH H).2) else if H.length ≠ G.length then ([], 15) else if relsB G = false then ([], 4) else (txtF H G, 0) := rfl
  have hck : (checkH H).2 = 0 → H.length ≤ 4096 ∧ ∀ h ∈ H, -1 ≤ h ∧ h < (H.length : Int) := fun h => by
    have hok := okh_iff.1 (show okH H = true by unfold okH; exact decide_eq_true h)
    exact ⟨hok.len, fun x hx => by rcases hok.inn x hx with e | ⟨e1, e2⟩ <;> omega⟩
  rw [hfm]
  obtain ⟨z, hzz⟩ : ∃ z, checkH H = z := ⟨_, rfl⟩
  obtain ⟨z1, z2⟩ := z
  rw [hzz] at HC hck ⊢
  simp only at HC hck ⊢
  obtain ⟨n, hn⟩ : ∃ n, H.length = n := ⟨_, rfl⟩
  obtain ⟨m, hm⟩ : ∃ m, G.length = m := ⟨_, rfl⟩
  rw [hn] at hl hc HC hck ⊢
  rw [hm] at hl2 hc2 HVR ⊢
  unfold maxLen at hl hl2
  have HV := Lib.hid hv
  have HR := Lib.hid hr
  have HN := Lib.hid hn
  have HM := Lib.hid hm
  have HCK := Lib.hid hck
  clear hv hr hz hzz hn hm hfm hck hT
  by_cases c1 : z2 ≠ 0
  · rw [if_pos c1]
    clear HVR HTB HV HR HN HM HCK
    go_enter Tryz.func5, Tryz.ntmps5
    go_wp2_with fail
    refine HC.out.mono ?_
    rintro e w1 ⟨rfl, hb1⟩
    have HB1 := Lib.hid hb1
    clear hb1
    go_wp2_with fail
    go_ret2
    exact ⟨rfl, HB1.out⟩
  obtain rfl : z2 = 0 := by omega
  rw [if_neg (by omega)]
  by_cases c2 : n ≠ m
  · rw [if_pos c2]
    have c2i : ¬ ((n : Int) = (m : Int)) := by omega
    clear HVR HTB HV HR HN HM HCK
    go_enter Tryz.func5, Tryz.ntmps5
    go_wp2_with fail
    refine HC.out.mono ?_
    rintro e w1 ⟨rfl, hb1⟩
    have HB1 := Lib.hid hb1
    clear hb1
    go_wp2_with fail
    go_ret2
    exact ⟨rfl, HB1.out⟩
  obtain rfl : n = m := by omega
  rw [if_neg (by omega)]
  obtain ⟨q, hq⟩ : ∃ q, relsB G = q := ⟨_, rfl⟩
  rw [hq] at HVR ⊢
  cases q with
  | false =>
    rw [if_pos rfl]
    clear HTB HV HR HN HM HCK hq
    go_enter Tryz.func5, Tryz.ntmps5
    go_wp2_with fail
    refine HC.out.mono ?_
    rintro e w1 ⟨rfl, hb1⟩
    have HVR1 := Lib.hid (HVR.out w1 hb1)
    have HB1 := Lib.hid hb1
    clear hb1
    go_wp2_with fail
    refine HVR1.out.mono ?_
    rintro e w2 ⟨rfl, hb2⟩
    have HB2 := Lib.hid (HB1.out.trans (hb2.mono HB1.out.size))
    clear hb2
    go_wp2_with fail
    go_ret2
    exact ⟨rfl, HB2.out⟩
  | true =>
    rw [if_neg (by decide)]
    obtain ⟨hn4, hH⟩ := HCK.out rfl
    have HH := Lib.hid hH
    have HG := Lib.hid (show ∀ r ∈ G, relB r = true from List.all_eq_true.1 hq)
    clear HCK hq hH
    go_enter Tryz.func5, Tryz.ntmps5
    go_wp2_with fail
    refine HC.out.mono ?_
    rintro e w1 ⟨rfl, hb1⟩
    have HVR1 := Lib.hid (HVR.out w1 hb1)
    have HB1 := Lib.hid hb1
    clear hb1
    go_wp2_with fail
    refine HVR1.out.mono ?_
    rintro e w2 ⟨rfl, hb2⟩
    have HB2 := Lib.hid (HB1.out.trans (hb2.mono HB1.out.size))
    clear hb2 HVR HVR1 HC
    go_wp2_with fail
    obtain ⟨w3, hw3⟩ : ∃ w3, w2.alloc (Obj.cells #[Value.pointer none, Value.slice none 0 0] 59) = w3 := ⟨_, rfl⟩
    have hbd3 : Bd w2.heap.size [] w3 := by rw [← hw3]; exact bd_new w2
    have hb3 : Below w2.heap.size w2 w3 := by rw [← hw3]; exact below_box _ _
    have HBD3 := Lib.hid hbd3
    have HB3 := Lib.hid (HB2.out.trans (hb3.mono HB2.out.size))
    have hz2 := HB2.out.size
    rw [hw3]
    obtain ⟨B, hB⟩ : ∃ B, w2.heap.size = B := ⟨_, rfl⟩
    rw [hB] at HBD3 hz2 ⊢
    clear hw3 hbd3 hb3 hB
    go_loopw [31] (fun i wr => ∃ k : Nat, k ≤ n ∧ i = .int .i64 k ∧ Hid (Bd B (txtF (H.take k) (G.take k)) wr) ∧ Hid (Below w.heap.size w wr)) (fun i _ => n - (Go.RowKit.intOf i).toNat)
    case atStart => exact ⟨0, Nat.zero_le _, rfl, HBD3, HB3⟩
    case round =>
      obtain ⟨k, hk, rfl, HBD, HB⟩ := hrel
      by_cases hlt : k < n
      · obtain ⟨h, hh⟩ : ∃ h, H[k]? = some h := ⟨_, List.getElem?_eq_getElem (by rw [HN.out]; omega)⟩
        obtain ⟨r, hhr⟩ : ∃ r, G[k]? = some r := ⟨_, List.getElem?_eq_getElem (by rw [HM.out]; omega)⟩
        have hhm := HH.out h (List.mem_of_getElem? hh)
        have hrg := HG.out r (List.mem_of_getElem? hhr)
        have htx := txtF_take (show H.length = G.length by rw [HN.out, HM.out]) hh hhr
        have htl := txtF_len (H.take k) (G.take k) (fun x hx => by have := HH.out x (List.mem_of_mem_take hx); omega) (fun x hx => HG.out x (List.mem_of_mem_take hx))
        rw [List.length_take, HN.out, Nat.min_eq_left (by omega)] at htl
        have hll := lnF_len (h := h) (r := r) (by omega) hrg
        obtain ⟨b1, o1, rfl, hl1, hj1⟩ := (HV.out.below stays_int HB.out).at' (by rw [HN.out]; omega)
        obtain ⟨b2, o2, rfl, hl2', hj2⟩ := HR.out.at' (by rw [HM.out]; omega)
        have hb2B : b2 < B := by omega
        have hbz := HB.out.size
        obtain ⟨cs1, hcl1, hec1, hcell1⟩ := hj1 k h hh
        cases hec1
        obtain ⟨cs2, hcl2, hec2, hcell2⟩ := hj2 k r hhr
        cases hec2
        have e1 := hcell1 0 _ rfl
        have e2 := hcell2 0 _ rfl
        rw [Nat.mul_one, Nat.add_zero] at e1 e2
        have hw : IntKind.i64.wrap (h + 1) = h + 1 := by rw [IntKind.wrap_i64]; omega
        have hit := itoa_any (W := wr.drew) (tab_below (HTB.out wr HB.out) (Below.refl _ wr).drew) (h := h) (by omega) (by omega)
        obtain ⟨D, hD⟩ : ∃ D : ByteArray, (⟨(decDigits (h + 1).toNat).toArray⟩ : ByteArray) = D := ⟨_, rfl⟩
        obtain ⟨R, hR⟩ : ∃ R : ByteArray, (⟨r.toArray⟩ : ByteArray) = R := ⟨_, rfl⟩
        have hT : D ++ ⟨#[9]⟩ ++ R ++ ⟨#[10]⟩ = ⟨(lnF h r ++ [10]).toArray⟩ := by
          rw [← hD, ← hR]
          apply ByteArray.ext
          simp [lnF]
        have hsz : D.size + 1 + R.size ≤ 40 := by
          have : (lnF h r).length = (decDigits (h + 1).toNat).length + (r.length + 1) := by unfold lnF; rw [List.length_append, List.length_cons]
          rw [← hD, ← hR, Lib.size_mk, Lib.size_mk]
          omega
        have z1 : ¬ (9223372036854775807 < D.size + 1) := by omega
        have z2 : ¬ (9223372036854775807 < D.size + 1 + R.size) := by omega
        have z3 : ¬ (9223372036854775807 < D.size + 1 + R.size + 1) := by omega
        rw [hD] at hit
        rw [hR] at e2
        have HIT : Hid (Calls Tryz.prog 12 #[.int .i64 (h + 1)] wr.drew fun e w' => e = .returned (.string D) ∧ Below wr.heap.size wr w') := Lib.hid (hit.mono fun _ _ q => And.intro q.1 ((Below.refl _ wr).drew.trans q.2))
        have HWR := Lib.hid (fun (W : World) (hb : Below wr.heap.size wr W) => write_bd (bd_below HBD.out hb) (lnF h r ++ [10]) (by simp only [List.length_append, List.length_cons, List.length_nil]; omega))
        rw [← hT, ← htx] at HWR
        obtain ⟨L, hL⟩ : ∃ L : Nat, (lnF h r ++ [10]).length = L := ⟨_, rfl⟩
        rw [hL] at HWR
        have HCL := Lib.hid (fun (W : World) (hb : Below wr.heap.size wr W) => (hb.cell (p := ⟨b2, o2 + k, none⟩) (show b2 < wr.heap.size by omega)).trans ((HB.out.cell (p := ⟨b2, o2 + k, none⟩) hl2').trans e2))
        have g2 : wr.cell? ⟨b2, o2 + k, none⟩ = some (.string R) := (HB.out.cell (p := ⟨b2, o2 + k, none⟩) hl2').trans e2
        have hBl := bd_lt HBD.out
        have HBl := Lib.hid hBl
        have hki : (k : Int) < (n : Int) := by omega
        clear hit hD hR hT hsz hL htx htl hll hrg hh hhr hj1 hj2 hcl1 hcl2 hcell1 hcell2 hl1 hl2' e2 HTB HBD hBl hbz
        go_wp2_with fail
        go_region_held3 (fun w' => w'.cell? ⟨b2, o2 + k, none⟩ = some (.string R))
          (first
            | go_keep
            | (exact HCL.out _ hb3)
            | (exact (hb4.cell (p := ⟨b2, o2 + k, none⟩) hb2B).trans (HCL.out _ hb3))
            | fail)
          ((first
            | (go_at_call 12; (with_reducible refine HIT.out.mono ?_); rintro e w3 ⟨rfl, hb3⟩)
            | (go_at_call 11; (with_reducible refine (HWR.out _ hb3).mono ?_); rintro e w4 ⟨rfl, bd4, hb4, ho4⟩)
            | fail))
        have HBD4 := Lib.hid bd4
        have HB4 := Lib.hid ((HB.out.trans (hb3.mono HB.out.size)).trans (hb4.mono hz2))
        clear hb3 bd4 hb4 ho4
        go_wp2_with fail
        exact ⟨⟨k + 1, by omega, by go_num, HBD4, HB4⟩, by simp only [Go.RowKit.intOf]; omega⟩
      · obtain rfl : k = n := by omega
        have hfull : txtF (H.take k) (G.take k) = txtF H G := by rw [List.take_of_length_le (by rw [HN.out]; exact Nat.le_refl _), List.take_of_length_le (by rw [HM.out]; exact Nat.le_refl _)]
        rw [hfull] at HBD
        clear hfull
        have HS := Lib.hid (string_bd HBD.out)
        have hbl := bd_lt HBD.out
        go_wp2_with fail
        refine HS.out.mono ?_
        rintro e w5 ⟨rfl, hb5⟩
        have HB5 := Lib.hid (HB.out.trans (hb5.mono (by omega)))
        clear hb5
        go_wp2_with fail
        go_ret2
        exact ⟨rfl, HB5.out⟩
end Go.Proofs.YtmjmidgfdjcbfaaGreatDoor.Dep
namespace Go.Proofs.YtmjmidgfdjcbfaaGreatDoor.Dep
open Go.RowKit Go.Shelf Go.Lib Go.ChangeShapes Go.WideShapes Go.ChangeAt

/-- What the rows list and the walks want. -/
structure LaidAt (w : World) : Prop where
  err : ErrAt w
  tab : TabAt w
theorem LaidAt.below {w w' : World} (h : LaidAt w) (hb : Below w.heap.size w w') : LaidAt w' := ⟨ErrAt.same h.err (hb.block _ h.err.lt), tab_below h.tab hb⟩
theorem Tryz.datPow : (Rows.laid_internal_strconv_uint64pow10 : DataW Unit) = Lib.tabData .u64 Lib.pow10Tab := by rfl
set_option maxRecDepth 100000 in
theorem laid_of_laid {W : World} (h0 : laidMetH Tryz.prog laidAll W) : LaidAt W := by
  refine ⟨err_of_laid h0, ?_⟩
  have h := h0
  rw [MakeChecks.laidMetH_plain _ _ _ (by kernel_rfl)] at h
  have hr := laidMet.tail (laidMet.tail h)
  rw [Tryz.datPow] at hr
  exact Lib.tabIs_of_head Tryz.gPow (t := 163) (by kernel_rfl) Tryz.underlying163 Tryz.underlying146 (by kernel_rfl) (by kernel_rfl) hr

section
variable {H : Type} {enc : TypeId × Value → H}
set_option maxRecDepth 100000 in
theorem open_rowS {W : World} {r : Reach} {b0 : Nat} {v : Value} {d : DataW H} {p : List MemPlace} (hv : Value.okWide Tryz.prog W r b0 23 v) (h : DataW.Trod enc Tryz.prog W 0 (fun _ => true) true 23 v d p) :
    ∃ l : Fs, Rows 1 EStr W v l ∧ l.length ≤ maxLen ∧ ∀ f ∈ l, f.length ≤ maxLen := by
  obtain ⟨a, len, cap, rfl⟩ := okWide_slice Tryz.underlying23 hv
  obtain ⟨fuel, hf⟩ := h
  rcases open_strings Tryz.underlying23 Tryz.underlying9 (by kernel_rfl) hf with ⟨hn, _⟩ | ⟨ad, len', cap', ss, hcs, _, hl, hm, hzl, _, hcell, hwf⟩
  · simp only [Value.cells, List.cons.injEq, and_true] at hn
    rw [hn]
    exact ⟨[], Rows.nil W, Nat.zero_le _, by simp⟩
  · simp only [Value.cells, List.cons.injEq, and_true] at hcs
    simp only [if_true] at hzl
    rw [hcs]
    have hlen : ((ss.take len').map fun s : ByteArray => s.data.toList).length = len' := by
      rw [List.length_map, List.length_take]
      omega
    refine ⟨(ss.take len').map fun s : ByteArray => s.data.toList, ⟨some ad, cap', by rw [hlen], by rw [hlen]; exact hl, fun h => ?_⟩, by rw [hlen]; omega, fun f hf => ?_⟩
    · rw [hlen] at h
      have h0 := hcell 0 (by omega)
      have h1 : ad.add 0 = ad := by simp [Addr.add]
      rw [h1] at h0
      have e := plain_addr h0
      refine ⟨ad.block, ad.off, by rw [← e], lt_of_cell h0, fun j x hx => ⟨[.string ⟨x.toArray⟩], rfl, rfl, fun i u hu => ?_⟩⟩
      have hjl := (List.getElem?_eq_some_iff.1 hx).1
      rw [hlen] at hjl
      have hc := hcell j (by omega)
      rw [List.getElem?_map, List.getElem?_take, if_pos hjl, List.getElem?_eq_getElem (by omega)] at hx
      simp only [Option.map_some, Option.some.injEq] at hx
      obtain ⟨rfl, rfl⟩ : i = 0 ∧ u = .string ⟨x.toArray⟩ := by
        cases i with
        | zero => exact ⟨rfl, by simpa using hu.symm⟩
        | succ i => simp at hu
      rw [← hx, Lib.mk_data]
      rw [List.getD_eq_getElem?_getD, List.getElem?_eq_getElem (by omega), e] at hc
      have hp : (⟨ad.block, ad.off, none⟩ : Addr).add j = ⟨ad.block, ad.off + j * 1 + 0, none⟩ := by
        rcases Nat.eq_zero_or_pos j with rfl | hj0
        · simp [Addr.add]
        · simp [Addr.add]; omega
      rw [hp] at hc
      exact hc
    · obtain ⟨s, hs, rfl⟩ := List.mem_map.1 hf
      have := hwf s (List.mem_of_mem_take hs)
      rw [← Lib.size_eq]
      exact this
end
end Go.Proofs.YtmjmidgfdjcbfaaGreatDoor.Dep
