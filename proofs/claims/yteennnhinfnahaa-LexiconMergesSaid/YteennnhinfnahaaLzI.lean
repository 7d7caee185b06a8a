/-
  WALKS over package lexicon: a lexicon in memory; Size, has, Word, Count, firstFrom, Number.
-/
import Derived.Test.YteennnhinfnahaaLzH
namespace Go.Proofs.Yteennnhinfnahaa
open Go.RowKit Go.Shelf Go.Lib Go.Sort
set_option linter.unusedVariables false
set_option linter.unusedSimpArgs false

/-- What the words and the counts of a lexicon are. -/
structure LexOk (ws : List Wd) (cs : List Nat) : Prop where
  asc : Asc ws
  len : cs.length = ws.length
  few : ws.length ≤ 1024
  val : ∀ x ∈ ws, x.length ≤ 120 ∧ validW x = true
  pos : ∀ c ∈ cs, 1 ≤ c
  sum : cs.sum ≤ 4096
abbrev intsN (l : List Nat) : List Int := l.map fun (j : Nat) => (j : Int)
/-- A lexicon in memory. -/
structure LexAt (w : World) (p : Nat) (ws : List Wd) (cs : List Nat) : Prop where
  ok : LexOk ws cs
  mem : ∃ v1 v2 v3 v4 : Value, w.heap[p]? = some (.cells #[v1, v2, v3, v4] 70 (0, 0)) ∧ Rows 1 EStr w v1 ws ∧ Rows 1 EInt w v2 (intsN cs) ∧ Rows 1 EInt w v3 (intsN (ordK (kyL ws) ws.length)) ∧ Rows 1 EInt w v4 (intsN (ordC (fun i => cs.getD i 0) cs.length))
theorem LexAt.lt {w : World} {p : Nat} {ws : List Wd} {cs : List Nat} (h : LexAt w p ws cs) : p < w.heap.size := by
  obtain ⟨v1, v2, v3, v4, hb, _⟩ := h.mem
  exact (Array.getElem?_eq_some_iff.1 hb).1
theorem LexAt.below {w W : World} {p : Nat} {ws : List Wd} {cs : List Nat} (h : LexAt w p ws cs) (hb : Below w.heap.size w W) : LexAt W p ws cs := by
  have hl := h.lt
  obtain ⟨v1, v2, v3, v4, h0, h1, h2, h3, h4⟩ := h.mem
  exact ⟨h.ok, v1, v2, v3, v4, block_below h0 hb hl, h1.below stays_str hb, h2.below stays_int hb, h3.below stays_int hb, h4.below stays_int hb⟩
theorem LexAt.words {w : World} {p : Nat} {ws : List Wd} {cs : List Nat} (h : LexAt w p ws cs) : ∃ A cap, w.cell? ⟨p, 0, none⟩ = some (.slice A ws.length cap) ∧ Rows 1 EStr w (.slice A ws.length cap) ws := by
  obtain ⟨v1, v2, v3, v4, h0, h1, _⟩ := h.mem
  obtain ⟨A, cap, rfl, _⟩ := h1.form
  exact ⟨A, cap, cell_of h0 rfl, h1⟩
theorem LexAt.counts {w : World} {p : Nat} {ws : List Wd} {cs : List Nat} (h : LexAt w p ws cs) : ∃ A cap, w.cell? ⟨p, 1, none⟩ = some (.slice A ws.length cap) ∧ Rows 1 EInt w (.slice A ws.length cap) (intsN cs) := by
  obtain ⟨v1, v2, v3, v4, h0, _, h2, _⟩ := h.mem
  obtain ⟨A, cap, rfl, _⟩ := h2.form
  have e : (intsN cs).length = ws.length := by rw [List.length_map, h.ok.len]
  rw [e] at h0 h2
  exact ⟨A, cap, cell_of h0 rfl, h2⟩
theorem ordK_len (key : Nat → Wd) : ∀ n, (ordK key n).length = n
  | 0 => rfl
  | n + 1 => by
    rw [ordK_succ]
    have := ordK_len key n
    unfold insK
    simp only [List.length_append, List.length_take, List.length_cons, List.length_drop]
    omega
theorem ordC_len (c : Nat → Nat) : ∀ n, (ordC c n).length = n
  | 0 => rfl
  | n + 1 => by
    rw [ordC_succ]
    have := ordC_len c n
    have := lastC_le c (ordC c n) n
    unfold insC
    simp only [List.length_append, List.length_take, List.length_cons, List.length_drop]
    omega

def SameV (w : World) (v : Value) (e : Ending) (w' : World) : Prop := e = .returned v ∧ w' = w
set_option maxRecDepth 100000 in
set_option maxHeartbeats 2000000 in
theorem size_any {w : World} {p : Nat} {ws : List Wd} {cs : List Nat} (h : LexAt w p ws cs) : Calls Try.prog 32 #[.pointer (some ⟨p, 0, none⟩)] w (SameV w (.int .i64 (ws.length : Nat))) := by
  obtain ⟨A, cap, h1, _⟩ := h.words
  obtain ⟨n, hn⟩ : ∃ n, ws.length = n := ⟨_, rfl⟩
  rw [hn] at h1 ⊢
  clear hn h
  go_enter Try.func32, Try.ntmps32
  go_wp2_with fail
  go_ret
  exact ⟨rfl, rfl⟩
def inR (n : Nat) (z : Int) : Bool := decide (0 ≤ z ∧ z < n)
theorem inR_nat (n k : Nat) : inR n (k : Int) = decide (k < n) := by unfold inR; rw [decide_eq_decide]; omega
set_option maxRecDepth 100000 in
set_option maxHeartbeats 2000000 in
theorem has_any {w : World} {p : Nat} {ws : List Wd} {cs : List Nat} (h : LexAt w p ws cs) (z : Int) : Calls Try.prog 55 #[.pointer (some ⟨p, 0, none⟩), .int .i64 z] w (SameV w (.bool (inR ws.length z))) := by
  obtain ⟨A, cap, h1, _⟩ := h.words
  obtain ⟨n, hn⟩ : ∃ n, ws.length = n := ⟨_, rfl⟩
  rw [hn] at h1 ⊢
  obtain ⟨q, hq⟩ : ∃ q, inR n z = q := ⟨_, rfl⟩
  have HQ := Lib.hid (show q = decide (0 ≤ z ∧ z < n) from hq.symm)
  rw [hq]
  clear hn h hq
  by_cases h0 : 0 ≤ z
  · by_cases h2 : z < n
    · have hqt : q = true := by rw [HQ.out]; exact decide_eq_true ⟨h0, h2⟩
      subst hqt
      go_enter Try.func55, Try.ntmps55
      go_wp2_with fail
      go_ret
      exact ⟨rfl, rfl⟩
    · have hqt : q = false := by rw [HQ.out]; exact decide_eq_false (by omega)
      subst hqt
      go_enter Try.func55, Try.ntmps55
      go_wp2_with fail
      go_ret
      exact ⟨rfl, rfl⟩
  · have hqt : q = false := by rw [HQ.out]; exact decide_eq_false (by omega)
    subst hqt
    go_enter Try.func55, Try.ntmps55
    go_wp2_with fail
    go_ret
    exact ⟨rfl, rfl⟩
/-- The word with a number. -/
def wordP (ws : List Wd) (z : Int) : Wd × Bool := if inR ws.length z then (ws.getD z.toNat [], true) else ([], false)
theorem wordP_at {ws : List Wd} {k : Nat} {x : Wd} (h : ws[k]? = some x) : wordP ws (k : Int) = (x, true) := by
  unfold wordP
  rw [inR_nat, if_pos (by simpa using (List.getElem?_eq_some_iff.1 h).1), Int.toNat_natCast, List.getD_eq_getElem?_getD, h]
  rfl
theorem wordP_out {ws : List Wd} {z : Int} (h : inR ws.length z = false) : wordP ws z = ([], false) := by
  unfold wordP; rw [h]; rfl
set_option maxRecDepth 100000 in
set_option maxHeartbeats 2000000 in
theorem word_any {w : World} {p : Nat} {ws : List Wd} {cs : List Nat} (h : LexAt w p ws cs) (z : Int) : Calls Try.prog 33 #[.pointer (some ⟨p, 0, none⟩), .int .i64 z] w (SameV w (.tuple #[.string ⟨(wordP ws z).1.toArray⟩, .bool (wordP ws z).2])) := by
  obtain ⟨A, cap, h1, hr⟩ := h.words
  have hhas := has_any h z
  obtain ⟨n, hn⟩ : ∃ n, ws.length = n := ⟨_, rfl⟩
  have hin : inR ws.length z = decide (0 ≤ z ∧ z < n) := by rw [hn]; rfl
  rw [hn] at h1 hr hhas hin
  cases hq : inR n z with
  | true =>
    rw [hq] at hhas hin
    obtain ⟨z0, z1⟩ := of_decide_eq_true hin.symm
    obtain ⟨k, rfl⟩ : ∃ k : Nat, z = (k : Int) := ⟨z.toNat, by omega⟩
    have hk : k < n := by omega
    obtain ⟨x, hx⟩ : ∃ x, ws[k]? = some x := ⟨_, List.getElem?_eq_getElem (by omega)⟩
    rw [wordP_at hx]
    obtain ⟨b, o, rfl, -, hj⟩ := at_str hr (by omega)
    have u0 := hj k x hx
    obtain ⟨T, hT⟩ : ∃ T : ByteArray, (⟨x.toArray⟩ : ByteArray) = T := ⟨_, rfl⟩
    simp only
    rw [hT] at u0 ⊢
    have HH := Lib.hid hhas
    clear hhas hj hx hT hn hin hq hr h z0
    go_enter Try.func33, Try.ntmps33
    go_wp2_with (go_at_call 55; refine HH.out.mono ?_; rintro e w2 ⟨rfl, rfl⟩)
    go_ret2
    exact ⟨rfl, rfl⟩
  | false =>
    rw [hq] at hhas
    rw [wordP_out (by rw [hn]; exact hq)]
    have HH := Lib.hid hhas
    clear hhas hn hin hq hr h h1
    go_enter Try.func33, Try.ntmps33
    go_wp2_with (go_at_call 55; refine HH.out.mono ?_; rintro e w2 ⟨rfl, rfl⟩)
    go_ret2
    exact ⟨rfl, rfl⟩
/-- The count of a number. -/
def countP (cs : List Nat) (z : Int) : Nat := if inR cs.length z then cs.getD z.toNat 0 else 0
theorem countP_at {cs : List Nat} {k c : Nat} (h : cs[k]? = some c) : countP cs (k : Int) = c := by
  unfold countP
  rw [inR_nat, if_pos (by simpa using (List.getElem?_eq_some_iff.1 h).1), Int.toNat_natCast, List.getD_eq_getElem?_getD, h]
  rfl
theorem countP_out {cs : List Nat} {z : Int} (h : inR cs.length z = false) : countP cs z = 0 := by
  unfold countP; rw [h]; rfl
set_option maxRecDepth 100000 in
set_option maxHeartbeats 2000000 in
theorem count_any' {w : World} {p : Nat} {ws : List Wd} {cs : List Nat} (h : LexAt w p ws cs) (z : Int) : Calls Try.prog 27 #[.pointer (some ⟨p, 0, none⟩), .int .i64 z] w (SameV w (.int .i64 (countP cs z : Nat))) := by
  obtain ⟨A, cap, h1, hr⟩ := h.counts
  have hhas := has_any h z
  have hle := h.ok.len
  obtain ⟨n, hn⟩ : ∃ n, ws.length = n := ⟨_, rfl⟩
  have hin : inR ws.length z = decide (0 ≤ z ∧ z < n) := by rw [hn]; rfl
  rw [hn] at h1 hr hhas hin hle
  cases hq : inR n z with
  | true =>
    rw [hq] at hhas hin
    obtain ⟨z0, z1⟩ := of_decide_eq_true hin.symm
    obtain ⟨k, rfl⟩ : ∃ k : Nat, z = (k : Int) := ⟨z.toNat, by omega⟩
    have hk : k < n := by omega
    obtain ⟨x, hx⟩ : ∃ x, cs[k]? = some x := ⟨_, List.getElem?_eq_getElem (by omega)⟩
    rw [countP_at hx]
    obtain ⟨b, o, rfl, -, hj⟩ := at_int hr (by rw [List.length_map]; omega)
    have u0 := hj k (x : Int) (by rw [List.getElem?_map, hx]; rfl)
    have HH := Lib.hid hhas
    clear hhas hj hx hn hin hq hr h z0
    go_enter Try.func27, Try.ntmps27
    go_wp2_with (go_at_call 55; refine HH.out.mono ?_; rintro e w2 ⟨rfl, rfl⟩)
    go_ret
    exact ⟨rfl, rfl⟩
  | false =>
    rw [hq] at hhas
    rw [countP_out (by rw [hle]; exact hq)]
    have HH := Lib.hid hhas
    clear hhas hn hin hq hr h h1
    go_enter Try.func27, Try.ntmps27
    go_wp2_with (go_at_call 55; refine HH.out.mono ?_; rintro e w2 ⟨rfl, rfl⟩)
    go_ret
    exact ⟨rfl, rfl⟩

set_option maxRecDepth 100000 in
set_option maxHeartbeats 2000000 in
theorem from1_any {W : World} {p n : Nat} {ws : List Wd} {A : Option Addr} {cap : Nat} (hn : ws.length = n) (Bx By : Nat) (s : Wd) (hb : W.cell? ⟨Bx, 0, none⟩ = some (.pointer (some ⟨p, 0, none⟩))) (hy : W.cell? ⟨By, 0, none⟩ = some (.string ⟨s.toArray⟩)) (hp : W.cell? ⟨p, 0, none⟩ = some (.slice A n cap)) (hv : Rows 1 EStr W (.slice A n cap) ws) (i : Nat) (hi : i < n) :
    Calls Try.prog 71 (#[.int .i64 i] ++ #[.pointer (some ⟨Bx, 0, none⟩), .pointer (some ⟨By, 0, none⟩)]) W fun e w' => e = .returned (.bool (!decide (ws.getD i [] < s))) ∧ ∃ q os, w' = grow (W.drewN q) os := by
  obtain ⟨x, hx⟩ : ∃ x, ws[i]? = some x := ⟨_, List.getElem?_eq_getElem (by omega)⟩
  obtain ⟨b, o, rfl, -, hj⟩ := at_str hv (by omega)
  have u0 := hj i x hx
  rw [List.getD_eq_getElem?_getD, hx]
  simp only [Option.getD_some]
  obtain ⟨T, hT⟩ : ∃ T : ByteArray, (⟨x.toArray⟩ : ByteArray) = T := ⟨_, rfl⟩
  obtain ⟨S, hS⟩ : ∃ S : ByteArray, (⟨s.toArray⟩ : ByteArray) = S := ⟨_, rfl⟩
  have hlt : Op.bytesLess T.toList S.toList = decide (x < s) := by rw [bytesLess_eq, ← hT, ← hS, Lib.toList_data, Lib.toList_data]
  rw [← hlt]
  obtain ⟨q, hq⟩ : ∃ q, Op.bytesLess T.toList S.toList = q := ⟨_, rfl⟩
  rw [hT] at u0
  rw [hS] at hy
  rw [hq]
  have hii : (i : Int) < (n : Int) := by omega
  clear hj hx hT hS hlt hv hn
  go_enter Try.func71, Try.ntmps71
  go_wp2_with fail
  go_quiet (fail)
  go_wp2_with fail
  go_ret
  exact ⟨rfl, _, #[], by rw [grow_empty]⟩
theorem fnd_count {ws : List Wd} (hs : Asc ws) (s : Wd) : (List.range ws.length).countP (fun i => !(!decide (ws.getD i [] < s))) = fnd ws s := by
  have hr : ∀ t, t < ws.length → (List.range ws.length)[t]! = t := fun t ht => by rw [getElem!_pos _ t (by simpa using ht)]; simp
  refine Lib.countP_boundary _ (List.range ws.length) (fnd ws s) (by simpa using fnd_le ws s) (fun t ht => ?_) (fun t h3 h4 => ?_)
  · have htl : t < ws.length := Nat.lt_of_lt_of_le ht (fnd_le ws s)
    have hx := List.getElem?_eq_getElem htl
    rw [hr t htl, List.getD_eq_getElem?_getD, hx]
    simpa using fnd_low ws s t _ ht hx
  · have htl : t < ws.length := by simpa using h4
    have hx := List.getElem?_eq_getElem htl
    rw [hr t htl, List.getD_eq_getElem?_getD, hx]
    simpa using fnd_high hs h3 hx
set_option maxRecDepth 100000 in
set_option maxHeartbeats 2000000 in
theorem firstFrom_any {w : World} {p : Nat} {ws : List Wd} {cs : List Nat} (h : LexAt w p ws cs) (s : Wd) : Calls Try.prog 49 #[.pointer (some ⟨p, 0, none⟩), .string ⟨s.toArray⟩] w (ErrV w (fnd ws s : Nat)) := by
  have hasc := h.ok.asc
  have hfew := h.ok.few
  have hl := h.lt
  have H := Lib.hid h
  obtain ⟨A, cap, h1, hr⟩ := h.words
  obtain ⟨n, hn⟩ : ∃ n, ws.length = n := ⟨_, rfl⟩
  rw [hn] at h1 hr hfew
  obtain ⟨N, hN⟩ : ∃ N, w.heap.size = N := ⟨_, rfl⟩
  obtain ⟨S, hS⟩ : ∃ S : ByteArray, (⟨s.toArray⟩ : ByteArray) = S := ⟨_, rfl⟩
  obtain ⟨X, hX⟩ : ∃ X, (w.alloc (.cells #[.pointer (some ⟨p, 0, none⟩)] 31)).alloc (.cells #[.string S] 9) = X := ⟨_, rfl⟩
  have hbX : Below N w X := by rw [← hX, ← hN]; exact (below_box w _).trans ((below_box _ _).mono (by simp))
  have hXs : X.heap.size = N + 2 := by rw [← hX, ← hN]; simp
  have e1 : X.heap[N]? = some (.cells #[.pointer (some ⟨p, 0, none⟩)] 31 (0, 0)) := by rw [← hX, ← hN]; exact block_alloc _ (block_new w _)
  have e2 : X.heap[N + 1]? = some (.cells #[.string S] 9 (0, 0)) := by
    have := block_new (w.alloc (.cells #[.pointer (some ⟨p, 0, none⟩)] 31)) (.cells #[.string S] 9)
    rw [alloc_sz, hN, hX] at this
    exact this
  have hkeep : ∀ W, Below X.heap.size X W → W.cell? ⟨N, 0, none⟩ = some (.pointer (some ⟨p, 0, none⟩)) ∧ W.cell? ⟨N + 1, 0, none⟩ = some (.string ⟨s.toArray⟩) ∧ W.cell? ⟨p, 0, none⟩ = some (.slice A n cap) ∧ Rows 1 EStr W (.slice A n cap) ws := fun W hW => by
    have hbW : Below w.heap.size w W := by rw [hN]; exact hbX.trans (hW.mono (by omega))
    exact ⟨cell_of (block_below e1 hW (by omega)) rfl, by rw [hS]; exact cell_of (block_below e2 hW (by omega)) rfl, (hbW.cell (p := ⟨p, 0, none⟩) hl).trans h1, hr.below stays_str hbW⟩
  have hsr := Any.sort_Search Try.laysSearchF 71 #[.pointer (some ⟨N, 0, none⟩), .pointer (some ⟨N + 1, 0, none⟩)] n (fun i => !decide (ws.getD i [] < s)) X
    (enters_of Try.func71 (by kernel_rfl) rfl) (by omega)
    (fun m os i hi => by
      obtain ⟨k1, k2, k3, k4⟩ := hkeep _ (below_grown_sl X.heap.size X m os (Nat.le_refl _))
      exact from1_any hn N (N + 1) s k1 k2 k3 k4 i hi)
    (fun a b hab hb ha => by
      have hbx := List.getElem?_eq_getElem (l := ws) (i := b) (by omega)
      have hax := List.getElem?_eq_getElem (l := ws) (i := a) (by omega)
      rw [List.getD_eq_getElem?_getD, hax] at ha
      rw [List.getD_eq_getElem?_getD, hbx]
      simp only [Option.getD_some, Bool.not_eq_true', decide_eq_false_iff_not] at ha ⊢
      intro hc
      by_cases e : a = b
      · subst e; exact ha hc
      · exact ha (wd_tr (asc_lt hasc (by omega) hax hbx) hc))
  have hcnt := fnd_count hasc s
  rw [hn] at hcnt
  rw [hcnt] at hsr
  have HSR := Lib.hid (hsr.mono fun e w' q => (show ErrV w (fnd ws s : Nat) e w' ∧ e = .returned (.int .i64 (fnd ws s : Nat)) from ⟨⟨q.1, by
    obtain ⟨k, os, rfl⟩ := q.2
    rw [hN]
    exact hbX.trans ((below_grown_sl X.heap.size X k os (Nat.le_refl _)).mono (by omega))⟩, q.1⟩))
  obtain ⟨k1, k2, k3, k4⟩ := hkeep X (Below.refl _ _)
  rw [hS]
  have HX := Lib.hid hX
  have HN := Lib.hid hN
  obtain ⟨r, hrr⟩ : ∃ r, fnd ws s = r := ⟨_, rfl⟩
  rw [hrr] at HSR ⊢
  clear hsr hkeep hcnt e1 e2 hXs hbX hX hN hr h1 h hasc hl hn k2 k4 hrr hS
  go_enter Try.func49, Try.ntmps49
  go_upto_region 1 with fail
  rw [HX.out, HN.out]
  go_wp2_with (go_at_call 50; refine HSR.out.mono ?_; rintro e w2 ⟨hE, rfl⟩)
  have HE := Lib.hid hE
  clear hE
  go_ret
  exact HE.out
def NumbV (w : World) (ws : List Wd) (s : Wd) (e : Ending) (w' : World) : Prop :=
  e = .returned (.tuple #[.int .i64 ((if ws[fnd ws s]? = some s then fnd ws s else 0 : Nat) : Int), .bool (decide (ws[fnd ws s]? = some s))]) ∧ Below w.heap.size w w'
end Go.Proofs.Yteennnhinfnahaa
