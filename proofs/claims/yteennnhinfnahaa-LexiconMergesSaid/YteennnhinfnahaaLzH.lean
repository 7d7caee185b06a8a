/-
  WALKS over package lexicon: reverseOrder; check. Rows of strings of the call's own.
-/
import Derived.Test.YteennnhinfnahaaLzG
import Derived.Test.YteennnhinfnahaaReM
import Derived.Test.YteennnhinfnahaaCpD
namespace Go.Proofs.Yteennnhinfnahaa
open Go.RowKit Go.Shelf Go.Lib Go.Sort
set_option linter.unusedVariables false
set_option linter.unusedSimpArgs false

def validW (v : Wd) : Bool := (units ⟨v.toArray⟩).all fun u => !badU u
theorem keyW_len (v : Wd) : (keyW v).length = v.length := revL_len _
theorem keyW_inj {a b : Wd} (ha : validW a = true) (hb : validW b = true) (h : keyW a = keyW b) : a = b := by
  have h1 := rev_twice ⟨a.toArray⟩ ⟨(keyW a).toArray⟩ rfl ha
  have h2 := rev_twice ⟨b.toArray⟩ ⟨(keyW b).toArray⟩ rfl hb
  rw [h, h2] at h1
  exact h1.symm
/-- The keys of words, by their numbers. -/
def kyL (ws : List Wd) (i : Nat) : Wd := (ws.map keyW).getD i []
theorem kyL_at {ws : List Wd} {i : Nat} {x : Wd} (h : ws[i]? = some x) : kyL ws i = keyW x := by
  unfold kyL
  rw [List.getD_eq_getElem?_getD, List.getElem?_map, h]
  rfl
theorem kyL_inj {ws : List Wd} (ha : Asc ws) (hv : ∀ x ∈ ws, validW x = true) (i j : Nat) (hi : i < ws.length) (hj : j < ws.length) (h : kyL ws i = kyL ws j) : i = j := by
  have h1 := List.getElem?_eq_getElem hi
  have h2 := List.getElem?_eq_getElem hj
  rw [kyL_at h1, kyL_at h2] at h
  have e := keyW_inj (hv _ (List.getElem_mem hi)) (hv _ (List.getElem_mem hj)) h
  rw [← e] at h2
  exact asc_inj ha h1 h2
/-- A block of strings. -/
def strRow (l : List Wd) : Array Value := (l.map fun (s : Wd) => Value.string ⟨s.toArray⟩).toArray
theorem strRow_get {l : List Wd} {i : Nat} {x : Wd} (h : l[i]? = some x) : (strRow l)[i]? = some (.string ⟨x.toArray⟩) := by
  simp [strRow, h]
theorem strRow_set (l : List Wd) (i : Nat) (x : Wd) : (strRow l).setIfInBounds i (.string ⟨x.toArray⟩) = strRow (l.set i x) := by
  simp [strRow, List.map_set]
theorem rows_str {W : World} {b n cap : Nat} {l : List Wd} {t : TypeId} {f : Nat × Nat} (hn : l.length = n) (hc : n ≤ cap) (h : W.heap[b]? = some (.cells (strRow l) t f)) : Rows 1 EStr W (.slice (some ⟨b, 0, none⟩) n cap) l := by
  subst hn
  refine ⟨_, cap, rfl, hc, fun h0 => ⟨b, 0, rfl, (Array.getElem?_eq_some_iff.1 h).1, fun j x hx => ⟨[.string ⟨x.toArray⟩], rfl, rfl, fun i u hu => ?_⟩⟩⟩
  match i, hu with
  | 0, hu =>
    cases hu
    exact cell_of h (by simpa using strRow_get hx)
theorem made_str (n : Nat) : madeCells #[.string ByteArray.empty] n = strRow (List.replicate n []) := by
  apply Array.ext'
  simp only [madeCells, strRow, List.map_replicate]
  apply List.ext_getElem?
  intro i
  by_cases h : i < n
  · simp [h, Nat.mod_one]; rfl
  · simp [h]
theorem Try.infoStr2 : (Try.prog.info? 9).map (fun i => (i.zero, i.size, i.bytes)) = some (some (.string ByteArray.empty), 1, 16) := by kernel_rfl
/-- The first k words stand reversed. -/
def revRow (ws : List Wd) (k : Nat) : List Wd := (ws.map keyW).take k ++ List.replicate (ws.length - k) []
theorem revRow_len {ws : List Wd} {k : Nat} (hk : k ≤ ws.length) : (revRow ws k).length = ws.length := by simp [revRow]; omega
theorem revRow_set {ws : List Wd} {k : Nat} {x : Wd} (h : ws[k]? = some x) : (revRow ws k).set k (keyW x) = revRow ws (k + 1) := by
  have hk : k < ws.length := (List.getElem?_eq_some_iff.1 h).1
  unfold revRow
  rw [List.set_append_right _ _ (by simp; omega)]
  have e : k - ((ws.map keyW).take k).length = 0 := by simp; omega
  rw [e, show ws.length - k = (ws.length - (k + 1)) + 1 by omega, List.replicate_succ, List.set_cons_zero, List.take_add_one, List.getElem?_map, h, List.append_assoc]
  rfl
theorem revRow_all (ws : List Wd) : revRow ws ws.length = ws.map keyW := by
  unfold revRow
  rw [Nat.sub_self, List.replicate_zero, List.append_nil, List.take_of_length_le (by simp)]

structure RvS (w wr : World) (N n : Nat) (l : List Wd) : Prop where
  below : Below w.heap.size w wr
  d : wr.heap[N]? = some (.cells (strRow l) 9 (0, 0))
  b : wr.heap[N + 1]? = some (.cells #[.slice (some ⟨N, 0, none⟩) n n] 29 (0, 0))
theorem RvS.keep {w wr W : World} {N n : Nat} {l : List Wd} (h : RvS w wr N n l) (hN : w.heap.size = N) (hb : Below wr.heap.size wr W) : RvS w W N n l := by
  have h1 := (Array.getElem?_eq_some_iff.1 h.b).1
  exact ⟨h.below.trans (hb.mono (by omega)), block_below h.d hb (by omega), block_below h.b hb h1⟩
theorem RvS.set {w wr : World} {N n : Nat} {l : List Wd} (h : RvS w wr N n l) (hN : w.heap.size = N) (i : Nat) (x : Wd) : RvS w (wr.setCell ⟨N, i, none⟩ (.string ⟨x.toArray⟩)) N n (l.set i x) :=
  ⟨h.below.trans ⟨rfl, rfl, rfl, by simp [World.setCell], fun k hk => Below.heap_setCell _ _ _ k (by show k ≠ N; omega)⟩, by rw [← strRow_set]; exact set_of h.d _, block_other _ h.b (by omega)⟩

set_option maxRecDepth 100000 in
set_option maxHeartbeats 4000000 in
theorem reverseOrder_any {w : World} {vw : Value} {ws : List Wd} (hv : Rows 1 EStr w vw ws) (hn : ws.length ≤ 4096) (hs : ∀ x ∈ ws, x.length ≤ 120) (ha : Asc ws) (hval : ∀ x ∈ ws, validW x = true) :
    Calls Try.prog 68 #[vw] w (NumV w (ordK (kyL ws) ws.length)) := by
  have hinj := kyL_inj ha hval
  obtain ⟨n, hcn⟩ : ∃ n, ws.length = n := ⟨_, rfl⟩
  have HV := Lib.hid (fun W (hb : Below w.heap.size w W) => hv.below stays_str hb)
  obtain ⟨A, cap, rfl, hc⟩ := hv.form
  rw [hcn] at hn hinj HV ⊢
  obtain ⟨i1, hi1, hy0, hy1, hy2⟩ := info_parts' Try.infoStr2
  have hmk : ∀ W : World, (Instr.makeSlice 29 (.int .i64 n) (.int .i64 n)).run Try.prog W = .ok (.slice (some ⟨W.heap.size, 0, none⟩) n n) (W.alloc (.cells (strRow (List.replicate n [])) 9)) := fun W => by
    have := run_make (P := Try.prog) W 29 9 i1 _ Try.underlying29 hi1 hy0 .i64 .i64 n n (by omega) (by omega) (by rw [hy2]; omega) (by omega)
    rw [Int.toNat_natCast, hy1, Nat.mul_one] at this
    rw [← made_str]
    exact this
  obtain ⟨N, hN⟩ : ∃ N, w.heap.size = N := ⟨_, rfl⟩
  obtain ⟨W0, hW0⟩ : ∃ W0, w.alloc (.cells (strRow (List.replicate n [])) 9) = W0 := ⟨_, rfl⟩
  have hWs : W0.heap.size = N + 1 := by rw [← hW0, ← hN]; simp
  obtain ⟨W1, hW1⟩ : ∃ W1, W0.alloc (.cells #[.slice (some ⟨N, 0, none⟩) n n] 29) = W1 := ⟨_, rfl⟩
  have hst : RvS w W1 N n (revRow ws 0) := by
    have b1 := block_new w (.cells (strRow (List.replicate n [])) 9)
    rw [hN, hW0] at b1
    have b2 := block_new W0 (.cells #[.slice (some ⟨N, 0, none⟩) n n] 29)
    rw [hWs, hW1] at b2
    refine ⟨?_, ?_, b2⟩
    · rw [← hW1, ← hW0]; exact (below_box w _).trans ((below_box _ _).mono (by simp))
    · rw [← hW1]
      have : revRow ws 0 = List.replicate n [] := by simp [revRow, hcn]
      rw [this]
      exact block_alloc _ b1
  have HST := Lib.hid hst
  have HW0 := Lib.hid hW0
  have HW1 := Lib.hid hW1
  have HN := Lib.hid hN
  have HWS := Lib.hid hWs
  have HCN := Lib.hid hcn
  have HSZ := Lib.hid hs
  have HFIN := Lib.hid (show ∀ wr, RvS w wr N n (ws.map keyW) → Calls Try.prog 84 #[.int .i64 n, .func (.func 85) #[] #[.pointer (some ⟨N + 1, 0, none⟩)]] wr (NumV w (ordK (kyL ws) n)) from fun wr hS => by
    have h1 := (Array.getElem?_eq_some_iff.1 hS.b).1
    refine (numbersBy_any (w := wr) hn (cfR (fun i => (ws.map keyW).getD i []) n) (swoR _ n) 85 #[.pointer (some ⟨N + 1, 0, none⟩)] (enters_of Try.func85 (by kernel_rfl) rfl) (fun W hW x y => ?_)).mono ?_
    · exact reverse1_any (ks := ws.map keyW) (by simp [hcn]) (N + 1) (some ⟨N, 0, none⟩) n (rows_str (by simp [hcn]) (Nat.le_refl _) (block_below hS.d hW (by omega))) (cell_of (block_below hS.b hW h1) rfl) x y
    · rintro e w2 ⟨v, ord, rfl, hs, hr, hb⟩
      have e1 : ord = ordK (kyL ws) n := srt_key hinj hs
      exact ⟨v, rfl, by rw [← e1]; exact hr, hS.below.trans (hb.mono (by omega))⟩)
  clear hv hst hW0 hW1 hN hWs hcn hs hinj ha hval
  go_enter Try.func68, Try.ntmps68
  go_wp2_with fail
  rw [HW0.out, HN.out, HW1.out]
  go_loopw [11] (fun sv wr => ∃ s : Nat, s ≤ n ∧ sv = .int .i64 s ∧ Hid (RvS w wr N n (revRow ws s))) (fun sv _ => n - (Go.RowKit.intOf sv).toNat)
  case atStart => exact ⟨0, Nat.zero_le _, rfl, HST⟩
  case round =>
    clear HST HW0 HW1 HWS hmk
    obtain ⟨s, hsn, rfl, HS⟩ := hrel
    by_cases hlt : s < n
    · have hlti : (s : Int) < (n : Int) := by omega
      obtain ⟨x, hx⟩ : ∃ x, ws[s]? = some x := ⟨_, List.getElem?_eq_getElem (by rw [HCN.out]; exact hlt)⟩
      obtain ⟨b1, o1, rfl, -, hj1⟩ := at_str (HV.out wr HS.out.below) (by rw [HCN.out]; omega)
      have u0 := hj1 s x hx
      have hrv := reverse_any ⟨x.toArray⟩ (by have := HSZ.out x (List.mem_of_getElem? hx); show x.toArray.size ≤ _; simp only [List.size_toArray]; omega) wr.drew
      obtain ⟨K, hK⟩ : ∃ K : ByteArray, (⟨(keyW x).toArray⟩ : ByteArray) = K := ⟨_, rfl⟩
      have hrv' : Calls Try.prog 83 #[.string ⟨x.toArray⟩] wr.drew fun e w' => e = .returned (.string K) ∧ Below wr.heap.size wr w' := hrv.mono fun _ _ q => ⟨by rw [q.1, ← hK]; rfl, (Below.refl _ wr).drew.trans q.2⟩
      obtain ⟨T, hT⟩ : ∃ T : ByteArray, (⟨x.toArray⟩ : ByteArray) = T := ⟨_, rfl⟩
      rw [hT] at u0 hrv'
      have HRV := Lib.hid hrv'
      have HBX := Lib.hid (fun (W : World) (hb : Below wr.heap.size wr W) => (show W.cell? ⟨N + 1, 0, none⟩ = some (.slice (some ⟨N, 0, none⟩) n n) from cell_of (HS.out.keep HN.out hb).b rfl))
      have HCE := Lib.hid (fun (W : World) (hb : Below wr.heap.size wr W) => (show (∃ u, W.cell? ⟨N, s, none⟩ = some u) ∧ W.frozen? ⟨N, s, none⟩ = false from
        ⟨⟨_, cell_of (HS.out.keep HN.out hb).d (strRow_get (List.getElem?_eq_getElem (by rw [revRow_len (by rw [HCN.out]; exact hsn), HCN.out]; exact hlt)))⟩, frozen_of (HS.out.keep HN.out hb).d⟩))
      have HNX := Lib.hid (fun (W : World) (hb : Below wr.heap.size wr W) => (show RvS w (W.setCell ⟨N, s, none⟩ (.string K)) N n (revRow ws (s + 1)) by
        rw [← revRow_set hx, ← hK]
        exact (HS.out.keep HN.out hb).set HN.out s (keyW x)))
      have hbx := HBX.out wr (Below.refl _ _)
      clear hj1 hrv hrv' hT hK HS
      go_wp2_with fail
      go_region_held3 (fun w' => w'.cell? ⟨N + 1, 0, none⟩ = some (.slice (some ⟨N, 0, none⟩) n n))
        (first
          | go_keep
          | (exact HBX.out _ hb3)
          | (exact (World.cell?_setCell_other _ _ _ _ (by intro e; simp only [Addr.mk.injEq] at e; omega)).trans (HBX.out _ hb3))
          | fail)
        ((first
          | (go_at_call 83; (with_reducible refine HRV.out.mono ?_); rintro e w3 ⟨rfl, hb3⟩; obtain ⟨⟨u3, kst⟩, fst⟩ := HCE.out w3 hb3)
          | fail))
      have HE := Lib.hid (HNX.out w3 hb3)
      clear hb3 kst fst
      go_wp2_with fail
      exact ⟨⟨s + 1, by omega, by go_num, HE⟩, by simp only [Go.RowKit.intOf]; omega⟩
    · obtain rfl : s = n := by omega
      have hlti : ¬ (s : Int) < (s : Int) := by omega
      have HC := Lib.hid (HFIN.out wr (by have := HS.out; rw [← HCN.out, revRow_all] at this; rw [← HCN.out]; exact this))
      clear HFIN HS
      go_wp2_with (go_at_call 84; refine HC.out.mono ?_; rintro e w2 ⟨v, rfl, hr, hb⟩)
      have HE := Lib.hid (show NumV w (ordK (kyL ws) s) (.returned v) w2 from ⟨v, rfl, hr, hb⟩)
      clear hr hb
      go_ret
      exact HE.out

/-- The error of a value on its own. -/
def chkW (v : Wd) : Int := if 120 < v.length then 2 else if validW v then 0 else 7
def ErrV (w : World) (z : Int) (e : Ending) (w' : World) : Prop := e = .returned (.int .i64 z) ∧ Below w.heap.size w w'
set_option maxRecDepth 100000 in
set_option maxHeartbeats 2000000 in
theorem check_any {w : World} (v : Wd) (hl : v.length ≤ maxLen) : Calls Try.prog 46 #[.string ⟨v.toArray⟩] w (ErrV w (chkW v)) := by
  have hval := valid_any ⟨v.toArray⟩ (show v.toArray.size ≤ maxLen by rw [List.size_toArray]; exact hl) w
  rw [show ((units ⟨v.toArray⟩).all fun u => !badU u) = validW v from rfl] at hval
  obtain ⟨T, hT⟩ : ∃ T : ByteArray, (⟨v.toArray⟩ : ByteArray) = T := ⟨_, rfl⟩
  have hTs : T.size = v.length := by rw [← hT]; rfl
  rw [hT] at hval ⊢
  obtain ⟨q, hq⟩ : ∃ q, validW v = q := ⟨_, rfl⟩
  obtain ⟨z, hz⟩ : ∃ z, chkW v = z := ⟨_, rfl⟩
  have HZ := Lib.hid (show z = if 120 < v.length then 2 else if q then 0 else 7 by rw [← hz, ← hq]; rfl)
  rw [hq] at hval
  rw [hz]
  have HVAL := Lib.hid hval
  have HTS := Lib.hid hTs
  clear hval hT hq hz hTs hl
  by_cases hlong : 120 < T.size
  · have hz2 : z = 2 := by rw [HZ.out, if_pos (by rw [← HTS.out]; exact hlong)]
    subst hz2
    have hI : (120 : Int) < (T.size : Int) := by omega
    go_enter Try.func46, Try.ntmps46
    go_wp2_with fail
    go_ret
    exact ⟨rfl, Below.refl _ _⟩
  · have hI : ¬ (120 : Int) < (T.size : Int) := by omega
    have hz2 : z = if q then 0 else 7 := by rw [HZ.out, if_neg (by rw [← HTS.out]; exact hlong)]
    cases q with
    | true =>
      have hz3 : z = 0 := by rw [hz2]; rfl
      clear hz2 HZ
      subst hz3
      go_enter Try.func46, Try.ntmps46
      go_wp2_with fail
      refine HVAL.out.mono ?_
      rintro e w2 ⟨rfl, hb⟩
      have HB := Lib.hid hb
      clear hb
      go_wp2_with fail
      go_ret
      exact ⟨rfl, HB.out⟩
    | false =>
      have hz3 : z = 7 := by rw [hz2]; rfl
      clear hz2 HZ
      subst hz3
      go_enter Try.func46, Try.ntmps46
      go_wp2_with fail
      refine HVAL.out.mono ?_
      rintro e w2 ⟨rfl, hb⟩
      have HB := Lib.hid hb
      clear hb
      go_wp2_with fail
      go_ret
      exact ⟨rfl, HB.out⟩
end Go.Proofs.Yteennnhinfnahaa
