/-
  WALKS over the reference of package huffman: Valid, Codes.
-/
import Derived.Test.YtbfnkmibbieijaaHuT
namespace Go.Proofs.Ytbfnkmibbieijaa
open Go.RowKit Go.Shelf Go.Lib Go.Deep
set_option linter.unusedVariables false
set_option linter.unusedSimpArgs false

theorem wrap_addM {a b c : Nat} (h : c = a + b) (hb : c ≤ 1000000000000) : wrap64 ((a : Int) + (b : Int)) = (c : Int) := by unfold wrap64; omega
theorem wrap_subM {a b c : Nat} (h : a - b = c) (hb : b ≤ a) (ha : a ≤ 1000000000000) : wrap64 ((a : Int) - (b : Int)) = (c : Int) := by unfold wrap64; omega
theorem u64_id {a : Nat} (ha : a ≤ 1000000000000) : IntKind.u64.wrap (a : Int) = (a : Int) := by rw [show IntKind.u64.wrap (a : Int) = (a : Int) % 18446744073709551616 from rfl]; omega
theorem u64_add1 {a : Nat} (ha : a ≤ 1000000000000) : IntKind.u64.wrap ((a : Int) + 1) = ((a + 1 : Nat) : Int) := by rw [show IntKind.u64.wrap ((a : Int) + 1) = ((a : Int) + 1) % 18446744073709551616 from rfl]; omega
theorem u64_shl {a d c : Nat} (h : a * 2 ^ d = c) (hc : c ≤ 1000000000000) : IntKind.u64.wrap ((a : Int) * 2 ^ d) = (c : Int) := by
  have e : (a : Int) * 2 ^ d = (c : Int) := by rw [← h]; simp
  rw [e]; exact u64_id hc
theorem kraft_le {L : List Nat} : kraft L ≤ L.length * 16384 := by
  refine list_snoc (P := fun L => kraft L ≤ L.length * 16384) (by simp [kraft]) (fun l x ih => ?_) L
  rw [kraft_snoc, List.length_append, List.length_singleton, Nat.add_mul]
  refine Nat.add_le_add ih ?_
  by_cases e : x = 0
  · rw [if_pos e]; exact Nat.zero_le _
  · rw [if_neg e]
    exact Nat.le_trans (show 2 ^ (15 - x) ≤ 2 ^ 14 from Nat.pow_le_pow_right (by omega) (by omega)) (by decide)
theorem kraft_b {cs : List Int} (h : cs.length ≤ 1024) (k : Nat) : kraft (natLs (cs.take k)) ≤ 16777216 := by
  refine Nat.le_trans kraft_le (Nat.le_trans (Nat.mul_le_mul_right _ (m := 1024) ?_) (by decide))
  unfold natLs
  rw [List.length_map, List.length_take]
  omega
def VldV (w : World) (cs : List Int) (e : Ending) (w' : World) : Prop := ∃ q, e = .returned (.bool q) ∧ (q = true ↔ okLH cs) ∧ w' = w
/-- Between two rounds of Valid. -/
def VlAt (cs : List Int) (k s : Nat) : Prop := (∀ x ∈ cs.take k, 0 ≤ x ∧ x ≤ 15) ∧ kraft (natLs (cs.take k)) = s

set_option maxRecDepth 100000 in
set_option maxHeartbeats 4000000 in
theorem refValid_any {w : World} {v : Value} {cs : List Int} (hv : Rows 1 EInt w v cs) (hlen : cs.length ≤ maxLen) :
    Calls Try.prog 93 #[v] w (VldV w cs) := by
  have HV := Lib.hid hv
  obtain ⟨A, cap, rfl, hc⟩ := hv.form
  obtain ⟨n, hn⟩ : ∃ n, cs.length = n := ⟨_, rfl⟩
  rw [hn] at HV hc hlen ⊢
  unfold maxLen at hlen
  have HN := Lib.hid hn
  clear hv hn hc
  by_cases hbig : 1024 < n
  · have hI : (1024 : Int) < (n : Int) := by omega
    have HE : Hid (VldV w cs (.returned (.bool false)) w) := Lib.hid ⟨false, rfl, ⟨fun h => (by cases h), fun h => (by have := h.1; rw [HN.out] at this; omega)⟩, rfl⟩
    clear hbig hlen
    go_enter Try.func93, Try.ntmps93
    go_wp2_with fail
    go_ret
    exact HE.out
  · have hI : ¬ (1024 : Int) < (n : Int) := by omega
    have hn1 : n ≤ 1024 := by omega
    have HST0 : Hid (VlAt cs 0 0) := Lib.hid ⟨fun x hx => (by simp at hx), by simp [natLs, kraft]⟩
    clear hbig hlen
    go_enter Try.func93, Try.ntmps93
    go_wp2_with fail
    clear hI
    go_loopw [3, 11] (fun kv sv wr => wr = w ∧ ∃ i s : Nat, i ≤ n ∧ sv = .int .i64 i ∧ kv = .int .i64 s ∧ Hid (VlAt cs i s)) (fun _ sv _ => n - (Go.RowKit.intOf sv).toNat)
    case atStart => exact ⟨rfl, 0, 0, Nat.zero_le _, rfl, rfl, HST0⟩
    case round =>
      clear HST0
      obtain ⟨rfl, i, s, hi, rfl, rfl, HS⟩ := hrel
      by_cases hlt : i < n
      · have hlti : (i : Int) < (n : Int) := by omega
        obtain ⟨c, hcx⟩ : ∃ c, cs[i]? = some c := ⟨_, List.getElem?_eq_getElem (by rw [HN.out]; exact hlt)⟩
        obtain ⟨b, o, rfl, -, hj⟩ := at_int HV.out (by rw [HN.out]; omega)
        have u0 := hj i c hcx
        by_cases d1 : c < 0
        · have b1 : decide (c < 0) = true := decide_eq_true d1
          have HE : Hid (VldV wr cs (.returned (.bool false)) wr) := Lib.hid ⟨false, rfl, ⟨fun h => (by cases h), fun h => (by have := (h.2.1 c (List.mem_of_getElem? hcx)).1; omega)⟩, rfl⟩
          clear hj hcx HS d1
          go_wp2_with fail
          go_ret
          exact HE.out
        · have b1 : decide (c < 0) = false := decide_eq_false d1
          by_cases d2 : 15 < c
          · have b2 : decide (c > 15) = true := decide_eq_true d2
            have HE : Hid (VldV wr cs (.returned (.bool false)) wr) := Lib.hid ⟨false, rfl, ⟨fun h => (by cases h), fun h => (by have := (h.2.1 c (List.mem_of_getElem? hcx)).2; omega)⟩, rfl⟩
            clear hj hcx HS d1 d2
            go_wp2_with fail
            go_ret
            exact HE.out
          · have b2 : decide (c > 15) = false := decide_eq_false d2
            obtain ⟨x, rfl⟩ : ∃ x : Nat, c = x := ⟨c.toNat, by omega⟩
            have b2' : decide (15 < x) = false := decide_eq_false (by omega)
            obtain ⟨hbd, hks⟩ := HS.out
            have hbd2 : ∀ y ∈ cs.take (i + 1), 0 ≤ y ∧ y ≤ 15 := fun y hy => by
              rw [List.take_add_one, hcx] at hy
              rcases List.mem_append.1 hy with hy | hy
              · exact hbd y hy
              · have : y = (x : Int) := by simpa using hy
                omega
            have hstep := natLs_step hcx
            rw [Int.toNat_natCast] at hstep
            have hk2 : kraft (natLs (cs.take (i + 1))) = s + (if x = 0 then 0 else 2 ^ (15 - x)) := by rw [hstep, kraft_snoc, hks]
            by_cases d3 : x = 0
            · have b3 : decide ((x : Int) > 0) = false := decide_eq_false (by omega)
              have b3' : decide (0 < x) = false := decide_eq_false (by omega)
              rw [if_pos d3, Nat.add_zero] at hk2
              have HNX : Hid (VlAt cs (i + 1) s) := Lib.hid ⟨hbd2, hk2⟩
              clear hj hcx HS d1 d2 d3 hbd hks hbd2 hstep hk2
              go_wp2_with fail
              exact ⟨⟨trivial, i + 1, s, by omega, by go_num, rfl, HNX⟩, by simp only [Go.RowKit.intOf]; omega⟩
            · have b3 : decide ((x : Int) > 0) = true := decide_eq_true (by omega)
              have b3' : decide (0 < x) = true := decide_eq_true (by omega)
              rw [if_neg d3] at hk2
              obtain ⟨d, hd⟩ : ∃ d, 15 - x = d := ⟨_, rfl⟩
              rw [hd] at hk2
              have hd15 : d ≤ 15 := by omega
              have hd14 : d ≤ 14 := by omega
              obtain ⟨pw1, pw2⟩ := pow_shift hd15
              have pw3 : (2 : Nat) ^ d ≤ 2 ^ 14 := Nat.pow_le_pow_right (by omega) hd14
              obtain ⟨Q, hQ⟩ : ∃ Q : Nat, 2 ^ d = Q := ⟨_, rfl⟩
              rw [hQ] at pw1 pw2 pw3 hk2
              obtain ⟨s2, hs2⟩ : ∃ s2, s + Q = s2 := ⟨_, rfl⟩
              have n1 : wrap64 (15 - (x : Int)) = (d : Int) := by unfold wrap64; omega
              have n2 := u64_id (a := d) (by omega)
              have n3 : (d : Int) ≤ 64 := by omega
              have hs2b : s2 ≤ 16777216 := by rw [← hs2, ← hk2]; exact kraft_b (by rw [HN.out]; exact hn1) _
              have n4 := wrap_addM hs2.symm (Nat.le_trans hs2b (by decide))
              have HNX : Hid (VlAt cs (i + 1) s2) := Lib.hid ⟨hbd2, by rw [hk2, hs2]⟩
              clear hj hcx HS d1 d2 d3 hbd hks hbd2 hstep hk2 hd hQ pw2 pw3 hs2 hs2b hd14
              go_wp2_with fail
              exact ⟨⟨trivial, i + 1, s2, by omega, by go_num, (by first | rfl | rw [n4]), HNX⟩, by simp only [Go.RowKit.intOf]; omega⟩
      · obtain rfl : i = n := by omega
        have hlti : ¬ (i : Int) < (i : Int) := by omega
        obtain ⟨hbd, hks⟩ := HS.out
        rw [List.take_of_length_le (by rw [HN.out]; exact Nat.le_refl _)] at hbd hks
        rw [kraft_end _ fun n hn => by
          unfold natLs at hn
          obtain ⟨c, hc, rfl⟩ := List.mem_map.1 hn
          have := hbd c hc
          omega] at hks
        by_cases hle : s ≤ 32768
        · have hI2 : (s : Int) ≤ 32768 := by omega
          have HE : Hid (VldV wr cs (.returned (.bool true)) wr) := Lib.hid ⟨true, rfl, ⟨fun _ => ⟨by rw [HN.out]; exact hn1, hbd, by omega⟩, fun _ => rfl⟩, rfl⟩
          clear hbd hks HS
          go_wp2_with fail
          go_ret
          exact HE.out
        · have hI2 : ¬ (s : Int) ≤ 32768 := by omega
          have HE : Hid (VldV wr cs (.returned (.bool false)) wr) := Lib.hid ⟨false, rfl, ⟨fun h => (by cases h), fun h => (by have := h.2.2; omega)⟩, rfl⟩
          have g1 : decide ((s : Int) ≤ 32768) = false := decide_eq_false hI2
          have g2 : decide (s ≤ 32768) = false := decide_eq_false hle
          clear hbd hks HS hle
          go_wp2_with fail
          go_ret
          exact HE.out

/-- The next code, out of the last one. -/
def NxR (L : List Nat) (n s nx la : Nat) : Prop := (la = 0 ∧ firstN L n + (L.take s).count n = 0) ∨ (1 ≤ la ∧ la ≤ n ∧ (nx + 1) * 2 ^ (n - la) = firstN L n + (L.take s).count n)
theorem NxR.use {L : List Nat} {n s nx la : Nat} (h : NxR L n s nx la) (hs : L[s]? = some n) (hn : 1 ≤ n) : NxR L n (s + 1) (firstN L n + (L.take s).count n) n := by
  right
  refine ⟨hn, Nat.le_refl _, ?_⟩
  rw [Nat.sub_self, Nat.pow_zero, Nat.mul_one, List.take_add_one, hs, Option.toList_some, List.count_append, List.count_singleton]
  simp; omega
theorem NxR.pass {L : List Nat} {n s nx la x : Nat} (h : NxR L n s nx la) (hs : L[s]? = some x) (hx : x ≠ n) : NxR L n (s + 1) nx la := by
  have e : (L.take (s + 1)).count n = (L.take s).count n := by
    rw [List.take_add_one, hs, Option.toList_some, List.count_append, List.count_singleton, if_neg (by simpa using hx)]; rfl
  unfold NxR
  rw [e]
  exact h
theorem NxR.next {L : List Nat} {n nx la : Nat} (h : NxR L n L.length nx la) (hn : 1 ≤ n) : NxR L (n + 1) 0 nx la := by
  unfold NxR at h ⊢
  have e : firstN L (n + 1) + (L.take 0).count (n + 1) = 2 * (firstN L n + (L.take L.length).count n) := by
    rw [List.take_length, ← endN_eq L hn]; simp [firstN]
  rw [e]
  rcases h with ⟨h1, h2⟩ | ⟨h1, h2, h3⟩
  · exact .inl ⟨h1, by omega⟩
  · refine .inr ⟨h1, by omega, ?_⟩
    rw [← h3, show n + 1 - la = (n - la) + 1 by omega, Nat.pow_succ, ← Nat.mul_assoc]; omega
theorem NxR.start (L : List Nat) : NxR L 1 0 0 0 := .inl ⟨rfl, by simp [firstN, endN]⟩
/-- Between two symbols of the reference's Codes. -/
def RcAt (w : World) (D : Nat) (L : List Nat) (n s nx la : Nat) (wr : World) : Prop := CdAt w D L n ((L.take s).count n) wr ∧ NxR L n s nx la ∧ nx ≤ 32768 ∧ la ≤ 15

set_option maxRecDepth 100000 in
set_option maxHeartbeats 4000000 in
theorem refCodes_any {w : World} {v : Value} {cs : List Int} (hv : Rows 1 EInt w v cs) (hlen : cs.length ≤ maxLen) :
    Calls Try.prog 61 #[v] w (CodesV w cs) := by
  have HO := Lib.hid (refValid_any hv hlen)
  have HV := Lib.hid (fun W (hb : Below w.heap.size w W) => hv.below stays_int hb)
  obtain ⟨A, cap, rfl, hc⟩ := hv.form
  obtain ⟨n, hn⟩ : ∃ n, cs.length = n := ⟨_, rfl⟩
  rw [hn] at HO HV ⊢
  have HN := Lib.hid hn
  clear hv hlen hc hn
  go_enter Try.func61, Try.ntmps61
  go_wp2_with fail
  refine HO.out.mono ?_
  rintro e w2 ⟨q, rfl, hq, rfl⟩
  by_cases hok : okLH cs
  · obtain rfl : q = true := hq.2 hok
    obtain ⟨L, hL⟩ : ∃ L, natLs cs = L := ⟨_, rfl⟩
    have hLl : L.length = n := by rw [← hL]; unfold natLs; rw [List.length_map, HN.out]
    have hn1 : n ≤ 1024 := by have := hok.1; rw [HN.out] at this; exact this
    have hlens := hok.lens
    rw [hL] at hlens
    have HAT := Lib.hid (show ∀ (i : Nat), i < n → ∃ l : Nat, cs[i]? = some (l : Int) ∧ l ≤ 15 ∧ L[i]? = some l from fun i hi => by
      have hx := List.getElem?_eq_getElem (l := cs) (i := i) (by rw [HN.out]; exact hi)
      have h1 := hok.2.1 _ (List.mem_of_getElem? hx)
      refine ⟨(cs[i]'(by rw [HN.out]; exact hi)).toNat, by rw [hx]; congr 1; omega, by omega, ?_⟩
      rw [← hL]; unfold natLs
      rw [List.getElem?_map, hx]; rfl)
    obtain ⟨D, hD⟩ : ∃ D, w2.heap.size = D := ⟨_, rfl⟩
    obtain ⟨i1, hi1, hy0, hy1, hy2⟩ := info_parts' Try.infoU64
    have hmk : ∀ W : World, (Instr.makeSlice 108 (.int .i64 n) (.int .i64 n)).run Try.prog W = .ok (.slice (some ⟨W.heap.size, 0, none⟩) n n) (W.alloc (.cells (rowU (List.replicate n 0)) 73)) := fun W => by
      have := run_make (P := Try.prog) W 108 73 i1 _ Try.underlying108 hi1 hy0 .i64 .i64 n n (by omega) (by omega) (by rw [hy2]; omega) (by omega)
      rw [Int.toNat_natCast, hy1, Nat.mul_one] at this
      rw [← made_u]
      exact this
    obtain ⟨X, hX⟩ : ∃ X, w2.alloc (.cells (rowU (List.replicate n 0)) 73) = X := ⟨_, rfl⟩
    have HST0 : Hid (RcAt w2 D L 1 0 0 0 X) := Lib.hid ⟨⟨by rw [← hX]; exact below_box _ _, by
      rw [show (L.take 0).count 1 = 0 by simp, cdL_start, hLl, ← hX, ← hD]; exact block_new _ _⟩, NxR.start L, by omega, by omega⟩
    have HX := Lib.hid hX
    have HD := Lib.hid hD
    have HOK := Lib.hid (And.intro hok hL)
    have HL := Lib.hid hlens
    have HLL := Lib.hid hLl
    clear hok hL hLl hlens hD hX HO hq
    go_wp2_with fail
    rw [HX.out, HD.out]
    go_loopw [5, 6, 7] (fun nv lv sv wr => ∃ q nx la : Nat, 1 ≤ q ∧ q ≤ 16 ∧ sv = .int .i64 q ∧ nv = .int .u64 nx ∧ lv = .int .i64 la ∧ Hid (RcAt w2 D L q 0 nx la wr)) (fun _ _ sv _ => 17 - (Go.RowKit.intOf sv).toNat)
    case atStart => exact ⟨1, 0, 0, Nat.le_refl _, by omega, rfl, rfl, rfl, HST0⟩
    case round =>
      clear HST0 HX hmk
      obtain ⟨q, nx0, la0, hq1, hq16, rfl, rfl, rfl, HS⟩ := hrel
      by_cases hlt : q ≤ 15
      · have hli : (q : Int) ≤ 15 := by omega
        have HQ1 := Lib.hid hq1
        go_wp2_with fail
        go_loopw [5, 6, 22] (fun nv lv sv wr => ∃ s nx la : Nat, s ≤ n ∧ sv = .int .i64 s ∧ nv = .int .u64 nx ∧ lv = .int .i64 la ∧ Hid (RcAt w2 D L q s nx la wr)) (fun _ _ sv _ => n - (Go.RowKit.intOf sv).toNat)
        case atStart => exact ⟨0, nx0, la0, Nat.zero_le _, rfl, rfl, rfl, HS⟩
        case round =>
          clear HS
          obtain ⟨s, nx, la, hsn, rfl, rfl, rfl, HT⟩ := hrel
          by_cases hlt2 : s < n
          · have hlti : (s : Int) < (n : Int) := by omega
            obtain ⟨x, hcx, hx15, hLx⟩ := HAT.out s hlt2
            obtain ⟨b, o, rfl, -, hj⟩ := at_int (HV.out wr HT.out.1.1) (by rw [HN.out]; omega)
            have u0 := hj s _ hcx
            by_cases d : x = q
            · subst d
              have b1 : ((x : Int) != (x : Int)) = false := by simp
              obtain ⟨hcd, hnx, hnx1, hla1⟩ := HT.out
              have hget := symsOf_get hLx
              have hcode : codeN L s = firstN L x + (L.take s).count x := codeN_at hLx HQ1.out
              have hcl := codeN_le HL.out s
              obtain ⟨z, hz⟩ : ∃ z, (cdL L x ((L.take s).count x))[s]? = some z := ⟨_, List.getElem?_eq_getElem (by rw [cdL_len, HLL.out]; exact hlt2)⟩
              have d0 := cell_of hcd.2 (rowU_get hz)
              have f0 : wr.frozen? ⟨D, s, none⟩ = false := frozen_of hcd.2
              obtain ⟨r, hr⟩ : ∃ r, firstN L x + (L.take s).count x = r := ⟨_, rfl⟩
              have hcnt : (L.take (s + 1)).count x = (L.take s).count x + 1 := by
                rw [List.take_add_one, hLx, Option.toList_some, List.count_append, List.count_singleton]; simp
              have HNX : Hid (RcAt w2 D L x (s + 1) r x (wr.setCell ⟨D, s, none⟩ (.int .u64 (r : Int)))) := Lib.hid ⟨⟨hcd.1.setCell (p := ⟨D, s, none⟩) (by rw [HD.out]; exact Nat.le_refl _) _, by
                have h1 := cdL_set HQ1.out hget
                rw [hr] at h1
                rw [hcnt, ← h1, ← rowU_set]; exact set_of hcd.2 _⟩, by have h2 := hnx.use hLx HQ1.out; rw [hr] at h2; exact h2, by omega, hlt⟩
              rw [hr] at hcode
              have hrb : r ≤ 32768 := by omega
              unfold NxR at hnx
              rw [hr] at hnx
              by_cases hl0 : la = 0
              · have hr0 : r = 0 := by
                  rcases hnx with h | h
                  · exact h.2
                  · omega
                subst hr0
                have b2 : ((la : Int) == 0) = true := by simp; omega
                clear hcx hx15 hLx hj hcd hnx hnx1 hla1 hget hcode hcl hz hr hcnt HT hrb hl0
                go_wp2_with fail
                exact ⟨⟨s + 1, 0, x, by omega, by go_num, rfl, rfl, HNX⟩, by simp only [Go.RowKit.intOf]; omega⟩
              · have b2 : ((la : Int) == 0) = false := by simp; omega
                obtain ⟨g1, g2, g3⟩ : 1 ≤ la ∧ la ≤ x ∧ (nx + 1) * 2 ^ (x - la) = r := by
                  rcases hnx with h | h
                  · exact absurd h.1 hl0
                  · exact h
                obtain ⟨d, hd⟩ : ∃ d, x - la = d := ⟨_, rfl⟩
                rw [hd] at g3
                have n1 := wrap_subM hd g2 (by omega)
                have n2 := u64_id (a := d) (by omega)
                have n3 : (d : Int) ≤ 64 := by omega
                have n4 := u64_add1 (a := nx) (by omega)
                obtain ⟨nx1, hnx1'⟩ : ∃ y, nx + 1 = y := ⟨_, rfl⟩
                rw [hnx1'] at n4 g3
                have n5 := u64_shl g3 (by omega)
                clear hcx hx15 hLx hj hcd hnx hnx1 hla1 hget hcode hcl hz hr hcnt HT hrb hl0 g1 g2 g3 hd hnx1'
                go_wp2_with fail
                exact ⟨⟨s + 1, r, x, by omega, by go_num, (by first | rfl | rw [n5]), rfl, HNX⟩, by simp only [Go.RowKit.intOf]; omega⟩
            · have b1 : ((x : Int) != (q : Int)) = true := by simp; omega
              obtain ⟨hcd, hnx, hnx1, hla1⟩ := HT.out
              have hcnt : (L.take (s + 1)).count q = (L.take s).count q := by
                rw [List.take_add_one, hLx, Option.toList_some, List.count_append, List.count_singleton, if_neg (by simpa using d)]; rfl
              have HNX : Hid (RcAt w2 D L q (s + 1) nx la wr) := Lib.hid ⟨by rw [hcnt]; exact hcd, hnx.pass hLx d, hnx1, hla1⟩
              clear hcx hx15 hLx hj hcd hnx hnx1 hla1 hcnt HT d
              go_wp2_with fail
              exact ⟨⟨s + 1, nx, la, by omega, by go_num, rfl, rfl, HNX⟩, by simp only [Go.RowKit.intOf]; omega⟩
          · obtain rfl : s = n := by omega
            have hlti : ¬ (s : Int) < (s : Int) := by omega
            obtain ⟨hcd, hnx, hnx1, hla1⟩ := HT.out
            have HNX : Hid (RcAt w2 D L (q + 1) 0 nx la wr) := Lib.hid ⟨by
              have e : (L.take s).count q = (symsOf L q).length := by rw [List.take_of_length_le (by rw [HLL.out]; exact Nat.le_refl _), symsOf_len]
              rw [e] at hcd
              rw [show (L.take 0).count (q + 1) = 0 by simp, CdAt, ← cdL_next]
              exact hcd, by
              have h2 := hnx
              rw [← HLL.out] at h2
              exact h2.next HQ1.out, hnx1, hla1⟩
            clear hcd hnx hnx1 hla1 HT
            go_wp2_with fail
            exact ⟨⟨q + 1, nx, la, by omega, by omega, by go_num, rfl, rfl, HNX⟩, by simp only [Go.RowKit.intOf]; omega⟩
      · obtain rfl : q = 16 := by omega
        have HE : Hid (CodesV w2 cs (.returned (.tuple #[.slice (some ⟨D, 0, none⟩) n n, .int .i64 0])) wr) := Lib.hid ⟨HS.out.1.1, .inr ⟨HOK.out.1, _, rfl, by
          have h1 := HS.out.1.2
          rw [show (L.take 0).count 16 = 0 by simp, cdL_end HL.out.2.1] at h1
          rw [HOK.out.2]
          exact rows_u (by rw [cdF_len, HLL.out]) (Nat.le_refl _) h1⟩⟩
        clear HS
        go_wp2_with fail
        go_ret2
        exact HE.out
  · obtain rfl : q = false := by
      cases q with
      | false => rfl
      | true => exact absurd (hq.1 rfl) hok
    have HE : Hid (CodesV w2 cs (.returned (.tuple #[.slice none 0 0, .int .i64 1])) w2) := Lib.hid ⟨Below.refl _ _, .inl ⟨hok, rfl⟩⟩
    clear hok hq HO
    go_wp2_with fail
    go_ret2
    exact HE.out
end Go.Proofs.Ytbfnkmibbieijaa
