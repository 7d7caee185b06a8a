/-
  WALKS over the reference of markup: the reader's name.
-/
import Derived.Test.YtjablaidbccnbaaGreatDoorRrM
import Derived.Test.YtjablaidbccnbaaGreatDoorMrA
import Derived.Test.YtjablaidbccnbaaGreatDoorMkT
namespace Go.Proofs.YtjablaidbccnbaaGreatDoor
open Go.RowKit Go.Shelf Go.Lib

/-- How the reader stands behind a step that hands a string back. -/
def StandsS (b : Nat) (s : ByteArray) (c : Bool) (nm : ByteArray) (kv : Value) (r : PR Bs) (w : World) (en : Ending) (w' : World) : Prop :=
  But b w w' ∧ match r with
  | .ok n j => en = .returned (.string ⟨n.toArray⟩) ∧ RB w' b s j c nm kv 0 0 false ∧ j ≤ s.size
  | .err a e => ∃ (x : ByteArray) (j : Int), en = .returned (.string x) ∧ RB w' b s j c nm kv a e true
theorem nameN_zero (l : Bs) : nameN l = 0 ↔ (∀ c, l.head? = some c → letN c.toNat = false) := by
  cases l with
  | nil => simp [nameN]
  | cons c r =>
    unfold nameN
    cases h : letN c.toNat with
    | true => simp [h]
    | false => simp [h]
theorem nameN_run {l : Bs} {c : UInt8} (hl : l.head? = some c) (h : letN c.toNat = true) : nameN l = (l.takeWhile nxtB).length := by
  cases l with
  | nil => simp at hl
  | cons d r =>
    simp at hl
    subst hl
    have : nxtB d = true := by unfold nxtB; rw [h]; rfl
    show (if letN d.toNat then 1 + (r.takeWhile nxtB).length else 0) = _
    rw [if_pos h, List.takeWhile_cons, if_pos this, List.length_cons]
    omega

set_option maxRecDepth 100000 in
set_option maxHeartbeats 1000000 in
theorem rname_over {w : World} {b : Nat} {s nm : ByteArray} {i a e : Int} {c : Bool} {kv : Value} (h : RB w b s i c nm kv a e true) (key : Bool) :
    Calls Tryz.prog 18 #[.pointer (some ⟨b, 0, none⟩), .bool key] w fun en w' => en = .returned (.string ⟨#[]⟩) ∧ But b w w' ∧ RB w' b s i c nm kv a e true := by
  have k1 := h.k1
  have k7 := h.k7
  have HF := Lib.hid (fun n => rfail_over (h.drewN n) i 3)
  have H := Lib.hid h
  clear h
  go_enter Tryz.func18, Tryz.ntmps18
  go_wp2_with fail
  go_quiet (fail)
  go_wp2_with fail
  have k1' : (w.drewN nq).cell? ⟨b, 1, none⟩ = some (.int .i64 i) := k1
  refine (HF.out _).mono ?_
  rintro en w1 ⟨rfl, rfl⟩
  go_wp2_with fail
  go_ret
  exact ⟨rfl, grown_drew' b w _, H.out⟩

/-- The error behind the first k keys. -/
def stK (x : F3) (fr : Int) (n : Bs) (ks : List Pr) (k : Nat) : F3 := if hasN (ks.take k) n then fF x fr 5 else x
theorem fF_twice (x : F3) (a e b f : Int) : fF (fF x a e) b f = fF x a e := by
  unfold fF
  cases h : x.2.2 <;> simp [h]
theorem hasN_snoc {ks : List Pr} {k : Nat} {p : Pr} (n : Bs) (hp : ks[k]? = some p) : hasN (ks.take (k + 1)) n = (hasN (ks.take k) n || decide (p.1 = n)) := by
  unfold hasN
  rw [List.take_add_one, hp]
  simp
theorem stK_hit {x : F3} {fr : Int} {n : Bs} {ks : List Pr} {k : Nat} {p : Pr} (hp : ks[k]? = some p) (h : p.1 = n) : fF (stK x fr n ks k) fr 5 = stK x fr n ks (k + 1) := by
  unfold stK
  rw [hasN_snoc n hp, decide_eq_true h, Bool.or_true, if_pos rfl]
  split
  · exact fF_twice _ _ _ _ _
  · rfl
theorem stK_miss {x : F3} {fr : Int} {n : Bs} {ks : List Pr} {k : Nat} {p : Pr} (hp : ks[k]? = some p) (h : ¬ p.1 = n) : stK x fr n ks k = stK x fr n ks (k + 1) := by
  unfold stK
  rw [hasN_snoc n hp, decide_eq_false h, Bool.or_false]
/-- What name hands back, its name being n bytes long. -/
def endF (fr n : Nat) : F3 := if 32 < n then ((fr : Int), 2, true) else (0, 0, false)
theorem end_name {b : Nat} {s nm : ByteArray} {c : Bool} {kv : Value} {w w' : World} {i n : Nat} {N : Bs} (hn : nameN (s.data.toList.drop i) = n) (h0 : n ≠ 0) (hN : (s.data.toList.drop i).take n = N) (hi : i + n ≤ s.size) (hb : But b w w') (h : RX w' b s ((i + n : Nat) : Int) c nm kv (endF i n)) :
    StandsS b s c nm kv (pName s.data.toList i) w (.returned (.string ⟨N.toArray⟩)) w' := by
  refine ⟨hb, ?_⟩
  unfold pName
  rw [hn, if_neg h0]
  unfold endF at h
  by_cases h32 : 32 < n
  · rw [if_pos h32] at h ⊢
    exact ⟨_, _, rfl, h⟩
  · rw [if_neg h32] at h ⊢
    exact ⟨by rw [hN], h, hi⟩
theorem end_key {b : Nat} {s nm : ByteArray} {c : Bool} {kv : Value} {w w' : World} {i n : Nat} {N : Bs} {ks : List Pr} (hn : nameN (s.data.toList.drop i) = n) (h0 : n ≠ 0) (hN : (s.data.toList.drop i).take n = N) (hi : i + n ≤ s.size) (hb : But b w w') (hl : ks.length ≤ 8)
    (h : RX w' b s ((i + n : Nat) : Int) c nm kv (if 8 ≤ ks.length then fF (stK (endF i n) i N ks ks.length) i 2 else stK (endF i n) i N ks ks.length)) :
    StandsS b s c nm kv (pKeyName s.data.toList i ks) w (.returned (.string ⟨N.toArray⟩)) w' := by
  have hpn : pName s.data.toList i = if 32 < n then .err i 2 else .ok N (i + n) := by
    unfold pName
    rw [hn, if_neg h0, hN]
  unfold stK at h
  rw [List.take_length] at h
  unfold endF at h
  by_cases h32 : 32 < n
  · have hpk : pKeyName s.data.toList i ks = .err i 2 := by
      unfold pKeyName
      rw [hpn, if_pos h32]
    rw [hpk]
    simp only [if_pos h32] at h
    refine ⟨hb, _, ((i + n : Nat) : Int), rfl, ?_⟩
    have e : (if 8 ≤ ks.length then fF (if hasN ks N = true then fF ((i : Int), 2, true) i 5 else ((i : Int), 2, true)) i 2 else if hasN ks N = true then fF ((i : Int), 2, true) i 5 else ((i : Int), 2, true)) = ((i : Int), 2, true) := by
      split <;> split <;> rfl
    rw [e] at h
    exact h
  · simp only [if_neg h32] at h
    have hpk : pKeyName s.data.toList i ks = if hasN ks N then .err i 5 else if ks.length = 8 then .err i 2 else .ok N (i + n) := by
      unfold pKeyName
      rw [hpn, if_neg h32]
    rw [hpk]
    cases hh : hasN ks N with
    | true =>
      rw [hh] at h
      refine ⟨hb, _, ((i + n : Nat) : Int), rfl, ?_⟩
      have e : (if 8 ≤ ks.length then fF (if true = true then fF (0, 0, false) i 5 else (0, 0, false)) i 2 else if true = true then fF (0, 0, false) i 5 else (0, 0, false)) = ((i : Int), 5, true) := by
        split <;> rfl
      rw [e] at h
      exact h
    | false =>
      rw [hh] at h
      simp only [Bool.false_eq_true, if_false] at h ⊢
      by_cases h8 : ks.length = 8
      · rw [if_pos h8]
        rw [if_pos (by omega)] at h
        exact ⟨hb, _, ((i + n : Nat) : Int), rfl, h⟩
      · rw [if_neg h8]
        rw [if_neg (by omega)] at h
        exact ⟨hb, rfl, h, hi⟩
/-- Between two rounds over the keys. -/
def NameK (b : Nat) (s : ByteArray) (j : Int) (c : Bool) (nm : ByteArray) (kv : Value) (x : F3) (fr : Int) (N : Bs) (ks : List Pr) (m : Nat) (w : World) (v : Value) (wr : World) : Prop :=
  ∃ k : Nat, k ≤ m ∧ v = .int .i64 k ∧ RX wr b s j c nm kv (stK x fr N ks k) ∧ But b w wr

set_option maxRecDepth 100000 in
set_option maxHeartbeats 2000000 in
theorem rname_live {w : World} {b : Nat} {s nm : ByteArray} {i : Nat} {c : Bool} {kv : Value} (h : RB w b s i c nm kv 0 0 false) (hi : i ≤ s.size) (hs : s.size ≤ 1000000) (key : Bool) (ks : List Pr) (hk : key = true → (∀ W, But b w W → Keys W kv ks) ∧ ks.length ≤ 8) :
    Calls Tryz.prog 18 #[.pointer (some ⟨b, 0, none⟩), .bool key] w fun en w' => StandsS b s c nm kv (if key then pKeyName s.data.toList i ks else pName s.data.toList i) w en w' := by
  have k0 := h.k0
  have k1 := h.k1
  have k7 := h.k7
  have H := Lib.hid h
  have HKK := Lib.hid hk
  have hsz : s.data.toList.length = s.size := (Lib.size_eq s).symm
  obtain ⟨R, hR⟩ : ∃ R, (if key = true then pKeyName s.data.toList i ks else pName s.data.toList i) = R := ⟨_, rfl⟩
  rw [hR]
  have HRR := Lib.hid hR
  clear h hk hR
  by_cases hlt : i < s.size
  · have hlt' : i < s.data.toList.length := by rw [hsz]; exact hlt
    have hdr : s.data.toList.drop i = s.data.toList[i] :: s.data.toList.drop (i + 1) := List.drop_eq_getElem_cons hlt'
    have hd : (s[i]'hlt).toNat = (s.data.toList[i]).toNat := rfl
    obtain ⟨y, hy⟩ : ∃ y, s.data.toList[i] = y := ⟨_, rfl⟩
    rw [hy] at hdr hd
    have hfst := fun W => refFirst_any y.toNat W
    obtain ⟨t, ht⟩ : ∃ t, letN y.toNat = t := ⟨_, rfl⟩
    rw [ht] at hfst
    obtain ⟨d, hdd⟩ : ∃ d, y.toNat = d := ⟨_, rfl⟩
    rw [hdd] at hfst hd
    have HFI := Lib.hid hfst
    have hli1 : decide ((s.size : Int) ≤ (i : Int)) = false := decide_eq_false (by omega)
    have hli2 : (i : Int) < (s.size : Int) := by omega
    clear hfst
    cases t with
    | false =>
      have hn0 : nameN (s.data.toList.drop i) = 0 := by
        rw [hdr]
        refine (nameN_zero _).2 (fun c hc => ?_)
        simp only [List.head?_cons, Option.some.injEq] at hc
        subst hc
        exact ht
      have HP : Hid (R = .err i 3) := Lib.hid (by
        rw [← HRR.out]
        unfold pKeyName pName
        rw [hn0]
        cases key <;> rfl)
      have HF := Lib.hid (fun n => rfail_live (H.out.drewN n) (i : Int) 3)
      clear hn0 ht hdd hdr hy hlt' hsz
      go_enter Tryz.func18, Tryz.ntmps18
      go_wp2_with fail
      go_quiet ((go_at_call 35; exact Calls.quiet_of_same (HFI.out _)))
      have k1' : (w.drewN nq).cell? ⟨b, 1, none⟩ = some (.int .i64 (i : Int)) := k1
      clear hd
      go_wp2_with fail
      refine (HF.out _).mono ?_
      rintro en w1 ⟨rfl, hB1, hbut1⟩
      have HE := Lib.hid (And.intro hB1 hbut1)
      clear hB1 hbut1
      go_wp2_with fail
      go_ret
      rw [HP.out]
      exact ⟨but_trans (grown_drew' b w _) HE.out.2, _, _, rfl, HE.out.1⟩
    | true =>
      obtain ⟨n, hn⟩ : ∃ n, nameN (s.data.toList.drop i) = n := ⟨_, rfl⟩
      have hle := nameN_le (s.data.toList.drop i)
      rw [List.length_drop, hsz, hn] at hle
      have hrun : nameN (s.data.toList.drop i) = ((s.data.toList.drop i).takeWhile nxtB).length := nameN_run (c := y) (by rw [hdr]; rfl) ht
      have hn0 : n ≠ 0 := by
        intro e
        rw [e] at hn
        have := (nameN_zero _).1 hn y (by rw [hdr]; rfl)
        rw [ht] at this
        cases this
      have hin : i + n ≤ s.size := by omega
      have hex := extract_mid s i n
      obtain ⟨N, hN⟩ : ∃ N, (s.data.toList.drop i).take n = N := ⟨_, rfl⟩
      rw [hN] at hex
      have HSTART : Hid (i + ((s.data.toList.drop i).takeWhile nxtB).length = i + n) := Lib.hid (by rw [← hrun, hn])
      have HN := Lib.hid (And.intro hn (And.intro hn0 hN))
      have HEX := Lib.hid hex
      have hNl : N.length = n := by rw [← hN, List.length_take, List.length_drop, hsz]; omega
      have HNL := Lib.hid hNl
      obtain ⟨SN, hSN⟩ : ∃ S : ByteArray, (⟨N.toArray⟩ : ByteArray) = S := ⟨_, rfl⟩
      have hSz : SN.size = n := by rw [← hSN]; exact hNl
      have HSN := Lib.hid hSN
      have HSZ := Lib.hid hSz
      clear hle hrun hn hn0 hex hN hNl hSN hSz ht hdd hdr hy hlt'
      go_enter Tryz.func18, Tryz.ntmps18
      go_wp2_with fail
      go_quiet ((go_at_call 35; exact Calls.quiet_of_same (HFI.out _)))
      clear hd k0 k1 k7 hli1 hli2
      go_wp2_with fail
      go_loopg [] (s.size + 1) (fun f wr => ∃ j : Nat, RB wr b s j c nm kv 0 0 false ∧ j ≤ s.size ∧ But b w wr ∧ s.size < j + f ∧ j + ((s.data.toList.drop j).takeWhile nxtB).length = i + n)
      case atStart => exact ⟨i, H.out.drewN _, by omega, grown_drew' b w _, by omega, HSTART.out⟩
      case round =>
        obtain ⟨j, hB, hj, hbut, hf, hrel⟩ := hrel
        obtain ⟨g, rfl⟩ : ∃ g, gk = g + 1 := ⟨gk - 1, by omega⟩
        have k0 := hB.k0
        have k1 := hB.k1
        have f1 := hB.fz 1
        have HB := Lib.hid hB
        have HU := Lib.hid hbut
        clear hB hbut
        by_cases hlj : j < s.size
        · have hlj' : j < s.data.toList.length := by rw [hsz]; exact hlj
          have hdr : s.data.toList.drop j = s.data.toList[j] :: s.data.toList.drop (j + 1) := List.drop_eq_getElem_cons hlj'
          have hd : (s[j]'hlj).toNat = (s.data.toList[j]).toNat := rfl
          obtain ⟨y2, hy2⟩ : ∃ y, s.data.toList[j] = y := ⟨_, rfl⟩
          rw [hy2] at hdr hd
          have hnx := fun W => refNext_any y2.toNat W
          have hnt : nxtB y2 = (letN y2.toNat || innN y2.toNat) := rfl
          rw [← hnt] at hnx
          rw [hdr, List.takeWhile_cons] at hrel
          obtain ⟨t, ht⟩ : ∃ t, nxtB y2 = t := ⟨_, rfl⟩
          rw [ht] at hnx hrel
          obtain ⟨d2, hdd⟩ : ∃ d, y2.toNat = d := ⟨_, rfl⟩
          rw [hdd] at hnx hd
          have HNX := Lib.hid hnx
          have hli1 : decide ((j : Int) < (s.size : Int)) = true := decide_eq_true (by omega)
          have hli2 : (j : Int) < (s.size : Int) := by omega
          clear hnx hnt ht hdd hdr hy2 hlj'
          cases t with
          | true =>
            simp only [if_true, List.length_cons] at hrel
            have HR := Lib.hid hrel
            clear hrel
            go_wp2_with fail
            go_quiet ((go_at_call 36; exact Calls.quiet_of_same (HNX.out _)))
            have k1' : (wr.drewN nq).cell? ⟨b, 1, none⟩ = some (.int .i64 (j : Int)) := k1
            clear hd
            go_wp2_with fail
            go_roundg g
            case measure => omega
            case rel =>
              exact ⟨j + 1, by have := (HB.out.drewN nq).move ((j : Int) + 1); exact_mod_cast this, by omega, but_trans HU.out (but_trans (grown_drew' b wr nq) (but_set b 1 _ _)), by omega, by have := HR.out; omega⟩
          | false =>
            simp only [Bool.false_eq_true, if_false, List.length_nil, Nat.add_zero] at hrel
            have HR := Lib.hid hrel
            clear hrel
            go_wp2_with fail
            go_quiet ((go_at_call 36; exact Calls.quiet_of_same (HNX.out _)))
            clear hd
            obtain ⟨wq, hwq⟩ : ∃ wq, wr.drewN nq = wq := ⟨_, rfl⟩
            have hBq : RB wq b s (j : Int) c nm kv 0 0 false := by rw [← hwq]; exact HB.out.drewN nq
            have hbq : But b w wq := by rw [← hwq]; exact but_trans HU.out (grown_drew' b wr nq)
            rw [hwq]
            clear k0 k1 f1 hli1 hli2 hwq
            have k0 := hBq.k0
            have k1 := hBq.k1
            have HEJ : Hid (s.extract i j = SN) := Lib.hid (by rw [HR.out, HEX.out, HSN.out])
            have hij : i ≤ j := by have := HR.out; omega
            have hSz := HSZ.out
            have HBQ := Lib.hid (And.intro hBq hbq)
            clear hBq hbq
            go_wp2_with fail
            go_quiet (fail)
            rw [HEJ.out]
            clear k0 k1
            obtain ⟨wv, hwv⟩ : ∃ wv, wq.drewN nq = wv := ⟨_, rfl⟩
            have hBv : RB wv b s (j : Int) c nm kv 0 0 false := by rw [← hwv]; exact HBQ.out.1.drewN _
            have hbv : But b w wv := by rw [← hwv]; exact but_trans HBQ.out.2 (grown_drew' b wq _)
            rw [hwv]
            have HBV := Lib.hid (And.intro hBv hbv)
            clear hwv hBv hbv
            have HPOST : Hid (∀ W, But b w W → (if key = true then RX W b s (j : Int) c nm kv (if 8 ≤ ks.length then fF (stK (endF i n) i N ks ks.length) i 2 else stK (endF i n) i N ks ks.length) else RX W b s (j : Int) c nm kv (endF i n)) → StandsS b s c nm kv R w (.returned (.string SN)) W) := Lib.hid (by
              intro W hW h
              rw [HR.out] at h
              rw [← HSN.out, ← HRR.out]
              cases key with
              | true => exact end_key HN.out.1 HN.out.2.1 HN.out.2.2 hin hW (HKK.out rfl).2 h
              | false => exact end_name HN.out.1 HN.out.2.1 HN.out.2.2 hin hW h)
            by_cases h32 : 32 < n
            all_goals
              have hE : endF i n = if 32 < n then ((i : Int), 2, true) else (0, 0, false) := rfl
              first
                | rw [if_pos h32] at hE
                | rw [if_neg h32] at hE
              have HE := Lib.hid hE
              clear hE
            · have h32i : (32 : Int) < (n : Int) := by omega
              have HF := Lib.hid (rfail_live HBV.out.1 (i : Int) 2)
              go_wp2_with fail
              refine HF.out.mono ?_
              rintro en w1 ⟨rfl, hB1, hbut1⟩
              have HX : Hid (RX w1 b s (j : Int) c nm kv (endF i n) ∧ But b w w1) := Lib.hid ⟨by rw [HE.out]; exact hB1, but_trans HBV.out.2 hbut1⟩
              clear hB1 hbut1 h32i
              clear hSz
              cases key with
              | false =>
                go_wp2_with fail
                go_ret
                exact HPOST.out _ HX.out.2 HX.out.1
              | true =>
                obtain ⟨A, cap, hv, hcap, _⟩ := (HKK.out rfl).1 w1 HX.out.2
                obtain ⟨m, hm⟩ : ∃ m, ks.length = m := ⟨_, rfl⟩
                rw [hm] at hv hcap
                have k4 := (show RB w1 b s (j : Int) c nm kv _ _ _ from HX.out.1).k4
                subst hv
                have HM := Lib.hid hm
                clear hm
                have HK2 := Lib.hid (HKK.out rfl)
                have hm8 : m ≤ 8 := by rw [← HM.out]; exact HK2.out.2
                have HPOST2 : Hid (∀ W, But b w W → RX W b s (j : Int) c nm (.slice A m cap) (if 8 ≤ ks.length then fF (stK (endF i n) i N ks ks.length) i 2 else stK (endF i n) i N ks ks.length) → StandsS b s c nm (.slice A m cap) R w (.returned (.string SN)) W) := Lib.hid (fun W hW h => HPOST.out W hW (by rw [if_pos rfl]; exact h))
                have HST : Hid (NameK b s (j : Int) c nm (.slice A m cap) (endF i n) i N ks m w (.int .i64 0) w1) := Lib.hid ⟨0, Nat.zero_le _, rfl, by unfold stK; exact HX.out.1, HX.out.2⟩
                go_wp2_with fail
                clear k4
                go_loopw [100] (fun v wr => NameK b s (j : Int) c nm (.slice A m cap) (endF i n) i N ks m w v wr) (fun v _ => m - (Go.RowKit.intOf v).toNat)
                case atStart => exact HST.out
                case round =>
                  obtain ⟨k, hk, rfl, hX, hbx⟩ := hrel
                  have k4 := (show RB wr b s (j : Int) c nm (.slice A m cap) _ _ _ from hX).k4
                  by_cases hlk : k < m
                  · obtain ⟨p, hp⟩ : ∃ p, ks[k]? = some p := ⟨_, List.getElem?_eq_getElem (by rw [HM.out]; exact hlk)⟩
                    obtain ⟨A', cap', hv', _, hr⟩ := HK2.out.1 wr hbx
                    obtain ⟨b2, off2, hA, hbl2, hjj⟩ := hr (by rw [HM.out]; omega)
                    simp only [Value.slice.injEq] at hv'
                    obtain ⟨hv', -, -⟩ := hv'
                    subst hv'
                    subst hA
                    obtain ⟨g0, g1⟩ := hjj k p hp
                    obtain ⟨P1, hP1⟩ : ∃ s : ByteArray, (⟨p.1.toArray⟩ : ByteArray) = s := ⟨_, rfl⟩
                    obtain ⟨P2, hP2⟩ : ∃ s : ByteArray, (⟨p.2.toArray⟩ : ByteArray) = s := ⟨_, rfl⟩
                    have htest : (P1.toList == SN.toList) = decide (p.1 = N) := by
                      rw [← hP1, ← HSN.out, Lib.toList_data, Lib.toList_data, Bool.eq_iff_iff]
                      simp
                    rw [hP1] at g0
                    rw [hP2] at g1
                    have hXA : RX (wr.alloc (.cells #[.string P1, .string P2] 54)) b s (j : Int) c nm (.slice (some ⟨b2, off2, none⟩) m cap) (stK (endF i n) i N ks k) := RB.below hX ((Below.refl _ wr).alloc (Nat.le_refl _) _)
                    have hbA : But b wr (wr.alloc (.cells #[.string P1, .string P2] 54)) := but_below ((Below.refl _ wr).alloc (Nat.le_refl _) _)
                    have HXA := Lib.hid hXA
                    have HBA := Lib.hid (but_trans hbx hbA)
                    have HP := Lib.hid hp
                    clear hX hbx hXA hbA hp hr hjj hbl2 hP1 hP2 k4
                    by_cases hpn : p.1 = N
                    · have hT : (P1.toList == SN.toList) = true := by rw [htest]; exact decide_eq_true hpn
                      have HF := Lib.hid (rfail_any HXA.out (i : Int) 5)
                      have HS := Lib.hid (stK_hit (x := endF i n) (fr := (i : Int)) HP.out hpn)
                      clear htest hpn
                      go_wp2_with fail
                      refine HF.out.mono ?_
                      rintro en w2 ⟨rfl, hX2, hb2⟩
                      rw [HS.out] at hX2
                      have HX2 := Lib.hid (And.intro hX2 (but_trans HBA.out hb2))
                      clear hX2 hb2 g0 g1
                      go_wp2_with fail
                      exact ⟨⟨k + 1, by omega, by go_num, HX2.out.1, HX2.out.2⟩, by simp only [Go.RowKit.intOf]; omega⟩
                    · have hT : (P1.toList == SN.toList) = false := by rw [htest]; exact decide_eq_false hpn
                      have HS := Lib.hid (stK_miss (x := endF i n) (fr := (i : Int)) HP.out hpn)
                      clear htest hpn
                      go_wp2_with fail
                      exact ⟨⟨k + 1, by omega, by go_num, by rw [← HS.out]; exact HXA.out, HBA.out⟩, by simp only [Go.RowKit.intOf]; omega⟩
                  · have hkm : k = m := by omega
                    subst hkm
                    have HXE : Hid (RX wr b s (j : Int) c nm (.slice A k cap) (stK (endF i n) i N ks ks.length) ∧ But b w wr) := Lib.hid ⟨by rw [HM.out]; exact hX, hbx⟩
                    clear hX hbx
                    by_cases h8 : 8 ≤ k
                    · have h8i : (8 : Int) ≤ (k : Int) := by omega
                      have HF := Lib.hid (rfail_any HXE.out.1 (i : Int) 2)
                      go_wp2_with fail
                      refine HF.out.mono ?_
                      rintro en w2 ⟨rfl, hX2, hb2⟩
                      have HX2 := Lib.hid (And.intro hX2 (but_trans HXE.out.2 hb2))
                      clear hX2 hb2 h8i
                      go_wp2_with fail
                      go_ret
                      refine HPOST2.out _ HX2.out.2 ?_
                      rw [if_pos (by rw [HM.out]; exact h8)]
                      exact HX2.out.1
                    · have h8i : ¬ (8 : Int) ≤ (k : Int) := by omega
                      go_wp2_with fail
                      go_ret
                      refine HPOST2.out _ HXE.out.2 ?_
                      rw [if_neg (by rw [HM.out]; exact h8)]
                      exact HXE.out.1
            · have h32i : ¬ (32 : Int) < (n : Int) := by omega
              have HX : Hid (RX wv b s (j : Int) c nm kv (endF i n) ∧ But b w wv) := Lib.hid ⟨by rw [HE.out]; exact HBV.out.1, HBV.out.2⟩
              cases key with
              | false =>
                go_wp2_with fail
                go_ret
                exact HPOST.out _ HX.out.2 HX.out.1
              | true =>
                obtain ⟨A, cap, hv, hcap, _⟩ := (HKK.out rfl).1 wv HX.out.2
                obtain ⟨m, hm⟩ : ∃ m, ks.length = m := ⟨_, rfl⟩
                rw [hm] at hv hcap
                have k4 := (show RB wv b s (j : Int) c nm kv _ _ _ from HX.out.1).k4
                subst hv
                have HM := Lib.hid hm
                clear hm
                have HK2 := Lib.hid (HKK.out rfl)
                have hm8 : m ≤ 8 := by rw [← HM.out]; exact HK2.out.2
                have HPOST2 : Hid (∀ W, But b w W → RX W b s (j : Int) c nm (.slice A m cap) (if 8 ≤ ks.length then fF (stK (endF i n) i N ks ks.length) i 2 else stK (endF i n) i N ks ks.length) → StandsS b s c nm (.slice A m cap) R w (.returned (.string SN)) W) := Lib.hid (fun W hW h => HPOST.out W hW (by rw [if_pos rfl]; exact h))
                have HST : Hid (NameK b s (j : Int) c nm (.slice A m cap) (endF i n) i N ks m w (.int .i64 0) wv) := Lib.hid ⟨0, Nat.zero_le _, rfl, by unfold stK; exact HX.out.1, HX.out.2⟩
                go_wp2_with fail
                clear k4
                go_loopw [100] (fun v wr => NameK b s (j : Int) c nm (.slice A m cap) (endF i n) i N ks m w v wr) (fun v _ => m - (Go.RowKit.intOf v).toNat)
                case atStart => exact HST.out
                case round =>
                  obtain ⟨k, hk, rfl, hX, hbx⟩ := hrel
                  have k4 := (show RB wr b s (j : Int) c nm (.slice A m cap) _ _ _ from hX).k4
                  by_cases hlk : k < m
                  · obtain ⟨p, hp⟩ : ∃ p, ks[k]? = some p := ⟨_, List.getElem?_eq_getElem (by rw [HM.out]; exact hlk)⟩
                    obtain ⟨A', cap', hv', _, hr⟩ := HK2.out.1 wr hbx
                    obtain ⟨b2, off2, hA, hbl2, hjj⟩ := hr (by rw [HM.out]; omega)
                    simp only [Value.slice.injEq] at hv'
                    obtain ⟨hv', -, -⟩ := hv'
                    subst hv'
                    subst hA
                    obtain ⟨g0, g1⟩ := hjj k p hp
                    obtain ⟨P1, hP1⟩ : ∃ s : ByteArray, (⟨p.1.toArray⟩ : ByteArray) = s := ⟨_, rfl⟩
                    obtain ⟨P2, hP2⟩ : ∃ s : ByteArray, (⟨p.2.toArray⟩ : ByteArray) = s := ⟨_, rfl⟩
                    have htest : (P1.toList == SN.toList) = decide (p.1 = N) := by
                      rw [← hP1, ← HSN.out, Lib.toList_data, Lib.toList_data, Bool.eq_iff_iff]
                      simp
                    rw [hP1] at g0
                    rw [hP2] at g1
                    have hXA : RX (wr.alloc (.cells #[.string P1, .string P2] 54)) b s (j : Int) c nm (.slice (some ⟨b2, off2, none⟩) m cap) (stK (endF i n) i N ks k) := RB.below hX ((Below.refl _ wr).alloc (Nat.le_refl _) _)
                    have hbA : But b wr (wr.alloc (.cells #[.string P1, .string P2] 54)) := but_below ((Below.refl _ wr).alloc (Nat.le_refl _) _)
                    have HXA := Lib.hid hXA
                    have HBA := Lib.hid (but_trans hbx hbA)
                    have HP := Lib.hid hp
                    clear hX hbx hXA hbA hp hr hjj hbl2 hP1 hP2 k4
                    by_cases hpn : p.1 = N
                    · have hT : (P1.toList == SN.toList) = true := by rw [htest]; exact decide_eq_true hpn
                      have HF := Lib.hid (rfail_any HXA.out (i : Int) 5)
                      have HS := Lib.hid (stK_hit (x := endF i n) (fr := (i : Int)) HP.out hpn)
                      clear htest hpn
                      go_wp2_with fail
                      refine HF.out.mono ?_
                      rintro en w2 ⟨rfl, hX2, hb2⟩
                      rw [HS.out] at hX2
                      have HX2 := Lib.hid (And.intro hX2 (but_trans HBA.out hb2))
                      clear hX2 hb2 g0 g1
                      go_wp2_with fail
                      exact ⟨⟨k + 1, by omega, by go_num, HX2.out.1, HX2.out.2⟩, by simp only [Go.RowKit.intOf]; omega⟩
                    · have hT : (P1.toList == SN.toList) = false := by rw [htest]; exact decide_eq_false hpn
                      have HS := Lib.hid (stK_miss (x := endF i n) (fr := (i : Int)) HP.out hpn)
                      clear htest hpn
                      go_wp2_with fail
                      exact ⟨⟨k + 1, by omega, by go_num, by rw [← HS.out]; exact HXA.out, HBA.out⟩, by simp only [Go.RowKit.intOf]; omega⟩
                  · have hkm : k = m := by omega
                    subst hkm
                    have HXE : Hid (RX wr b s (j : Int) c nm (.slice A k cap) (stK (endF i n) i N ks ks.length) ∧ But b w wr) := Lib.hid ⟨by rw [HM.out]; exact hX, hbx⟩
                    clear hX hbx
                    by_cases h8 : 8 ≤ k
                    · have h8i : (8 : Int) ≤ (k : Int) := by omega
                      have HF := Lib.hid (rfail_any HXE.out.1 (i : Int) 2)
                      go_wp2_with fail
                      refine HF.out.mono ?_
                      rintro en w2 ⟨rfl, hX2, hb2⟩
                      have HX2 := Lib.hid (And.intro hX2 (but_trans HXE.out.2 hb2))
                      clear hX2 hb2 h8i
                      go_wp2_with fail
                      go_ret
                      refine HPOST2.out _ HX2.out.2 ?_
                      rw [if_pos (by rw [HM.out]; exact h8)]
                      exact HX2.out.1
                    · have h8i : ¬ (8 : Int) ≤ (k : Int) := by omega
                      go_wp2_with fail
                      go_ret
                      refine HPOST2.out _ HXE.out.2 ?_
                      rw [if_neg (by rw [HM.out]; exact h8)]
                      exact HXE.out.1
        · have hfin : s.data.toList.drop j = [] := List.drop_eq_nil_of_le (by rw [hsz]; omega)
          rw [hfin] at hrel
          simp only [List.takeWhile_nil, List.length_nil, Nat.add_zero] at hrel
          have HR := Lib.hid hrel
          have hli1 : decide ((j : Int) < (s.size : Int)) = false := decide_eq_false (by omega)
          have hli2 : ¬ (j : Int) < (s.size : Int) := by omega
          clear hfin hrel
          go_wp2_with fail
          go_quiet (fail)
          obtain ⟨wq, hwq⟩ : ∃ wq, wr.drewN nq = wq := ⟨_, rfl⟩
          have hBq : RB wq b s (j : Int) c nm kv 0 0 false := by rw [← hwq]; exact HB.out.drewN nq
          have hbq : But b w wq := by rw [← hwq]; exact but_trans HU.out (grown_drew' b wr nq)
          rw [hwq]
          clear k0 k1 f1 hli1 hli2 hwq
          have k0 := hBq.k0
          have k1 := hBq.k1
          have HEJ : Hid (s.extract i j = SN) := Lib.hid (by rw [HR.out, HEX.out, HSN.out])
          have hij : i ≤ j := by have := HR.out; omega
          have hSz := HSZ.out
          have HBQ := Lib.hid (And.intro hBq hbq)
          clear hBq hbq
          go_wp2_with fail
          go_quiet (fail)
          rw [HEJ.out]
          clear k0 k1
          obtain ⟨wv, hwv⟩ : ∃ wv, wq.drewN nq = wv := ⟨_, rfl⟩
          have hBv : RB wv b s (j : Int) c nm kv 0 0 false := by rw [← hwv]; exact HBQ.out.1.drewN _
          have hbv : But b w wv := by rw [← hwv]; exact but_trans HBQ.out.2 (grown_drew' b wq _)
          rw [hwv]
          have HBV := Lib.hid (And.intro hBv hbv)
          clear hwv hBv hbv
          have HPOST : Hid (∀ W, But b w W → (if key = true then RX W b s (j : Int) c nm kv (if 8 ≤ ks.length then fF (stK (endF i n) i N ks ks.length) i 2 else stK (endF i n) i N ks ks.length) else RX W b s (j : Int) c nm kv (endF i n)) → StandsS b s c nm kv R w (.returned (.string SN)) W) := Lib.hid (by
            intro W hW h
            rw [HR.out] at h
            rw [← HSN.out, ← HRR.out]
            cases key with
            | true => exact end_key HN.out.1 HN.out.2.1 HN.out.2.2 hin hW (HKK.out rfl).2 h
            | false => exact end_name HN.out.1 HN.out.2.1 HN.out.2.2 hin hW h)
          by_cases h32 : 32 < n
          all_goals
            have hE : endF i n = if 32 < n then ((i : Int), 2, true) else (0, 0, false) := rfl
            first
              | rw [if_pos h32] at hE
              | rw [if_neg h32] at hE
            have HE := Lib.hid hE
            clear hE
          · have h32i : (32 : Int) < (n : Int) := by omega
            have HF := Lib.hid (rfail_live HBV.out.1 (i : Int) 2)
            go_wp2_with fail
            refine HF.out.mono ?_
            rintro en w1 ⟨rfl, hB1, hbut1⟩
            have HX : Hid (RX w1 b s (j : Int) c nm kv (endF i n) ∧ But b w w1) := Lib.hid ⟨by rw [HE.out]; exact hB1, but_trans HBV.out.2 hbut1⟩
            clear hB1 hbut1 h32i
            clear hSz
            cases key with
            | false =>
              go_wp2_with fail
              go_ret
              exact HPOST.out _ HX.out.2 HX.out.1
            | true =>
              obtain ⟨A, cap, hv, hcap, _⟩ := (HKK.out rfl).1 w1 HX.out.2
              obtain ⟨m, hm⟩ : ∃ m, ks.length = m := ⟨_, rfl⟩
              rw [hm] at hv hcap
              have k4 := (show RB w1 b s (j : Int) c nm kv _ _ _ from HX.out.1).k4
              subst hv
              have HM := Lib.hid hm
              clear hm
              have HK2 := Lib.hid (HKK.out rfl)
              have hm8 : m ≤ 8 := by rw [← HM.out]; exact HK2.out.2
              have HPOST2 : Hid (∀ W, But b w W → RX W b s (j : Int) c nm (.slice A m cap) (if 8 ≤ ks.length then fF (stK (endF i n) i N ks ks.length) i 2 else stK (endF i n) i N ks ks.length) → StandsS b s c nm (.slice A m cap) R w (.returned (.string SN)) W) := Lib.hid (fun W hW h => HPOST.out W hW (by rw [if_pos rfl]; exact h))
              have HST : Hid (NameK b s (j : Int) c nm (.slice A m cap) (endF i n) i N ks m w (.int .i64 0) w1) := Lib.hid ⟨0, Nat.zero_le _, rfl, by unfold stK; exact HX.out.1, HX.out.2⟩
              go_wp2_with fail
              clear k4
              go_loopw [100] (fun v wr => NameK b s (j : Int) c nm (.slice A m cap) (endF i n) i N ks m w v wr) (fun v _ => m - (Go.RowKit.intOf v).toNat)
              case atStart => exact HST.out
              case round =>
                obtain ⟨k, hk, rfl, hX, hbx⟩ := hrel
                have k4 := (show RB wr b s (j : Int) c nm (.slice A m cap) _ _ _ from hX).k4
                by_cases hlk : k < m
                · obtain ⟨p, hp⟩ : ∃ p, ks[k]? = some p := ⟨_, List.getElem?_eq_getElem (by rw [HM.out]; exact hlk)⟩
                  obtain ⟨A', cap', hv', _, hr⟩ := HK2.out.1 wr hbx
                  obtain ⟨b2, off2, hA, hbl2, hjj⟩ := hr (by rw [HM.out]; omega)
                  simp only [Value.slice.injEq] at hv'
                  obtain ⟨hv', -, -⟩ := hv'
                  subst hv'
                  subst hA
                  obtain ⟨g0, g1⟩ := hjj k p hp
                  obtain ⟨P1, hP1⟩ : ∃ s : ByteArray, (⟨p.1.toArray⟩ : ByteArray) = s := ⟨_, rfl⟩
                  obtain ⟨P2, hP2⟩ : ∃ s : ByteArray, (⟨p.2.toArray⟩ : ByteArray) = s := ⟨_, rfl⟩
                  have htest : (P1.toList == SN.toList) = decide (p.1 = N) := by
                    rw [← hP1, ← HSN.out, Lib.toList_data, Lib.toList_data, Bool.eq_iff_iff]
                    simp
                  rw [hP1] at g0
                  rw [hP2] at g1
                  have hXA : RX (wr.alloc (.cells #[.string P1, .string P2] 54)) b s (j : Int) c nm (.slice (some ⟨b2, off2, none⟩) m cap) (stK (endF i n) i N ks k) := RB.below hX ((Below.refl _ wr).alloc (Nat.le_refl _) _)
                  have hbA : But b wr (wr.alloc (.cells #[.string P1, .string P2] 54)) := but_below ((Below.refl _ wr).alloc (Nat.le_refl _) _)
                  have HXA := Lib.hid hXA
                  have HBA := Lib.hid (but_trans hbx hbA)
                  have HP := Lib.hid hp
                  clear hX hbx hXA hbA hp hr hjj hbl2 hP1 hP2 k4
                  by_cases hpn : p.1 = N
                  · have hT : (P1.toList == SN.toList) = true := by rw [htest]; exact decide_eq_true hpn
                    have HF := Lib.hid (rfail_any HXA.out (i : Int) 5)
                    have HS := Lib.hid (stK_hit (x := endF i n) (fr := (i : Int)) HP.out hpn)
                    clear htest hpn
                    go_wp2_with fail
                    refine HF.out.mono ?_
                    rintro en w2 ⟨rfl, hX2, hb2⟩
                    rw [HS.out] at hX2
                    have HX2 := Lib.hid (And.intro hX2 (but_trans HBA.out hb2))
                    clear hX2 hb2 g0 g1
                    go_wp2_with fail
                    exact ⟨⟨k + 1, by omega, by go_num, HX2.out.1, HX2.out.2⟩, by simp only [Go.RowKit.intOf]; omega⟩
                  · have hT : (P1.toList == SN.toList) = false := by rw [htest]; exact decide_eq_false hpn
                    have HS := Lib.hid (stK_miss (x := endF i n) (fr := (i : Int)) HP.out hpn)
                    clear htest hpn
                    go_wp2_with fail
                    exact ⟨⟨k + 1, by omega, by go_num, by rw [← HS.out]; exact HXA.out, HBA.out⟩, by simp only [Go.RowKit.intOf]; omega⟩
                · have hkm : k = m := by omega
                  subst hkm
                  have HXE : Hid (RX wr b s (j : Int) c nm (.slice A k cap) (stK (endF i n) i N ks ks.length) ∧ But b w wr) := Lib.hid ⟨by rw [HM.out]; exact hX, hbx⟩
                  clear hX hbx
                  by_cases h8 : 8 ≤ k
                  · have h8i : (8 : Int) ≤ (k : Int) := by omega
                    have HF := Lib.hid (rfail_any HXE.out.1 (i : Int) 2)
                    go_wp2_with fail
                    refine HF.out.mono ?_
                    rintro en w2 ⟨rfl, hX2, hb2⟩
                    have HX2 := Lib.hid (And.intro hX2 (but_trans HXE.out.2 hb2))
                    clear hX2 hb2 h8i
                    go_wp2_with fail
                    go_ret
                    refine HPOST2.out _ HX2.out.2 ?_
                    rw [if_pos (by rw [HM.out]; exact h8)]
                    exact HX2.out.1
                  · have h8i : ¬ (8 : Int) ≤ (k : Int) := by omega
                    go_wp2_with fail
                    go_ret
                    refine HPOST2.out _ HXE.out.2 ?_
                    rw [if_neg (by rw [HM.out]; exact h8)]
                    exact HXE.out.1
          · have h32i : ¬ (32 : Int) < (n : Int) := by omega
            have HX : Hid (RX wv b s (j : Int) c nm kv (endF i n) ∧ But b w wv) := Lib.hid ⟨by rw [HE.out]; exact HBV.out.1, HBV.out.2⟩
            cases key with
            | false =>
              go_wp2_with fail
              go_ret
              exact HPOST.out _ HX.out.2 HX.out.1
            | true =>
              obtain ⟨A, cap, hv, hcap, _⟩ := (HKK.out rfl).1 wv HX.out.2
              obtain ⟨m, hm⟩ : ∃ m, ks.length = m := ⟨_, rfl⟩
              rw [hm] at hv hcap
              have k4 := (show RB wv b s (j : Int) c nm kv _ _ _ from HX.out.1).k4
              subst hv
              have HM := Lib.hid hm
              clear hm
              have HK2 := Lib.hid (HKK.out rfl)
              have hm8 : m ≤ 8 := by rw [← HM.out]; exact HK2.out.2
              have HPOST2 : Hid (∀ W, But b w W → RX W b s (j : Int) c nm (.slice A m cap) (if 8 ≤ ks.length then fF (stK (endF i n) i N ks ks.length) i 2 else stK (endF i n) i N ks ks.length) → StandsS b s c nm (.slice A m cap) R w (.returned (.string SN)) W) := Lib.hid (fun W hW h => HPOST.out W hW (by rw [if_pos rfl]; exact h))
              have HST : Hid (NameK b s (j : Int) c nm (.slice A m cap) (endF i n) i N ks m w (.int .i64 0) wv) := Lib.hid ⟨0, Nat.zero_le _, rfl, by unfold stK; exact HX.out.1, HX.out.2⟩
              go_wp2_with fail
              clear k4
              go_loopw [100] (fun v wr => NameK b s (j : Int) c nm (.slice A m cap) (endF i n) i N ks m w v wr) (fun v _ => m - (Go.RowKit.intOf v).toNat)
              case atStart => exact HST.out
              case round =>
                obtain ⟨k, hk, rfl, hX, hbx⟩ := hrel
                have k4 := (show RB wr b s (j : Int) c nm (.slice A m cap) _ _ _ from hX).k4
                by_cases hlk : k < m
                · obtain ⟨p, hp⟩ : ∃ p, ks[k]? = some p := ⟨_, List.getElem?_eq_getElem (by rw [HM.out]; exact hlk)⟩
                  obtain ⟨A', cap', hv', _, hr⟩ := HK2.out.1 wr hbx
                  obtain ⟨b2, off2, hA, hbl2, hjj⟩ := hr (by rw [HM.out]; omega)
                  simp only [Value.slice.injEq] at hv'
                  obtain ⟨hv', -, -⟩ := hv'
                  subst hv'
                  subst hA
                  obtain ⟨g0, g1⟩ := hjj k p hp
                  obtain ⟨P1, hP1⟩ : ∃ s : ByteArray, (⟨p.1.toArray⟩ : ByteArray) = s := ⟨_, rfl⟩
                  obtain ⟨P2, hP2⟩ : ∃ s : ByteArray, (⟨p.2.toArray⟩ : ByteArray) = s := ⟨_, rfl⟩
                  have htest : (P1.toList == SN.toList) = decide (p.1 = N) := by
                    rw [← hP1, ← HSN.out, Lib.toList_data, Lib.toList_data, Bool.eq_iff_iff]
                    simp
                  rw [hP1] at g0
                  rw [hP2] at g1
                  have hXA : RX (wr.alloc (.cells #[.string P1, .string P2] 54)) b s (j : Int) c nm (.slice (some ⟨b2, off2, none⟩) m cap) (stK (endF i n) i N ks k) := RB.below hX ((Below.refl _ wr).alloc (Nat.le_refl _) _)
                  have hbA : But b wr (wr.alloc (.cells #[.string P1, .string P2] 54)) := but_below ((Below.refl _ wr).alloc (Nat.le_refl _) _)
                  have HXA := Lib.hid hXA
                  have HBA := Lib.hid (but_trans hbx hbA)
                  have HP := Lib.hid hp
                  clear hX hbx hXA hbA hp hr hjj hbl2 hP1 hP2 k4
                  by_cases hpn : p.1 = N
                  · have hT : (P1.toList == SN.toList) = true := by rw [htest]; exact decide_eq_true hpn
                    have HF := Lib.hid (rfail_any HXA.out (i : Int) 5)
                    have HS := Lib.hid (stK_hit (x := endF i n) (fr := (i : Int)) HP.out hpn)
                    clear htest hpn
                    go_wp2_with fail
                    refine HF.out.mono ?_
                    rintro en w2 ⟨rfl, hX2, hb2⟩
                    rw [HS.out] at hX2
                    have HX2 := Lib.hid (And.intro hX2 (but_trans HBA.out hb2))
                    clear hX2 hb2 g0 g1
                    go_wp2_with fail
                    exact ⟨⟨k + 1, by omega, by go_num, HX2.out.1, HX2.out.2⟩, by simp only [Go.RowKit.intOf]; omega⟩
                  · have hT : (P1.toList == SN.toList) = false := by rw [htest]; exact decide_eq_false hpn
                    have HS := Lib.hid (stK_miss (x := endF i n) (fr := (i : Int)) HP.out hpn)
                    clear htest hpn
                    go_wp2_with fail
                    exact ⟨⟨k + 1, by omega, by go_num, by rw [← HS.out]; exact HXA.out, HBA.out⟩, by simp only [Go.RowKit.intOf]; omega⟩
                · have hkm : k = m := by omega
                  subst hkm
                  have HXE : Hid (RX wr b s (j : Int) c nm (.slice A k cap) (stK (endF i n) i N ks ks.length) ∧ But b w wr) := Lib.hid ⟨by rw [HM.out]; exact hX, hbx⟩
                  clear hX hbx
                  by_cases h8 : 8 ≤ k
                  · have h8i : (8 : Int) ≤ (k : Int) := by omega
                    have HF := Lib.hid (rfail_any HXE.out.1 (i : Int) 2)
                    go_wp2_with fail
                    refine HF.out.mono ?_
                    rintro en w2 ⟨rfl, hX2, hb2⟩
                    have HX2 := Lib.hid (And.intro hX2 (but_trans HXE.out.2 hb2))
                    clear hX2 hb2 h8i
                    go_wp2_with fail
                    go_ret
                    refine HPOST2.out _ HX2.out.2 ?_
                    rw [if_pos (by rw [HM.out]; exact h8)]
                    exact HX2.out.1
                  · have h8i : ¬ (8 : Int) ≤ (k : Int) := by omega
                    go_wp2_with fail
                    go_ret
                    refine HPOST2.out _ HXE.out.2 ?_
                    rw [if_neg (by rw [HM.out]; exact h8)]
                    exact HXE.out.1
  · have hn0 : nameN (s.data.toList.drop i) = 0 := by
      rw [List.drop_eq_nil_of_le (by rw [hsz]; omega)]
      rfl
    have HP : Hid (R = .err i 3) := Lib.hid (by
      rw [← HRR.out]
      unfold pKeyName pName
      rw [hn0]
      cases key <;> rfl)
    have HF := Lib.hid (fun n => rfail_live (H.out.drewN n) (i : Int) 3)
    have hli1 : decide ((s.size : Int) ≤ (i : Int)) = true := decide_eq_true (by omega)
    have hli2 : (s.size : Int) ≤ (i : Int) := by omega
    clear hn0 hsz
    go_enter Tryz.func18, Tryz.ntmps18
    go_wp2_with fail
    go_quiet (fail)
    have k1' : (w.drewN nq).cell? ⟨b, 1, none⟩ = some (.int .i64 (i : Int)) := k1
    go_wp2_with fail
    refine (HF.out _).mono ?_
    rintro en w1 ⟨rfl, hB1, hbut1⟩
    have HE := Lib.hid (And.intro hB1 hbut1)
    clear hB1 hbut1
    go_wp2_with fail
    go_ret
    rw [HP.out]
    exact ⟨but_trans (grown_drew' b w _) HE.out.2, _, _, rfl, HE.out.1⟩
end Go.Proofs.YtjablaidbccnbaaGreatDoor
