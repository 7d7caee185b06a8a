/-
  MEMORY: rows of strings; append of one string to a row of the call's own.
  WALKS over package feature: ascending.
-/
import Derived.Test.YtebmfkkkhmjkoaaGreatMeB
import Derived.Test.YtebmfkkkhmjkoaaGreatFsZ
import Derived.BigQuiet
import Derived.Deep.QuietTactic
namespace Go.Proofs.YtebmfkkkhmjkoaaGreat
open Go.RowKit Go.Shelf Go.Lib

def strV (f : Bs) : Value := .string ⟨f.toArray⟩
def strs (l : Fs) : List Value := l.map strV
theorem strs_len (l : Fs) : (strs l).length = l.length := by simp [strs]
theorem strs_app (l m : Fs) : strs (l ++ m) = strs l ++ strs m := by simp [strs]
theorem strs_get {l : Fs} {j : Nat} {f : Bs} (h : l[j]? = some f) : (strs l)[j]? = some (.string ⟨f.toArray⟩) := by
 unfold strs
 rw [List.getElem?_map, h]
 rfl
/-- A value that reads as a list of strings. -/
def RS (w : World) (v : Value) (l : Fs) : Prop := SeesC w w.heap.size v (strs l)
theorem RS.form {w : World} {v : Value} {l : Fs} (h : RS w v l) : ∃ A cap, v = .slice A l.length cap ∧ l.length ≤ cap ∧ (0 < l.length → ∃ b off, A = some ⟨b, off, none⟩ ∧ b < w.heap.size ∧ ∀ (j : Nat) (f : Bs), l[j]? = some f → w.cell? ⟨b, off + j, none⟩ = some (.string ⟨f.toArray⟩)) := by
 obtain ⟨A, cap, hv, hc, hr⟩ := SeesC.form h
 rw [strs_len] at hv hc hr
 refine ⟨A, cap, hv, hc, fun h0 => ?_⟩
 obtain ⟨b, off, hA, hb, hj⟩ := hr h0
 exact ⟨b, off, hA, hb, fun j f hf => hj j _ (strs_get hf)⟩
theorem RS.below {w w' : World} {v : Value} {l : Fs} (h : RS w v l) (hb : Below w.heap.size w w') : RS w' v l := by
 have h1 := SeesC.below h hb
 rcases h1 with h1 | ⟨ad, cap, hv, hc, h0, hj⟩
 · exact .inl h1
 exact .inr ⟨ad, cap, hv, hc, fun h => Nat.lt_of_lt_of_le (h0 h) hb.size, hj⟩
theorem rs_own {w : World} {base : Nat} {v : Value} {n : Nat} {l : Fs} (h : w.ownsRow base 9 1 v n (strs l)) : RS w v l ∧ l.length = n := by
 obtain ⟨h1, h2⟩ := seesC_own h
 rw [strs_len] at h2
 exact ⟨h1, h2⟩
theorem own_after {w w' : World} {base : Nat} {e : TypeId} {size n : Nat} {v : Value} {xs : List Value} (h : w.ownsRow base e size v n xs) (hb : Below w.heap.size w w') : w'.ownsRow base e size v n xs :=
 own_below h fun k hk => hb.block k (own_low h k hk).2
theorem Tryz.infoStr : (Tryz.prog.info? 9).map (fun i => (i.zero, i.size, i.bytes)) = some (some (.string ⟨#[]⟩), 1, 16) := by kernel_rfl
/-- append of one string to a row of the call's own. -/
theorem wpList_push {w : World} {ops : Array Oper} {rest : List Oper} {o : Oper} {a : Act} {Q : Exit → Act → World → Prop} (hgd : o.guard = none) (s x : Operand)
 (ho : o.op = .call { callee := .builtin .append, args := #[s, x], argTypes := #[28, 28] })
 (base : Nat) (v : Value) (n : Nat) (l : Fs) (p : ByteArray) (hs : a.eval s = v) (hx : a.eval x = .slice (some ⟨w.heap.size, 0, none⟩) 1 1)
 (hown : w.ownsRow base 9 1 v n (strs l)) (hn : n ≤ 1000000) (hbase : base ≤ w.heap.size)
 (h : ∀ v' w', Hid (w'.ownsRow base 9 1 v' (n + 1) (strs (l ++ [p.data.toList]))) → Hid (∀ B W, Below B W w → B ≤ base → Below B W w') → Hid (∀ k, k < w.heap.size → v.ownBlock ≠ some k → w'.heap[k]? = w.heap[k]?) → wpList Tryz.prog ops Q rest (a.put o.dst v') w') :
 wpList Tryz.prog ops Q (o :: rest) a (w.alloc (.cells #[.string p] 9)) := by
 obtain ⟨i0, hi, hz0, hz1, hz2⟩ := info_parts' Tryz.infoStr
 refine wpList_append_own _ hgd s x 28 ho base 9 i0 _ 1 16 Tryz.underlying28 hi hz0 hz1 hz2 rfl (by decide) v n _ hs (hown.alloc _) _ 1 1 [.string p] hx rfl (news_at w [.string p] 9) (by simp [Value.oneCell']) (by unfold maxLen; omega) (by omega) (by simp; omega) ?_
 intro v' w' h1 h2 _
 have hlow := own_low hown
 refine h v' w' (Lib.hid ?_) (Lib.hid fun B W hb hB => ?_) (Lib.hid fun k hk hne => ?_)
 · rw [strs_app, show strs [p.data.toList] = [.string p] by simp [strs, strV]]
   exact h1
 · exact (hb.alloc (Nat.le_trans hB hbase) _).grown h2 (by simp; omega) (fun k e => Nat.le_trans hB (hlow k e).1)
 rw [h2.block k (by simp; omega) (fun e => hne e.symm)]
 exact heap_alloc_old w _ hk
end Go.Proofs.YtebmfkkkhmjkoaaGreat
namespace Go.Proofs.YtebmfkkkhmjkoaaGreat
open Go.RowKit Go.Shelf Go.Lib

theorem less_lt : ∀ l m : List UInt8, Op.bytesLess l m = decide (l < m)
 | [], [] => by simp [Op.bytesLess]
 | _ :: _, [] => by simp [Op.bytesLess]
 | [], _ :: _ => by simp [Op.bytesLess]
 | a :: l, b :: m => by
   have ih := less_lt l m
   unfold Op.bytesLess
   rw [ih, Bool.eq_iff_iff]
   simp [List.cons_lt_cons_iff]
theorem asc_step {l : Fs} {j : Nat} {a b : Bs} (h1 : l[j]? = some a) (h2 : l[j + 1]? = some b) (h : decide (a < b) = false) : decide (asc l) = false := by
 rw [decide_eq_false_iff_not] at h ⊢
 exact fun hs => h (asc_iff.1 hs j a b h1 h2)

set_option maxRecDepth 100000 in
set_option maxHeartbeats 2000000 in
theorem ascending_any {w : World} {v : Value} {l : Fs} (hv : RS w v l) (hl : l.length ≤ 1000000) :
 Calls Tryz.prog 150 #[v] w fun e w' => e = .returned (.bool (decide (asc l))) ∧ Below w.heap.size w w' := by
 obtain ⟨A, cap, rfl, hc, hr⟩ := hv.form
 obtain ⟨n, hn⟩ : ∃ n, l.length = n := ⟨_, rfl⟩
 rw [hn] at hc hr hl ⊢
 have HN := Lib.hid hn
 have HV := Lib.hid (fun W (h : Below w.heap.size w W) => hv.below h)
 clear hn hr hv
 go_enter Tryz.func150, Tryz.ntmps150
 go_wp2_with fail
 go_loopw [3] (fun i wr => ∃ k : Nat, k ≤ n ∧ i = .int .i64 ((k : Int) + 1) ∧ (∀ j a b, j < k → l[j]? = some a → l[j + 1]? = some b → a < b) ∧ Below w.heap.size w wr) (fun i _ => n + 1 - (Go.RowKit.intOf i).toNat)
 case atStart => exact ⟨0, Nat.zero_le _, rfl, fun j a b h => absurd h (by omega), Below.refl _ _⟩
 obtain ⟨k, hk, rfl, hs, hb⟩ := hrel
 by_cases hlt : k + 1 < n
 ·
  obtain ⟨a, ha⟩ : ∃ a, l[k]? = some a := ⟨_, List.getElem?_eq_getElem (by rw [HN.out]; omega)⟩
  obtain ⟨b, hb'⟩ : ∃ b, l[k + 1]? = some b := ⟨_, List.getElem?_eq_getElem (by rw [HN.out]; omega)⟩
  obtain ⟨A', cap', he, -, hr⟩ := (HV.out wr hb).form
  cases he
  obtain ⟨bk, off, rfl, -, hj⟩ := hr (by rw [HN.out]; omega)
  have c0 := hj k a ha
  have c1 := hj (k + 1) b hb'
  obtain ⟨P, hP⟩ : ∃ s : ByteArray, (⟨a.toArray⟩ : ByteArray) = s := ⟨_, rfl⟩
  obtain ⟨Q, hQ⟩ : ∃ s : ByteArray, (⟨b.toArray⟩ : ByteArray) = s := ⟨_, rfl⟩
  have ht : Op.bytesLess P.toList Q.toList = decide (a < b) := by rw [← hP, ← hQ, Lib.toList_data, Lib.toList_data, less_lt]
  rw [hP] at c0
  rw [hQ] at c1
  obtain ⟨t, htt⟩ : ∃ t, decide (a < b) = t := ⟨_, rfl⟩
  rw [htt] at ht
  have HB := Lib.hid hb
  have HS := Lib.hid hs
  have HA := Lib.hid ha
  have HBB := Lib.hid hb'
  have HT := Lib.hid htt
  have hlti : (k : Int) + 1 < (n : Int) := by omega
  clear hj hb hs ha hb' htt hP hQ hr
  go_wp2_with fail
  go_quiet (fail)
  cases t with
  | true =>
    clear c0 c1 ht
    go_wp2_with fail
    exact ⟨⟨k + 1, by omega, by go_num, fun j x y hj hx hy => by
     by_cases hjk : j < k
     · exact HS.out j x y hjk hx hy
     obtain rfl : j = k := by omega
     rw [HA.out] at hx
     rw [HBB.out] at hy
     cases hx; cases hy
     exact of_decide_eq_true HT.out, below_drewN HB.out _⟩, by simp only [Go.RowKit.intOf]; omega⟩
  | false =>
    clear c0 c1 ht
    go_wp2_with fail
    go_ret
    exact ⟨by rw [asc_step HA.out HBB.out HT.out]; rfl, below_drewN HB.out _⟩
 have hlti : ¬ ((k : Int) + 1 < (n : Int)) := by omega
 have hd : decide (asc l) = true := by
  rw [decide_eq_true_iff]
  exact asc_iff.2 fun j a b ha hb' => hs j a b (by have := (List.getElem?_eq_some_iff.1 hb').1; have := HN.out; omega) ha hb'
 have HB := Lib.hid hb
 have HD := Lib.hid hd
 clear hb hd hs
 go_wp2_with fail
 go_ret
 exact ⟨by rw [HD.out]; rfl, HB.out⟩
end Go.Proofs.YtebmfkkkhmjkoaaGreat
