/-
  WALKS over package corporaref02: Low, Write: the bits that a call appends.
-/
import Derived.Test.YtbfnkmibbieijaaBiK
import Derived.Laws.MakeOwn
namespace Go.Proofs.Ytbfnkmibbieijaa
open Go.RowKit Go.Shelf Go.Lib

def boolCells (l : List Bool) : List Value := l.map Value.bool
theorem boolCells_length (l : List Bool) : (boolCells l).length = l.length := by simp [boolCells]
theorem boolCells_app (a b : List Bool) : boolCells (a ++ b) = boolCells a ++ boolCells b := by simp [boolCells]
theorem bools_one (l : List Bool) : ∀ u ∈ boolCells l, u.oneCell' = true := by
  intro u hu
  obtain ⟨b, _, rfl⟩ := List.mem_map.1 hu
  rfl
theorem Try.infoBool : (Try.prog.info? 4).map (fun i => (i.zero, i.size, i.bytes)) = some (some (.bool false), 1, 1) := by kernel_rfl
theorem madeCells_bools (n : Nat) : madeCells #[.bool false] n = (boolCells (List.replicate n false)).toArray := by
  apply Array.ext'
  simp [madeCells, boolCells, List.map_replicate]
  apply List.ext_getElem?
  intro i
  by_cases h : i < n
  · simp [h, Nat.mod_one]
  · simp [h]
theorem low_bit (x j : Nat) (hx : x < 18446744073709551616) : (bits .and .u64 ((x : Int) / 2 ^ j) 1 == 1) = decide (x / 2 ^ j % 2 = 1) := by
  have e : (x : Int) / 2 ^ j = ((x / 2 ^ j : Nat) : Int) := by simp
  have hle : x / 2 ^ j ≤ x := Nat.div_le_self _ _
  have e1 := bits_and_u64_nat (x / 2 ^ j) 1 (by omega) (by omega)
  rw [Nat.and_one_is_mod] at e1
  have e2 : ((1 : Nat) : Int) = 1 := rfl
  rw [e2] at e1
  rw [e, e1, Bool.eq_iff_iff]
  simp
  omega

/-- Between two rounds of Low: k bits are left. -/
def LRel (B : Nat) (x n : Nat) (w : World) (v5 i : Value) (wr : World) : Prop :=
  ∃ (k : Nat) (done : List Bool), k ≤ n ∧ i = .int .i64 ((k : Int) - 1) ∧ done ++ low x k = low x n ∧ wr.ownsRow B 4 1 v5 done.length (boolCells done) ∧ Below B w wr

set_option maxRecDepth 100000 in
set_option maxHeartbeats 1000000 in
theorem low_any (x n : Nat) (hx : x < 18446744073709551616) (hn : n ≤ 64) (w : World) :
    Calls Try.prog 41 #[.int .u64 x, .int .i64 n] w fun e w' => ∃ v', e = .returned v' ∧ w'.ownsRow w.heap.size 4 1 v' n (boolCells (low x n)) ∧ Below w.heap.size w w' := by
  go_enter Try.func41, Try.ntmps41
  go_wp2
  go_loopw [5, 6] (fun v5 i wr => LRel w.heap.size x n w v5 i wr) (fun _ i _ => ((intOf i) + 1).toNat)
  case atStart => exact ⟨n, [], Nat.le_refl _, rfl, rfl, World.ownsRow_nil _ _ _ _, Below.refl _ _⟩
  case round =>
    obtain ⟨k, done, hk, rfl, hlow, hown, hb⟩ := hrel
    have hdl : done.length + k = n := by
      have := congrArg List.length hlow
      rw [List.length_append, low_len, low_len] at this
      exact this
    match k, hk, hlow with
    | 0, hk, hlow =>
      have HL := Lib.hid hlow
      have HO := Lib.hid hown
      have HB := Lib.hid hb
      have HD := Lib.hid hdl
      clear hlow hown hb hdl
      go_wp2
      go_ret
      refine ⟨_, rfl, ?_, HB.out⟩
      have e : done = low x n := by have := HL.out; simpa [low] using this
      have h := HO.out
      have hd := HD.out
      rw [Nat.add_zero] at hd
      rw [hd, e] at h
      exact h
    | j + 1, hk, hlow =>
      obtain ⟨i0, hi, hz0, hz1, hz2⟩ := info_parts' Try.infoBool
      have hbit := low_bit x j hx
      obtain ⟨b, hbb⟩ : ∃ b, decide (x / 2 ^ j % 2 = 1) = b := ⟨_, rfl⟩
      rw [hbb] at hbit
      obtain ⟨m, hm⟩ : ∃ m, done.length = m := ⟨_, rfl⟩
      rw [hm] at hown hdl
      have hlow2 := own_low hown
      have hsz := hb.size
      have HL := Lib.hid hlow
      have HB := Lib.hid hb
      have HM := Lib.hid hm
      have HBB := Lib.hid hbb
      have HLW := Lib.hid hlow2
      have hj0 : (0 : Int) ≤ (j : Int) := by omega
      have hm64 : m ≤ 64 := by omega
      clear hlow hb hm hbb hlow2 hdl
      go_wp2_with (at_builtin; refine wpList_append_own _ rfl (.tmp 13) (.tmp 20) 71 rfl w.heap.size 4 i0 _ 1 1 Try.underlying71 hi hz0 hz1 hz2 rfl (by decide) _ m _ rfl (hown.alloc _) _ 1 1 [.bool b] rfl rfl (news_at _ [.bool b] 4) (by simp [Value.oneCell']) (by unfold maxLen; omega) (by omega) (by simp; omega) ?_)
      intro v' w' hown' hgrow _
      have HO := Lib.hid hown'
      have hb2 : Below w.heap.size w w' := (HB.out.alloc hsz _).grown hgrow (by simp; omega) (fun k e => (HLW.out k e).1)
      have HB2 := Lib.hid hb2
      clear hown' hgrow hb2 hown
      go_wp2
      go_roundw
      case rel =>
        refine ⟨j, done ++ [b], by omega, by go_num, ?_, ?_, HB2.out⟩
        · rw [List.append_assoc, ← HL.out, low, ← HBB.out]
          rfl
        · rw [List.length_append, List.length_singleton, HM.out, boolCells_app]
          exact HO.out
      case measure => simp [intOf]
theorem low_of (x n : Nat) (N : Int) (hN : N = n) (hx : x < 18446744073709551616) (hn : n ≤ 64) (w : World) :
    Calls Try.prog 41 #[.int .u64 x, .int .i64 N] w fun e w' => ∃ v', e = .returned v' ∧ w'.ownsRow w.heap.size 4 1 v' n (boolCells (low x n)) ∧ Below w.heap.size w w' := by
  subst hN
  exact low_any x n hx hn w

/-- What the reference's Write answers. -/
def WPost (w : World) (o : Option (List Bool)) (e : Ending) (w' : World) : Prop :=
  ∃ v', e = .returned (.tuple #[v', .bool o.isSome]) ∧ w'.ownsRow w.heap.size 4 1 v' (bitsW o).length (boolCells (bitsW o)) ∧ Below w.heap.size w w'

/-- append at a step of a region that draws its order. -/
theorem step_append_sees {P : Program} {w : World} {ops : Array Oper} {o : Oper} {a : Act} {K : Act → World → Prop} {Q : Exit → Act → World → Prop} {E : Prop} (hgd : o.guard = none) (s x : Operand) (t : TypeId)
    (ho : o.op = .call { callee := .builtin .append, args := #[s, x], argTypes := #[t, t] })
    (base : Nat) (e : TypeId) (i : TypeInfo) (z : Value) (bytes : Nat) (ht : P.underlying t = some (.slice e)) (hi : P.info? e = some i) (hz : i.zero = some z)
    (hsize : i.size = 1) (hby : i.bytes = bytes) (hzs : z.cells.size = 1)
    (v : Value) (n : Nat) (xs : List Value) (hs : a.eval s = v) (hown : w.ownsRow base e 1 v n xs)
    (vx : Value) (B : Nat) (news : List Value) (hx : a.eval x = vx) (hn : SeesC w B vx news) (h0 : 0 < news.length) (h1 : ∀ u ∈ news, u.oneCell' = true)
    (h63 : n + news.length ≤ maxLen) (hbytes : (n + news.length) * bytes ≤ 140737488355328) (hbase : base ≤ w.heap.size)
    (h : ∀ v' w', w'.ownsRow base e 1 v' (n + news.length) (xs ++ news) → w.grownBy w' v.ownBlock → K (a.put o.dst v') w') :
    if Region.wanted o (yielded ops a.tmps) = true then Oper.wp P o a w K Q else E := by
  have hw : Region.wanted o (yielded ops a.tmps) = true := by simp [Region.wanted, hgd]
  rw [if_pos hw]
  rcases hn with ⟨rfl, rfl⟩ | ⟨ad, cap, rfl, _, _, hj⟩
  · simp at h0
  · exact wp_append_own w s x t ho base e i z 1 bytes ht hi hz hsize hby hzs (by omega) v n xs hs hown ad news.length cap news hx (by omega) hj h1 h63 hbytes hbase fun v' w' h2 h3 _ => h v' w' h2 h3
end Go.Proofs.Ytbfnkmibbieijaa
