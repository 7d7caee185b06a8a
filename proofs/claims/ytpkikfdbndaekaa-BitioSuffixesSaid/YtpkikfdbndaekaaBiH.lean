/-
  RUNS over slices that are seen: append of one to a row of the call's own; the beginning of one.
-/
import Derived.Test.YtpkikfdbndaekaaBiD
namespace Go.Proofs.Ytpkikfdbndaekaa
open Go.RowKit Go.Shelf Go.Lib

/-- A value that reads as a row of cells (elements of one cell); they lie below block B. -/
def SeesC (w : World) (B : Nat) (v : Value) (xs : List Value) : Prop :=
  (xs = [] ∧ v = .slice none 0 0) ∨ ∃ ad cap, v = .slice (some ad) xs.length cap ∧ xs.length ≤ cap ∧ (0 < xs.length → ad.block < B) ∧ ∀ (j : Nat) (u : Value), xs[j]? = some u → w.cell? (ad.add j) = some u
theorem Sees.cells {w : World} {B : Nat} {v : Value} {L : List UInt8} (h : Sees w B v L) : SeesC w B v (byteCells L) := by
  rcases h with ⟨rfl, rfl⟩ | ⟨ad, cap, rfl, hc, hb, hj⟩
  · exact .inl ⟨rfl, rfl⟩
  · refine .inr ⟨ad, cap, by rw [byteCells_length], by rw [byteCells_length]; exact hc, fun h => hb (by rw [byteCells_length] at h; exact h), fun j u hu => ?_⟩
    have hjl : j < L.length := by
      have := (List.getElem?_eq_some_iff.1 hu).1
      rw [byteCells_length] at this
      exact this
    have hu2 : u = .int .u8 (L[j].toNat : Int) := by
      simp only [byteCells, List.getElem?_map, List.getElem?_eq_getElem hjl, Option.map_some, Option.some.injEq] at hu
      exact hu.symm
    rw [hu2]
    exact hj j hjl
theorem seesC_own {w : World} {base : Nat} {e : TypeId} {v : Value} {n : Nat} {xs : List Value} (h : w.ownsRow base e 1 v n xs) : SeesC w w.heap.size v xs ∧ xs.length = n := by
  have hl := h.1
  rw [Nat.mul_one] at hl
  refine ⟨?_, hl⟩
  rcases h.2 with ⟨rfl, h0⟩ | ⟨g, cap, cur, hv, hb, hh, hc, _⟩
  · exact .inl ⟨List.length_eq_zero_iff.1 (hl.trans h0), rfl⟩
  · refine .inr ⟨⟨g, 0, none⟩, cap, by rw [hl]; exact hv, by rw [hl]; exact hc, fun _ => (Array.getElem?_eq_some_iff.1 hh).1, fun j u hu => ?_⟩
    subst hv
    have hjl : j < xs.length := (List.getElem?_eq_some_iff.1 hu).1
    rw [add_plain, Nat.zero_add, h.cellAt j (by omega)]
    exact hu
theorem SeesC.keep {w w' : World} {B : Nat} {v : Value} {xs : List Value} (h : SeesC w B v xs) (hk : ∀ p : Addr, p.block < B → w'.cell? p = w.cell? p) : SeesC w' B v xs := by
  rcases h with h | ⟨ad, cap, hv, hc, hb, hj⟩
  · exact .inl h
  · refine .inr ⟨ad, cap, hv, hc, hb, fun j u hu => (hk _ ?_).trans (hj j u hu)⟩
    rw [block_add]
    exact hb (by have := (List.getElem?_eq_some_iff.1 hu).1; omega)
theorem SeesC.below {w w' : World} {B : Nat} {v : Value} {xs : List Value} (h : SeesC w B v xs) (hb : Below B w w') : SeesC w' B v xs := h.keep fun _ hp => hb.cell hp

/-- append: what the old value read as, it reads as still. -/
theorem run_append_keeps {P : Program} (w : World) (base : Nat) (t ty e : TypeId) (i : TypeInfo) (z : Value) (bytes : Nat) (ht : P.underlying t = some (.slice e)) (hi : P.info? e = some i) (hz : i.zero = some z)
    (hsize : i.size = 1) (hby : i.bytes = bytes) (hzs : z.cells.size = 1)
    (v : Value) (n : Nat) (xs : List Value) (hown : w.ownsRow base e 1 v n xs)
    (a : Addr) (m c : Nat) (news : List Value) (hl : news.length = m) (hnews : ∀ (j : Nat) (u : Value), news[j]? = some u → w.cell? (a.add j) = some u) (h1 : ∀ u ∈ news, u.oneCell' = true)
    (h63 : n + m ≤ maxLen) (hbytes : (n + m) * bytes ≤ 140737488355328) (hbase : base ≤ w.heap.size) :
    ∃ v' w', (Builtin.append_ #[t, t] ty #[v, .slice (some a) m c]).run P w = .ok v' w' ∧ w'.ownsRow base e 1 v' (n + m) (xs ++ news) ∧ w.grownBy w' v.ownBlock ∧ w'.ownsRow base e 1 v n xs := by
  obtain ⟨v', w', hr, h2, h3, _⟩ := run_append_own (P := P) w base t ty e i z 1 bytes ht hi hz hsize hby hzs (by omega) v n xs hown a m c news (by omega) hnews h1 h63 hbytes hbase
  refine ⟨v', w', hr, h2, h3, ?_⟩
  have h63' := h63
  simp only [maxLen] at h63'
  have hxl := hown.1
  rw [Nat.mul_one] at hxl
  rcases hown.2 with ⟨rfl, h0⟩ | ⟨g, cap, cur, rfl, hbg, hg, hnc, hcm, hcs, htake⟩
  · exact ⟨hown.1, .inl ⟨rfl, h0⟩⟩
  · by_cases hroom : n + m ≤ cap
    · have hr2 := run_append_room (P := P) w t ty e i ht hi g n cap cur hg a m c news (by rw [hsize]; omega) hnews h1 hroom (by rw [hsize, hcs]; omega)
      rw [hr] at hr2
      injection hr2 with _ hw
      subst hw
      refine ⟨hown.1, .inr ⟨g, cap, _, rfl, hbg, setRow_heap w g cur _ e _ hg, hnc, hcm, ?_, ?_⟩⟩
      · simp only [List.size_toArray, List.length_append, List.length_take, List.length_drop, Array.length_toList, hsize]
        omega
      · rw [hsize, htake, List.append_assoc, List.take_left' (by rw [hxl, Nat.mul_one])]
    · have holds : ∀ (j : Nat) (u : Value), xs[j]? = some u → w.cell? ((⟨g, 0, none⟩ : Addr).add j) = some u := hown.cells (g := g) rfl
      have hr2 := run_append_grow (P := P) w t ty e i z ht hi hz ⟨g, 0, none⟩ n cap xs (by rw [hsize]; omega) holds a m c news (by rw [hsize]; omega) hnews (by omega) (by omega) (growslice_fits (by omega) (by rw [hby]; exact hbytes))
      rw [hr] at hr2
      injection hr2 with _ hw
      subst hw
      exact ownsRow_block hown (heap_alloc_old w.drew _ (Array.getElem?_eq_some_iff.1 hg).1)

theorem wpList_append_sees {P : Program} {w : World} {ops : Array Oper} {rest : List Oper} {o : Oper} {a : Act} {Q : Exit → Act → World → Prop} (hgd : o.guard = none) (s x : Operand) (t : TypeId)
    (ho : o.op = .call { callee := .builtin .append, args := #[s, x], argTypes := #[t, t] })
    (base : Nat) (e : TypeId) (i : TypeInfo) (z : Value) (bytes : Nat) (ht : P.underlying t = some (.slice e)) (hi : P.info? e = some i) (hz : i.zero = some z)
    (hsize : i.size = 1) (hby : i.bytes = bytes) (hzs : z.cells.size = 1)
    (v : Value) (n : Nat) (xs : List Value) (hs : a.eval s = v) (hown : w.ownsRow base e 1 v n xs)
    (vx : Value) (B : Nat) (news : List Value) (hx : a.eval x = vx) (hn : SeesC w B vx news) (h1 : ∀ u ∈ news, u.oneCell' = true)
    (h63 : n + news.length ≤ maxLen) (hbytes : (n + news.length) * bytes ≤ 140737488355328) (hbase : base ≤ w.heap.size)
    (h : ∀ v' w', w'.ownsRow base e 1 v' (n + news.length) (xs ++ news) → w.grownBy w' v.ownBlock → w'.ownsRow base e 1 v n xs → wpList P ops Q rest (a.put o.dst v') w') : wpList P ops Q (o :: rest) a w := by
  rcases hn with ⟨rfl, rfl⟩ | ⟨ad, cap, rfl, _, _, hj⟩
  · refine wpList_append_own_none hgd s x t ho base e i 1 ht hi v n xs hs hown hx ?_
    refine h v w ?_ (World.grownBy.refl w _) hown
    rw [List.length_nil, Nat.add_zero, List.append_nil]
    exact hown
  · obtain ⟨v', w', hr, h2, h3, h4⟩ := run_append_keeps (P := P) w base t o.type e i z bytes ht hi hz hsize hby hzs v n xs hown ad news.length cap news rfl hj h1 h63 hbytes hbase
    refine wpList_plain hgd fun K hK => ?_
    unfold Oper.wp execOp
    simp only [ho, resolve, invoke, builtin, Sem.run_bind, Sem.run_pure, Result.andThen_ok, List.map_toArray, List.map_cons, List.map_nil, hs, hx, hr]
    exact hK _ _ (h v' w' h2 h3 h4)

theorem own_form {w : World} {base : Nat} {e : TypeId} {size n : Nat} {v : Value} {xs : List Value} (h : w.ownsRow base e size v n xs) : ∃ A cap, v = .slice A n cap ∧ n ≤ cap := by
  rcases h.2 with ⟨rfl, rfl⟩ | ⟨g, cap, cur, rfl, _, _, hc, _⟩
  · exact ⟨none, 0, rfl, Nat.le_refl _⟩
  · exact ⟨_, cap, rfl, hc⟩
set_option maxHeartbeats 400000 in
theorem same_true {w : World} {B B' : Nat} {v v' : Value} {L : List UInt8} (h : Sees w B v L) (h' : Sees w B' v' L) :
    Calls Try.prog 13 #[v, v'] w fun e w' => e = .returned (.bool true) ∧ w = w' := by
  have := same_any h h'
  rw [decide_eq_true rfl] at this
  exact this

theorem slice_to (A : Option Addr) (n cap k : Nat) (hk : k ≤ n) (hn : n ≤ cap) (w : World) : (Instr.slice 22 (.slice A n cap) none (some (.int .i64 (k : Int))) none).run Try.prog w = .ok (.slice A k cap) w := by
  rw [run_slice_h w 22 _ _ _ (by kernel_rfl) .i64 k (by omega) (by omega)]
  have hz1 : (sizeOf (Try.prog.elem 22)).run Try.prog w = .ok 1 w := by kernel_rfl
  rw [hz1]
  cases A with
  | none => simp [Result.andThen, sliced]
  | some ad =>
    have h0 : ad.add 0 = ad := by simp [Addr.add]
    simp [Result.andThen, sliced, h0]
theorem Sees.to {w : World} {B n cap : Nat} {A : Option Addr} {L : List UInt8} (h : Sees w B (.slice A n cap) L) : n = L.length ∧ n ≤ cap ∧ ∀ k, k ≤ n → Sees w B (.slice A k cap) (L.take k) := by
  rcases h with ⟨rfl, h⟩ | ⟨ad, cap', h, hc, hb, hj⟩
  · simp only [Value.slice.injEq] at h
    obtain ⟨rfl, rfl, rfl⟩ := h
    exact ⟨rfl, Nat.le_refl _, fun k hk => .inl ⟨List.take_nil, by rw [Nat.le_zero.1 hk]⟩⟩
  · simp only [Value.slice.injEq] at h
    obtain ⟨rfl, rfl, rfl⟩ := h
    refine ⟨rfl, hc, fun k hk => .inr ⟨ad, cap, ?_, ?_, fun h => hb ?_, fun j h => ?_⟩⟩
    · rw [List.length_take, Nat.min_eq_left hk]
    · rw [List.length_take, Nat.min_eq_left hk]; omega
    · rw [List.length_take, Nat.min_eq_left hk] at h; omega
    · rw [List.length_take, Nat.min_eq_left hk] at h
      rw [List.getElem_take]
      exact hj j (by omega)
end Go.Proofs.Ytpkikfdbndaekaa
