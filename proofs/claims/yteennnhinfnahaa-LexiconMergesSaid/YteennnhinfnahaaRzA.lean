/-
  WALKS over package corporaref01: Units, over every string of at most 400 bytes: a row of the call's own that holds the units, field by field.
-/
import Derived.Test.YteennnhinfnahaaRzL
import Derived.Deep.AppendLies
namespace Go.Proofs.Yteennnhinfnahaa.Ru
open Go.RowKit Go.Shelf Go.Lib

def rawU (u : U) : List Value := [.int .i32 (u.c : Int), .int .i64 (u.p : Int), .int .i64 0, .bool false]
def sizU (u : U) : List Value := [.int .i32 (u.c : Int), .int .i64 (u.p : Int), .int .i64 (u.w : Int), .bool false]
def fulU (u : U) : List Value := [.int .i32 (u.c : Int), .int .i64 (u.p : Int), .int .i64 (u.w : Int), .bool (!badU u)]
theorem Try.infoUnit : (Try.prog.info? 125).map (fun i => (i.zero, i.size, i.bytes)) = some (some (.agg #[.int .i32 0, .int .i64 0, .int .i64 0, .bool false]), 4, 32) := by kernel_rfl

theorem fm4_len {f : U → List Value} (hf : ∀ u, (f u).length = 4) : ∀ l : List U, (l.flatMap f).length = l.length * 4
  | [] => rfl
  | u :: l => by rw [List.flatMap_cons, List.length_append, hf, fm4_len hf l, List.length_cons]; omega
theorem fm4_at {f : U → List Value} (hf : ∀ u, (f u).length = 4) : ∀ (l : List U) (k j : Nat) (hk : k < l.length), j < 4 → (l.flatMap f)[k * 4 + j]? = (f l[k])[j]?
  | [], k, _, h, _ => by simp at h
  | u :: l, 0, j, _, hj => by
    rw [List.flatMap_cons, List.getElem?_append_left (by rw [hf]; omega)]
    simp
  | u :: l, k + 1, j, hk, hj => by
    rw [List.flatMap_cons, List.getElem?_append_right (by rw [hf]; omega), hf]
    have e : (k + 1) * 4 + j - 4 = k * 4 + j := by omega
    rw [e, fm4_at hf l k j (by simpa using hk) hj]
    simp
theorem rawU_len (u : U) : (rawU u).length = 4 := rfl
theorem sizU_len (u : U) : (sizU u).length = 4 := rfl
theorem fulU_len (u : U) : (fulU u).length = 4 := rfl

/-- The row while it is being built: the last unit's size is not there yet. -/
def LRow (B : Nat) (wr : World) (v : Value) (q : List U) (p : Nat) : Prop :=
  (q = [] ∧ v = .slice none 0 0) ∨ ∃ (q' : List U) (u : U) (g cap : Nat), q = q' ++ [u] ∧ v = .slice (some ⟨g, 0, none⟩) (q'.length + 1) cap ∧ u.p + u.w = p ∧ wr.ownsRow B 125 4 v (q'.length + 1) (q'.flatMap sizU ++ rawU u)

/-- The row behind the first k rounds of the second loop. -/
def mix (us : List U) (k : Nat) : List Value := (us.take k).flatMap fulU ++ (us.drop k).flatMap sizU
theorem mix_zero (us : List U) : mix us 0 = us.flatMap sizU := by simp [mix]
theorem mix_all (us : List U) (k : Nat) (h : us.length ≤ k) : mix us k = us.flatMap fulU := by
  unfold mix
  rw [List.take_of_length_le h, List.drop_of_length_le h]
  simp
theorem mix_at (us : List U) (k j : Nat) (hk : k < us.length) (hj : j < 4) : (mix us k)[k * 4 + j]? = (sizU us[k])[j]? := by
  unfold mix
  have hl : ((us.take k).flatMap fulU).length = k * 4 := by rw [fm4_len fulU_len, List.length_take, Nat.min_eq_left (by omega)]
  rw [List.getElem?_append_right (by omega), hl]
  have e : k * 4 + j - k * 4 = 0 * 4 + j := by omega
  have hd : 0 < (us.drop k).length := by rw [List.length_drop]; omega
  rw [e, fm4_at sizU_len (us.drop k) 0 j hd hj]
  simp
theorem mix_set (us : List U) (k : Nat) (hk : k < us.length) : (mix us k).set (k * 4 + 3) (.bool (!badU us[k])) = mix us (k + 1) := by
  unfold mix
  have hl : ((us.take k).flatMap fulU).length = k * 4 := by rw [fm4_len fulU_len, List.length_take, Nat.min_eq_left (by omega)]
  rw [List.set_append_right _ _ (by omega), hl]
  have e : k * 4 + 3 - k * 4 = 3 := by omega
  rw [e, List.drop_eq_getElem_cons hk, List.flatMap_cons, List.take_succ_eq_append_getElem hk, List.flatMap_append, List.append_assoc]
  rfl
theorem raw_set (q : List U) (u : U) (v : Int) (hv : v = (u.w : Int)) : (q.flatMap sizU ++ rawU u).set (q.length * 4 + 2) (.int .i64 v) = (q ++ [u]).flatMap sizU := by
  subst hv
  have hl := fm4_len sizU_len q
  rw [List.set_append_right _ _ (by omega), hl]
  have e : q.length * 4 + 2 - q.length * 4 = 2 := by omega
  rw [e, List.flatMap_append]
  rfl
theorem raw_at (q : List U) (u : U) (j : Nat) (hj : j < 4) : (q.flatMap sizU ++ rawU u)[q.length * 4 + j]? = (rawU u)[j]? := by
  have hl := fm4_len sizU_len q
  rw [List.getElem?_append_right (by omega), hl]
  have e : q.length * 4 + j - q.length * 4 = j := by omega
  rw [e]
/-- A row that lies elsewhere than what was written. -/
theorem ownsRow_block {w w' : World} {base : Nat} {e : TypeId} {size : Nat} {g n cap : Nat} {xs : List Value} (h : w.ownsRow base e size (.slice (some ⟨g, 0, none⟩) n cap) n xs) (hb : w'.heap[g]? = w.heap[g]?) : w'.ownsRow base e size (.slice (some ⟨g, 0, none⟩) n cap) n xs := by
  refine ⟨h.1, ?_⟩
  rcases h.2 with ⟨h', _⟩ | ⟨g', cap', cur, h', hbs, hg, hr⟩
  · simp at h'
  · refine .inr ⟨g', cap', cur, h', hbs, ?_, hr⟩
    simp only [Value.slice.injEq, Option.some.injEq, Addr.mk.injEq, and_true, true_and] at h'
    obtain ⟨rfl, rfl⟩ := h'
    rw [hb]; exact hg
theorem ownsRow_base {w : World} {base : Nat} {e : TypeId} {size : Nat} {g n cap : Nat} {xs : List Value} (h : w.ownsRow base e size (.slice (some ⟨g, 0, none⟩) n cap) n xs) : base ≤ g ∧ g < w.heap.size := h.lt g rfl
theorem unit_error (s : ByteArray) (x : U) (hx : x ∈ units s) (h : x.c = 65533) : x.w = 1 ∨ x.w = 3 := by
  obtain ⟨_, _, _, _, _, h1, h2⟩ := units_fit _ _ _ hx
  rw [h] at h1
  have := width_of_error _ h1.symm
  rw [← h2] at this
  rw [this]
  split
  · exact .inr rfl
  · exact .inl rfl
/-- What a round of the second loop leaves. -/
theorem mix_step {W w : World} {B g n cap k : Nat} {us : List U} (hk : k < us.length) (hbg : B ≤ g) {v : Bool} (hv : (!badU us[k]) = v) (hown : W.ownsRow (B + 1) 125 4 (.slice (some ⟨g, 0, none⟩) n cap) n (mix us k)) (hb : Below B w W) :
    (W.setCell ⟨g, k * 4 + 3, none⟩ (.bool v)).ownsRow (B + 1) 125 4 (.slice (some ⟨g, 0, none⟩) n cap) n (mix us (k + 1)) ∧ Below B w (W.setCell ⟨g, k * 4 + 3, none⟩ (.bool v)) := by
  have h := (hown.stored (k * 4 + 3) (.bool v)).1
  rw [← hv, mix_set us k hk] at h
  rw [← hv]
  exact ⟨h, hb.setCell (p := ⟨g, k * 4 + 3, none⟩) hbg _⟩
theorem ownsRow_mono {w : World} {base base' : Nat} {e : TypeId} {size : Nat} {v : Value} {n : Nat} {xs : List Value} (h : w.ownsRow base e size v n xs) (hb : base' ≤ base) : w.ownsRow base' e size v n xs := by
  refine ⟨h.1, ?_⟩
  rcases h.2 with h | ⟨g, cap, cur, hv, h0, h1⟩
  · exact .inl h
  · exact .inr ⟨g, cap, cur, hv, Nat.le_trans hb h0, h1⟩
theorem news_at (W : World) (l : List Value) (t : TypeId) : ∀ (j : Nat) (u : Value), l[j]? = some u → (W.alloc (.cells l.toArray t)).cell? ((⟨W.heap.size, 0, none⟩ : Addr).add j) = some u :=
  World.news_of_block (cs := l.toArray) (block_new W _)
theorem raw_one (u : U) : ∀ v ∈ rawU u, v.oneCell' = true := by
  intro v hv
  simp only [rawU, List.mem_cons, List.not_mem_nil, or_false] at hv
  rcases hv with rfl | rfl | rfl | rfl <;> rfl

theorem step_keeps {w X w' : World} {o it : Obj} {row : Option Nat} (hb : Below w.heap.size w X) (hit : X.heap[w.heap.size]? = some it) (hr : ∀ k, row = some k → w.heap.size < k) (hg : (X.alloc o).grownBy w' row) :
    w'.heap[w.heap.size]? = some it ∧ Below w.heap.size w w' := by
  have h1 := block_alloc o hit
  refine ⟨(hg.block _ (Array.getElem?_eq_some_iff.1 h1).1 ?_).trans h1, (hb.alloc hb.size o).grown hg (by have := hb.size; simp; omega) (fun k e => Nat.le_of_lt (hr k e))⟩
  intro e
  have := hr _ e.symm
  omega

set_option maxRecDepth 100000 in
set_option maxHeartbeats 1000000 in
theorem refUnits_any (s : ByteArray) (hs : s.size ≤ 400) (w : World) :
    Calls Try.prog 70 #[.string s] w fun e w' => ∃ v, e = .returned v ∧ w'.ownsRow w.heap.size 125 4 v (units s).length ((units s).flatMap fulU) ∧ Below w.heap.size w w' := by
  go_enter Try.func70, Try.ntmps70
  go_wp2
  go_loopw [3] (fun v wr => ∃ (q : List U) (p : Nat), p ≤ s.size ∧ q ++ unitsA (s.data.toList.drop p) p = units s ∧ wr.heap[w.heap.size]? = some (.stringIter s p) ∧ Below w.heap.size w wr ∧ LRow (w.heap.size + 1) wr v q p)
    (fun _ wr => s.size - wr.iterPos w.heap.size)
  case atStart => exact ⟨[], 0, Nat.zero_le _, rfl, World.iter_heap _ _ _, (Below.refl _ w).alloc (Nat.le_refl _) _, .inl ⟨rfl, rfl⟩⟩
  case round =>
    obtain ⟨q, p, hp, hun, hit, hbel, hrow⟩ := hrel
    by_cases hlt : p < s.size
    · have hsz := sizeAt_unit s p hlt
      have htl := units_tail s p hlt
      have hmem : (⟨(Utf8.decode s p).1, p, (Utf8.decode s p).2⟩ : U) ∈ units s := by
        rw [← hun, htl]; simp
      have hfit := units_fit _ _ _ hmem
      have hnx := fun ty => Lib.run_next_any_at (P := Try.prog) wr w.heap.size s p ty hit hlt
      have hit2 := Lib.iterAt_heap wr w.heap.size s p (p + (Utf8.decode s p).2) hit
      obtain ⟨W2, hW2⟩ : ∃ W2, wr.iterAt w.heap.size s (p + (Utf8.decode s p).2) = W2 := ⟨_, rfl⟩
      rw [hW2] at hit2
      have hb : 1 ≤ (Utf8.decode s p).2 ∧ p + (Utf8.decode s p).2 ≤ s.size ∧ (Utf8.decode s p).1 ≤ 1114111 := by
        obtain ⟨_, h2, h3, _, h5, _, _⟩ := hfit
        simp only at h2 h3 h5
        rw [← Lib.size_eq] at h2
        exact ⟨h3, by omega, h5⟩
      rw [htl] at hun
      have hnx2 : ∀ ty, (Instr.next (.pointer (some ⟨w.heap.size, 0, none⟩)) true ty).run Try.prog wr = .ok (.tuple #[.bool true, .int .i64 p, .int .i32 ((Utf8.decode s p).1 : Nat)]) W2 := fun ty => by rw [hnx ty, hW2]
      have hbel2 : Below w.heap.size w W2 := by rw [← hW2]; exact Lib.below_iterAt hbel (Nat.le_refl _) s _
      have hsz2 : W2.heap.size = wr.heap.size := by rw [← hW2]; exact Lib.iterAt_size ..
      have hoth : ∀ k, k ≠ w.heap.size → W2.heap[k]? = wr.heap[k]? := fun k hk => by rw [← hW2]; exact Lib.iterAt_other _ _ _ _ _ hk
      obtain ⟨c, hc⟩ : ∃ c, (Utf8.decode s p).1 = c := ⟨_, rfl⟩
      obtain ⟨k, hk⟩ : ∃ k, (Utf8.decode s p).2 = k := ⟨_, rfl⟩
      rw [hc] at hnx2 hb hun
      rw [hk] at hb hun hit2
      have HI := Lib.hid hit2
      have hBz : w.heap.size + 1 ≤ wr.heap.size := (Array.getElem?_eq_some_iff.1 hit).1
      have hpos : wr.iterPos w.heap.size = p := by simp only [World.iterPos, hit]
      have HP := Lib.hid hpos
      have HU := Lib.hid hun
      clear hpos hnx hsz hun htl hit2 hW2 hc hk hit hfit hmem
      obtain ⟨hb1, hb2, hb3⟩ := hb
      obtain ⟨i0, hi, hz0, hz1, hz2⟩ := info_parts Try.infoUnit
      rcases hrow with ⟨rfl, rfl⟩ | ⟨q', u, g, cap, rfl, rfl, hup, hown⟩
      · have hnow := World.ownsRow_nil W2 (w.heap.size + 1) 125 4
        have hz : w.heap.size + 1 ≤ wr.heap.size := hBz
        go_wp2_with (first | (at_builtin; refine wpList_append_lies _ rfl (.tmp 31) (.tmp 35) 122 rfl (w.heap.size + 1) 125 i0 _ 4 32 Try.underlying122 hi hz0 hz1 hz2 rfl (by decide) _ 0 _ rfl (hnow.alloc _) _ 1 1 (rawU ⟨c, p, k⟩) rfl rfl (by rw [← hsz2]; exact news_at W2 (rawU ⟨c, p, k⟩) 125) (raw_one ⟨c, p, k⟩) (by omega) (by unfold maxLen; omega) (by omega) (by simp; omega) _ rfl ?_))
        intro g' cap' w' hown' hgrow _ hglt
        have hrb := step_keeps (o := .cells (rawU ⟨c, p, k⟩).toArray 125) hbel2 HI.out (fun _ h => by cases h) hgrow
        have HR := Lib.hid hrb
        have HO := Lib.hid hown'
        clear hrb hown' hgrow hnow hoth
        go_wp2
        go_roundw
        case rel => exact ⟨[⟨c, p, k⟩], p + k, hb2, HU.out, HR.out.1, HR.out.2, .inr ⟨[], ⟨c, p, k⟩, g', cap', rfl, rfl, rfl, HO.out⟩⟩
        case measure =>
          have e1 : w'.iterPos w.heap.size = p + k := by simp only [World.iterPos, HR.out.1]
          rw [e1, HP.out]
          omega
      · have hown2 : W2.ownsRow (w.heap.size + 1) 125 4 (.slice (some ⟨g, 0, none⟩) (q'.length + 1) cap) (q'.length + 1) (q'.flatMap sizU ++ rawU u) :=
          ownsRow_block hown (hoth g (by have := (ownsRow_base hown).1; omega))
        have l1 : W2.cell? ⟨g, q'.length * 4 + 1, none⟩ = some (.int .i64 (u.p : Int)) := by
          rw [hown2.cellAt _ (by omega), raw_at _ _ 1 (by omega)]; rfl
        have l2 : W2.cell? ⟨g, q'.length * 4 + 2, none⟩ = some (.int .i64 0) := by
          rw [hown2.cellAt _ (by omega), raw_at _ _ 2 (by omega)]; rfl
        have f1 : W2.frozen? ⟨g, q'.length * 4 + 2, none⟩ = false := hown2.frozenAt _
        have hst := (hown2.stored (q'.length * 4 + 2) (.int .i64 ((p : Int) - (u.p : Int)))).1
        rw [raw_set q' u _ (by omega)] at hst
        have hgb := ownsRow_base hown
        have hql : q'.length ≤ 400 := by
          have h1 := congrArg List.length HU.out
          have h2 := units_le s
          simp only [List.length_append, List.length_cons] at h1
          omega
        obtain ⟨n, hn⟩ : ∃ n, q'.length = n := ⟨_, rfl⟩
        obtain ⟨up, hup'⟩ : ∃ up, u.p = up := ⟨_, rfl⟩
        rw [hn] at l1 l2 f1 hst hql
        rw [hup'] at l1 hst
        have hrb := fun w' => step_keeps (w' := w') (o := .cells (rawU ⟨c, p, k⟩).toArray 125) (row := some g) (hbel2.setCell (p := ⟨g, n * 4 + 2, none⟩) (by show w.heap.size ≤ g; omega) (.int .i64 ((p : Int) - (up : Int)))) (block_other _ HI.out (by omega)) (fun _ h => by cases h; omega)
        have HR0 := Lib.hid hrb
        obtain ⟨L, hL⟩ : ∃ L, (q' ++ [u]).flatMap sizU = L := ⟨_, rfl⟩
        rw [hL] at hst
        have HL := Lib.hid hL
        clear hL
        have HS := Lib.hid hst
        have hle : up ≤ p := by omega
        have hp4 : p ≤ 400 := by omega
        have hxz : (W2.setCell ⟨g, n * 4 + 2, none⟩ (.int .i64 ((p : Int) - (up : Int)))).heap.size = wr.heap.size := by simp [hsz2]
        have HX := Lib.hid hxz
        have HN := Lib.hid hn
        rw [hn]
        clear hrb hst hown hown2 hup hup' hn hxz hoth
        go_wp2_with (first | (at_builtin; refine wpList_append_lies _ rfl (.tmp 31) (.tmp 35) 122 rfl (w.heap.size + 1) 125 i0 _ 4 32 Try.underlying122 hi hz0 hz1 hz2 rfl (by decide) _ (n + 1) _ rfl (HS.out.alloc _) _ 1 1 (rawU ⟨c, p, k⟩) rfl rfl (by rw [← HX.out]; exact news_at _ (rawU ⟨c, p, k⟩) 125) (raw_one ⟨c, p, k⟩) (by omega) (by unfold maxLen; omega) (by omega) (by simp; omega) _ rfl ?_))
        intro g' cap' w' hown' hgrow _ hglt
        have HR := Lib.hid (HR0.out w' hgrow)
        have HO := Lib.hid hown'
        clear hown' hgrow
        go_wp2
        go_roundw
        case rel => exact ⟨q' ++ [u] ++ [⟨c, p, k⟩], p + k, hb2, by rw [List.append_assoc]; exact HU.out, HR.out.1, HR.out.2, .inr ⟨q' ++ [u], ⟨c, p, k⟩, g', cap', rfl, by rw [List.length_append, HN.out]; rfl, rfl, by rw [List.length_append, HN.out, HL.out]; exact HO.out⟩⟩
        case measure =>
          have e1 : w'.iterPos w.heap.size = p + k := by simp only [World.iterPos, HR.out.1]
          rw [e1, HP.out]
          omega
    · have hnx := fun ty => Lib.run_next_end_at (P := Try.prog) wr w.heap.size s p ty hit hlt
      have hend := units_end s p hlt
      rw [hend, List.append_nil] at hun
      clear hend
      have hps : p = s.size := by omega
      rcases hrow with ⟨rfl, rfl⟩ | ⟨q', u, g, cap, rfl, rfl, hup, hown⟩
      · have HU := Lib.hid hun
        have HB := Lib.hid hbel
        clear hun hit hbel
        go_wp2
        go_loopw [58] (fun i wr' => i = .int .i64 0 ∧ Below w.heap.size w wr') (fun _ _ => 0)
        case atStart => exact ⟨rfl, HB.out⟩
        case round =>
          obtain ⟨rfl, hb2⟩ := hrel
          go_wp2
          go_ret
          refine ⟨_, rfl, ?_, hb2⟩
          rw [← HU.out]
          exact World.ownsRow_nil _ _ _ _
      · have l1 : wr.cell? ⟨g, q'.length * 4 + 1, none⟩ = some (.int .i64 (u.p : Int)) := by
          rw [hown.cellAt _ (by omega), raw_at _ _ 1 (by omega)]; rfl
        have l2 : wr.cell? ⟨g, q'.length * 4 + 2, none⟩ = some (.int .i64 0) := by
          rw [hown.cellAt _ (by omega), raw_at _ _ 2 (by omega)]; rfl
        have f1 : wr.frozen? ⟨g, q'.length * 4 + 2, none⟩ = false := hown.frozenAt _
        have hst := (hown.stored (q'.length * 4 + 2) (.int .i64 ((s.size : Int) - (u.p : Int)))).1
        rw [raw_set q' u _ (by omega), hun, ← mix_zero] at hst
        have hgb := ownsRow_base hown
        have hul := units_le s
        have hql : q'.length + 1 = (units s).length := by
          have h1 := congrArg List.length hun
          simp only [List.length_append, List.length_cons, List.length_nil] at h1
          omega
        have hsb := hbel.setCell (p := ⟨g, q'.length * 4 + 2, none⟩) (by show w.heap.size ≤ g; omega) (.int .i64 ((s.size : Int) - (u.p : Int)))
        have hmem : ∀ x ∈ units s, x.w = 1 ∨ x.c ≠ 65533 ∨ x.w = 3 := fun x hx => by
          by_cases h : x.c = 65533
          · rcases unit_error s x hx h with h1 | h1
            · exact .inl h1
            · exact .inr (.inr h1)
          · exact .inr (.inl h)
        have hfit := units_fit s.data.toList 0
        obtain ⟨n, hn⟩ : ∃ n, q'.length = n := ⟨_, rfl⟩
        obtain ⟨up, hup'⟩ : ∃ up, u.p = up := ⟨_, rfl⟩
        obtain ⟨us, hus⟩ : ∃ us, units s = us := ⟨_, rfl⟩
        rw [hn] at l1 l2 f1 hst hql hsb
        rw [hup'] at l1 hst hsb hup
        rw [hus] at hmem hql hul hst hun ⊢
        obtain ⟨z, hz⟩ : ∃ z, s.size = z := ⟨_, rfl⟩
        rw [hz] at hst hps hs hsb hul
        have HS := Lib.hid hst
        have HB := Lib.hid hsb
        have HM := Lib.hid hmem
        have hle : up ≤ z := by omega
        have hz4 : z ≤ 400 := hs
        have hn4 : n ≤ 400 := by omega
        have HQ := Lib.hid hql
        have HUS := Lib.hid hus
        rw [hn]
        clear hql hul hst hsb hown hup hup' hn hmem hfit hun hus hbel hit hp hlt hps
        go_wp2_with fail
        go_loopw [58] (fun i wr' => ∃ k : Nat, k ≤ n + 1 ∧ i = .int .i64 k ∧ wr'.ownsRow (w.heap.size + 1) 125 4 (.slice (some ⟨g, 0, none⟩) (n + 1) cap) (n + 1) (mix us k) ∧ Below w.heap.size w wr') (fun i _ => (n + 1) - (intOf i).toNat)
        case atStart => exact ⟨0, Nat.zero_le _, rfl, HS.out, HB.out⟩
        case round =>
          obtain ⟨k, hk, rfl, hown, hbel⟩ := hrel
          by_cases hlt : k < n + 1
          · have hku : k < us.length := by have := HQ.out; omega
            have m0 := hown.cellAt (k * 4 + 0) (by omega)
            have m2 := hown.cellAt (k * 4 + 2) (by omega)
            have m3 := hown.cellAt (k * 4 + 3) (by omega)
            rw [mix_at us k 0 hku (by omega)] at m0
            rw [mix_at us k 2 hku (by omega)] at m2
            rw [mix_at us k 3 hku (by omega)] at m3
            have f3 := hown.frozenAt (k * 4 + 3)
            have hw3 := HM.out _ (List.getElem_mem hku)
            have hstep := fun v hv => mix_step hku (by have := hgb.1; omega) (v := v) hv hown hbel
            have hbad : badU us[k] = decide (us[k].c = 65533 ∧ us[k].w = 1) := by
              unfold badU invB
              congr 1
              simp only [eq_iff_iff, and_congr_left_iff]
              omega
            rw [hbad] at hstep
            simp only [sizU, List.getElem?_cons_zero, List.getElem?_cons_succ, Nat.add_zero] at m0 m2 m3
            obtain ⟨x, hx⟩ : ∃ x, us[k] = x := ⟨_, rfl⟩
            rw [hx] at m0 m2 hw3 hstep
            obtain ⟨c, hc⟩ : ∃ c, x.c = c := ⟨_, rfl⟩
            obtain ⟨wd, hwd⟩ : ∃ wd, x.w = wd := ⟨_, rfl⟩
            rw [hc] at m0 hw3 hstep
            rw [hwd] at m2 hw3 hstep
            clear hx hc hwd hbad hown hbel
            by_cases h6 : c = 65533
            · subst h6
              have hw4 : wd = 1 ∨ wd = 3 := by omega
              rcases hw4 with rfl | rfl
              · have HT := Lib.hid (hstep false (by decide))
                clear hstep
                go_wp2
                go_roundw
                case rel => exact ⟨k + 1, by omega, by go_num, HT.out.1, HT.out.2⟩
                case measure => simp [intOf]; omega
              · have HT := Lib.hid (hstep true (by decide))
                clear hstep
                go_wp2
                go_roundw
                case rel => exact ⟨k + 1, by omega, by go_num, HT.out.1, HT.out.2⟩
                case measure => simp [intOf]; omega
            · have HT := Lib.hid (hstep true (by simp [h6]))
              have h7 : ((c : Int) == 65533) = false := by rw [beq_eq_false_iff_ne]; omega
              clear hstep
              go_wp2
              go_roundw
              case rel => exact ⟨k + 1, by omega, by go_num, HT.out.1, HT.out.2⟩
              case measure => simp [intOf]; omega
          · have HO := Lib.hid hown
            have HB2 := Lib.hid hbel
            clear hown hbel
            go_wp2
            go_ret
            refine ⟨_, rfl, ?_, HB2.out⟩
            have h := HO.out
            rw [mix_all us k (by have := HQ.out; omega)] at h
            rw [HUS.out, ← HQ.out]
            obtain ⟨h1, h2⟩ := h
            exact ownsRow_mono ⟨h1, h2⟩ (by omega)
end Go.Proofs.Yteennnhinfnahaa.Ru
