/-
  WALKS over the reference of codepoint at this seat: Units, Position (stage 1's RuA, RuB, RuC over MeA).
-/
import Derived.Test.YtjialelklnjcfaaDoorAtE
import Derived.Test.YtjialelklnjcfaaDoorDbH
import Derived.Deep.AppendLies
import Derived.StillTailTactics
namespace Go.Proofs.YtjialelklnjcfaaDoor
open Go.RowKit Go.Shelf Go.Lib

def rawU (u : U) : List Value := [.int .i32 (u.c : Int), .int .i64 (u.p : Int), .int .i64 0, .bool false]
def sizU (u : U) : List Value := [.int .i32 (u.c : Int), .int .i64 (u.p : Int), .int .i64 (u.w : Int), .bool false]
def fulU (u : U) : List Value := [.int .i32 (u.c : Int), .int .i64 (u.p : Int), .int .i64 (u.w : Int), .bool (!badU u)]
theorem Tryd.infoUnit : (Tryd.prog.info? 73).map (fun i => (i.zero, i.size, i.bytes)) = some (some (.agg #[.int .i32 0, .int .i64 0, .int .i64 0, .bool false]), 4, 32) := by kernel_rfl

theorem fm4_len {f : U → List Value} (hf : ∀ u, (f u).length = 4) : ∀ l : List U, (l.flatMap f).length = l.length * 4
  | [] => rfl
  | u :: l => by rw [List.flatMap_cons, List.length_append, hf, fm4_len hf l, List.length_cons]; omega
theorem fm4_at {f : U → List Value} (hf : ∀ u, (f u).length = 4) : ∀ (l : List U) (k j : Nat) (hk : k < l.length), j < 4 → (l.flatMap f)[k * 4 + j]? = (f l[k])[j]?
  | [], k, _, h, _ => by simp at h
  | u :: l, 0, j, _, hj => by
    rw [List.flatMap_cons, List.getElem?_append_left (by rw [hf]; omega)]
    simp
  | u :: l, k + 1, j, hk, hj => by
    rw [List.flatMap_cons, List.getElem?_append_right (by rw [hf]; omega), hf]
    have e : (k + 1) * 4 + j - 4 = k * 4 + j := by omega
    rw [e, fm4_at hf l k j (by simpa using hk) hj]
    simp
theorem rawU_len (u : U) : (rawU u).length = 4 := rfl
theorem sizU_len (u : U) : (sizU u).length = 4 := rfl
theorem fulU_len (u : U) : (fulU u).length = 4 := rfl

/-- The row while it is being built: the last unit's size is not there yet. -/
def LRow (B : Nat) (wr : World) (v : Value) (q : List U) (p : Nat) : Prop :=
  (q = [] ∧ v = .slice none 0 0) ∨ ∃ (q' : List U) (u : U) (g cap : Nat), q = q' ++ [u] ∧ v = .slice (some ⟨g, 0, none⟩) (q'.length + 1) cap ∧ u.p + u.w = p ∧ wr.ownsRow B 73 4 v (q'.length + 1) (q'.flatMap sizU ++ rawU u)

/-- The row behind the first k rounds of the second loop. -/
def mix (us : List U) (k : Nat) : List Value := (us.take k).flatMap fulU ++ (us.drop k).flatMap sizU
theorem mix_zero (us : List U) : mix us 0 = us.flatMap sizU := by simp [mix]
theorem mix_all (us : List U) (k : Nat) (h : us.length ≤ k) : mix us k = us.flatMap fulU := by
  unfold mix
  rw [List.take_of_length_le h, List.drop_of_length_le h]
  simp
theorem mix_at (us : List U) (k j : Nat) (hk : k < us.length) (hj : j < 4) : (mix us k)[k * 4 + j]? = (sizU us[k])[j]? := by
  unfold mix
  have hl : ((us.take k).flatMap fulU).length = k * 4 := by rw [fm4_len fulU_len, List.length_take, Nat.min_eq_left (by omega)]
  rw [List.getElem?_append_right (by omega), hl]
  have e : k * 4 + j - k * 4 = 0 * 4 + j := by omega
  have hd : 0 < (us.drop k).length := by rw [List.length_drop]; omega
  rw [e, fm4_at sizU_len (us.drop k) 0 j hd hj]
  simp
theorem mix_set (us : List U) (k : Nat) (hk : k < us.length) : (mix us k).set (k * 4 + 3) (.bool (!badU us[k])) = mix us (k + 1) := by
  unfold mix
  have hl : ((us.take k).flatMap fulU).length = k * 4 := by rw [fm4_len fulU_len, List.length_take, Nat.min_eq_left (by omega)]
  rw [List.set_append_right _ _ (by omega), hl]
  have e : k * 4 + 3 - k * 4 = 3 := by omega
  rw [e, List.drop_eq_getElem_cons hk, List.flatMap_cons, List.take_succ_eq_append_getElem hk, List.flatMap_append, List.append_assoc]
  rfl
theorem raw_set (q : List U) (u : U) (v : Int) (hv : v = (u.w : Int)) : (q.flatMap sizU ++ rawU u).set (q.length * 4 + 2) (.int .i64 v) = (q ++ [u]).flatMap sizU := by
  subst hv
  have hl := fm4_len sizU_len q
  rw [List.set_append_right _ _ (by omega), hl]
  have e : q.length * 4 + 2 - q.length * 4 = 2 := by omega
  rw [e, List.flatMap_append]
  rfl
theorem raw_at (q : List U) (u : U) (j : Nat) (hj : j < 4) : (q.flatMap sizU ++ rawU u)[q.length * 4 + j]? = (rawU u)[j]? := by
  have hl := fm4_len sizU_len q
  rw [List.getElem?_append_right (by omega), hl]
  have e : q.length * 4 + j - q.length * 4 = j := by omega
  rw [e]
theorem ownsRow_baseU {w : World} {base : Nat} {e : TypeId} {size : Nat} {g n cap : Nat} {xs : List Value} (h : w.ownsRow base e size (.slice (some ⟨g, 0, none⟩) n cap) n xs) : base ≤ g ∧ g < w.heap.size := h.lt g rfl
theorem unit_error (s : ByteArray) (x : U) (hx : x ∈ units s) (h : x.c = 65533) : x.w = 1 ∨ x.w = 3 := by
  obtain ⟨_, _, _, _, _, h1, h2⟩ := units_fit _ _ _ hx
  rw [h] at h1
  have := width_of_error _ h1.symm
  rw [← h2] at this
  rw [this]
  split
  · exact .inr rfl
  · exact .inl rfl
/-- What a round of the second loop leaves. -/
theorem mix_step {W w : World} {B g n cap k : Nat} {us : List U} (hk : k < us.length) (hbg : B ≤ g) {v : Bool} (hv : (!badU us[k]) = v) (hown : W.ownsRow (B + 1) 73 4 (.slice (some ⟨g, 0, none⟩) n cap) n (mix us k)) (hb : Below B w W) :
    (W.setCell ⟨g, k * 4 + 3, none⟩ (.bool v)).ownsRow (B + 1) 73 4 (.slice (some ⟨g, 0, none⟩) n cap) n (mix us (k + 1)) ∧ Below B w (W.setCell ⟨g, k * 4 + 3, none⟩ (.bool v)) := by
  have h := (hown.stored (k * 4 + 3) (.bool v)).1
  rw [← hv, mix_set us k hk] at h
  rw [← hv]
  exact ⟨h, hb.setCell (p := ⟨g, k * 4 + 3, none⟩) hbg _⟩
theorem ownsRow_mono {w : World} {base base' : Nat} {e : TypeId} {size : Nat} {v : Value} {n : Nat} {xs : List Value} (h : w.ownsRow base e size v n xs) (hb : base' ≤ base) : w.ownsRow base' e size v n xs := by
  refine ⟨h.1, ?_⟩
  rcases h.2 with h | ⟨g, cap, cur, hv, h0, h1⟩
  · exact .inl h
  · exact .inr ⟨g, cap, cur, hv, Nat.le_trans hb h0, h1⟩
theorem raw_one (u : U) : ∀ v ∈ rawU u, v.oneCell' = true := by
  intro v hv
  simp only [rawU, List.mem_cons, List.not_mem_nil, or_false] at hv
  rcases hv with rfl | rfl | rfl | rfl <;> rfl

theorem step_keeps {w X w' : World} {o it : Obj} {row : Option Nat} (hb : Below w.heap.size w X) (hit : X.heap[w.heap.size]? = some it) (hr : ∀ k, row = some k → w.heap.size < k) (hg : (X.alloc o).grownBy w' row) :
    w'.heap[w.heap.size]? = some it ∧ Below w.heap.size w w' := by
  have h1 := block_alloc o hit
  refine ⟨(hg.block _ (Array.getElem?_eq_some_iff.1 h1).1 ?_).trans h1, (hb.alloc hb.size o).grown hg (by have := hb.size; simp; omega) (fun k e => Nat.le_of_lt (hr k e))⟩
  intro e
  have := hr _ e.symm
  omega

set_option maxRecDepth 100000 in
set_option maxHeartbeats 1000000 in
theorem refUnits_any (s : ByteArray) (hs : s.size ≤ 2000) (w : World) :
    Calls Tryd.prog 29 #[.string s] w fun e w' => ∃ v, e = .returned v ∧ w'.ownsRow w.heap.size 73 4 v (units s).length ((units s).flatMap fulU) ∧ Below w.heap.size w w' := by
  go_enter Tryd.func29, Tryd.ntmps29
  go_wp2
  go_loopw [3] (fun v wr => ∃ (q : List U) (p : Nat), p ≤ s.size ∧ q ++ unitsA (s.data.toList.drop p) p = units s ∧ wr.heap[w.heap.size]? = some (.stringIter s p) ∧ Below w.heap.size w wr ∧ LRow (w.heap.size + 1) wr v q p)
    (fun _ wr => s.size - wr.iterPos w.heap.size)
  case atStart => exact ⟨[], 0, Nat.zero_le _, rfl, World.iter_heap _ _ _, (Below.refl _ w).alloc (Nat.le_refl _) _, .inl ⟨rfl, rfl⟩⟩
  case round =>
    obtain ⟨q, p, hp, hun, hit, hbel, hrow⟩ := hrel
    by_cases hlt : p < s.size
    · have hsz := sizeAt_unit s p hlt
      have htl := units_tail s p hlt
      have hmem : (⟨(Utf8.decode s p).1, p, (Utf8.decode s p).2⟩ : U) ∈ units s := by
        rw [← hun, htl]; simp
      have hfit := units_fit _ _ _ hmem
      have hnx := fun ty => Lib.run_next_any_at (P := Tryd.prog) wr w.heap.size s p ty hit hlt
      have hit2 := Lib.iterAt_heap wr w.heap.size s p (p + (Utf8.decode s p).2) hit
      obtain ⟨W2, hW2⟩ : ∃ W2, wr.iterAt w.heap.size s (p + (Utf8.decode s p).2) = W2 := ⟨_, rfl⟩
      rw [hW2] at hit2
      have hb : 1 ≤ (Utf8.decode s p).2 ∧ p + (Utf8.decode s p).2 ≤ s.size ∧ (Utf8.decode s p).1 ≤ 1114111 := by
        obtain ⟨_, h2, h3, _, h5, _, _⟩ := hfit
        simp only at h2 h3 h5
        rw [← Lib.size_eq] at h2
        exact ⟨h3, by omega, h5⟩
      rw [htl] at hun
      have hnx2 : ∀ ty, (Instr.next (.pointer (some ⟨w.heap.size, 0, none⟩)) true ty).run Tryd.prog wr = .ok (.tuple #[.bool true, .int .i64 p, .int .i32 ((Utf8.decode s p).1 : Nat)]) W2 := fun ty => by rw [hnx ty, hW2]
      have hbel2 : Below w.heap.size w W2 := by rw [← hW2]; exact Lib.below_iterAt hbel (Nat.le_refl _) s _
      have hsz2 : W2.heap.size = wr.heap.size := by rw [← hW2]; exact Lib.iterAt_size ..
      have hoth : ∀ k, k ≠ w.heap.size → W2.heap[k]? = wr.heap[k]? := fun k hk => by rw [← hW2]; exact Lib.iterAt_other _ _ _ _ _ hk
      obtain ⟨c, hc⟩ : ∃ c, (Utf8.decode s p).1 = c := ⟨_, rfl⟩
      obtain ⟨k, hk⟩ : ∃ k, (Utf8.decode s p).2 = k := ⟨_, rfl⟩
      rw [hc] at hnx2 hb hun
      rw [hk] at hb hun hit2
      have HI := Lib.hid hit2
      have hBz : w.heap.size + 1 ≤ wr.heap.size := (Array.getElem?_eq_some_iff.1 hit).1
      have hpos : wr.iterPos w.heap.size = p := by simp only [World.iterPos, hit]
      have HP := Lib.hid hpos
      have HU := Lib.hid hun
      clear hpos hnx hsz hun htl hit2 hW2 hc hk hit hfit hmem
      obtain ⟨hb1, hb2, hb3⟩ := hb
      obtain ⟨i0, hi, hz0, hz1, hz2⟩ := info_parts Tryd.infoUnit
      rcases hrow with ⟨rfl, rfl⟩ | ⟨q', u, g, cap, rfl, rfl, hup, hown⟩
      · have hnow := World.ownsRow_nil W2 (w.heap.size + 1) 73 4
        have hz : w.heap.size + 1 ≤ wr.heap.size := hBz
        go_wp2_with (first | (at_builtin; refine wpList_append_lies _ rfl (.tmp 31) (.tmp 35) 70 rfl (w.heap.size + 1) 73 i0 _ 4 32 Tryd.underlying70 hi hz0 hz1 hz2 rfl (by decide) _ 0 _ rfl (hnow.alloc _) _ 1 1 (rawU ⟨c, p, k⟩) rfl rfl (by rw [← hsz2]; exact news_at W2 (rawU ⟨c, p, k⟩) 73) (raw_one ⟨c, p, k⟩) (by omega) (by unfold maxLen; omega) (by omega) (by simp; omega) _ rfl ?_))
        intro g' cap' w' hown' hgrow _ hglt
        have hrb := step_keeps (o := .cells (rawU ⟨c, p, k⟩).toArray 73) hbel2 HI.out (fun _ h => by cases h) hgrow
        have HR := Lib.hid hrb
        have HO := Lib.hid hown'
        clear hrb hown' hgrow hnow hoth
        go_wp2
        go_roundw
        case rel => exact ⟨[⟨c, p, k⟩], p + k, hb2, HU.out, HR.out.1, HR.out.2, .inr ⟨[], ⟨c, p, k⟩, g', cap', rfl, rfl, rfl, HO.out⟩⟩
        case measure =>
          have e1 : w'.iterPos w.heap.size = p + k := by simp only [World.iterPos, HR.out.1]
          rw [e1, HP.out]
          omega
      · have hown2 : W2.ownsRow (w.heap.size + 1) 73 4 (.slice (some ⟨g, 0, none⟩) (q'.length + 1) cap) (q'.length + 1) (q'.flatMap sizU ++ rawU u) :=
          ownsRow_block hown (hoth g (by have := (ownsRow_baseU hown).1; omega))
        have l1 : W2.cell? ⟨g, q'.length * 4 + 1, none⟩ = some (.int .i64 (u.p : Int)) := by
          rw [hown2.cellAt _ (by omega), raw_at _ _ 1 (by omega)]; rfl
        have l2 : W2.cell? ⟨g, q'.length * 4 + 2, none⟩ = some (.int .i64 0) := by
          rw [hown2.cellAt _ (by omega), raw_at _ _ 2 (by omega)]; rfl
        have f1 : W2.frozen? ⟨g, q'.length * 4 + 2, none⟩ = false := hown2.frozenAt _
        have hst := (hown2.stored (q'.length * 4 + 2) (.int .i64 ((p : Int) - (u.p : Int)))).1
        rw [raw_set q' u _ (by omega)] at hst
        have hgb := ownsRow_baseU hown
        have hql : q'.length ≤ 2000 := by
          have h1 := congrArg List.length HU.out
          have h2 := units_le s
          simp only [List.length_append, List.length_cons] at h1
          omega
        obtain ⟨n, hn⟩ : ∃ n, q'.length = n := ⟨_, rfl⟩
        obtain ⟨up, hup'⟩ : ∃ up, u.p = up := ⟨_, rfl⟩
        rw [hn] at l1 l2 f1 hst hql
        rw [hup'] at l1 hst
        have hrb := fun w' => step_keeps (w' := w') (o := .cells (rawU ⟨c, p, k⟩).toArray 73) (row := some g) (hbel2.setCell (p := ⟨g, n * 4 + 2, none⟩) (by show w.heap.size ≤ g; omega) (.int .i64 ((p : Int) - (up : Int)))) (block_other _ HI.out (by omega)) (fun _ h => by cases h; omega)
        have HR0 := Lib.hid hrb
        obtain ⟨L, hL⟩ : ∃ L, (q' ++ [u]).flatMap sizU = L := ⟨_, rfl⟩
        rw [hL] at hst
        have HL := Lib.hid hL
        clear hL
        have HS := Lib.hid hst
        have hle : up ≤ p := by omega
        have hp4 : p ≤ 2000 := by omega
        have hxz : (W2.setCell ⟨g, n * 4 + 2, none⟩ (.int .i64 ((p : Int) - (up : Int)))).heap.size = wr.heap.size := by simp [hsz2]
        have HX := Lib.hid hxz
        have HN := Lib.hid hn
        rw [hn]
        clear hrb hst hown hown2 hup hup' hn hxz hoth
        go_wp2_with (first | (at_builtin; refine wpList_append_lies _ rfl (.tmp 31) (.tmp 35) 70 rfl (w.heap.size + 1) 73 i0 _ 4 32 Tryd.underlying70 hi hz0 hz1 hz2 rfl (by decide) _ (n + 1) _ rfl (HS.out.alloc _) _ 1 1 (rawU ⟨c, p, k⟩) rfl rfl (by rw [← HX.out]; exact news_at _ (rawU ⟨c, p, k⟩) 73) (raw_one ⟨c, p, k⟩) (by omega) (by unfold maxLen; omega) (by omega) (by simp; omega) _ rfl ?_))
        intro g' cap' w' hown' hgrow _ hglt
        have HR := Lib.hid (HR0.out w' hgrow)
        have HO := Lib.hid hown'
        clear hown' hgrow
        go_wp2
        go_roundw
        case rel => exact ⟨q' ++ [u] ++ [⟨c, p, k⟩], p + k, hb2, by rw [List.append_assoc]; exact HU.out, HR.out.1, HR.out.2, .inr ⟨q' ++ [u], ⟨c, p, k⟩, g', cap', rfl, by rw [List.length_append, HN.out]; rfl, rfl, by rw [List.length_append, HN.out, HL.out]; exact HO.out⟩⟩
        case measure =>
          have e1 : w'.iterPos w.heap.size = p + k := by simp only [World.iterPos, HR.out.1]
          rw [e1, HP.out]
          omega
    · have hnx := fun ty => Lib.run_next_end_at (P := Tryd.prog) wr w.heap.size s p ty hit hlt
      have hend := units_end s p hlt
      rw [hend, List.append_nil] at hun
      clear hend
      have hps : p = s.size := by omega
      rcases hrow with ⟨rfl, rfl⟩ | ⟨q', u, g, cap, rfl, rfl, hup, hown⟩
      · have HU := Lib.hid hun
        have HB := Lib.hid hbel
        clear hun hit hbel
        go_wp2
        go_loopw [58] (fun i wr' => i = .int .i64 0 ∧ Below w.heap.size w wr') (fun _ _ => 0)
        case atStart => exact ⟨rfl, HB.out⟩
        case round =>
          obtain ⟨rfl, hb2⟩ := hrel
          go_wp2
          go_ret
          refine ⟨_, rfl, ?_, hb2⟩
          rw [← HU.out]
          exact World.ownsRow_nil _ _ _ _
      · have l1 : wr.cell? ⟨g, q'.length * 4 + 1, none⟩ = some (.int .i64 (u.p : Int)) := by
          rw [hown.cellAt _ (by omega), raw_at _ _ 1 (by omega)]; rfl
        have l2 : wr.cell? ⟨g, q'.length * 4 + 2, none⟩ = some (.int .i64 0) := by
          rw [hown.cellAt _ (by omega), raw_at _ _ 2 (by omega)]; rfl
        have f1 : wr.frozen? ⟨g, q'.length * 4 + 2, none⟩ = false := hown.frozenAt _
        have hst := (hown.stored (q'.length * 4 + 2) (.int .i64 ((s.size : Int) - (u.p : Int)))).1
        rw [raw_set q' u _ (by omega), hun, ← mix_zero] at hst
        have hgb := ownsRow_baseU hown
        have hul := units_le s
        have hql : q'.length + 1 = (units s).length := by
          have h1 := congrArg List.length hun
          simp only [List.length_append, List.length_cons, List.length_nil] at h1
          omega
        have hsb := hbel.setCell (p := ⟨g, q'.length * 4 + 2, none⟩) (by show w.heap.size ≤ g; omega) (.int .i64 ((s.size : Int) - (u.p : Int)))
        have hmem : ∀ x ∈ units s, x.w = 1 ∨ x.c ≠ 65533 ∨ x.w = 3 := fun x hx => by
          by_cases h : x.c = 65533
          · rcases unit_error s x hx h with h1 | h1
            · exact .inl h1
            · exact .inr (.inr h1)
          · exact .inr (.inl h)
        have hfit := units_fit s.data.toList 0
        obtain ⟨n, hn⟩ : ∃ n, q'.length = n := ⟨_, rfl⟩
        obtain ⟨up, hup'⟩ : ∃ up, u.p = up := ⟨_, rfl⟩
        obtain ⟨us, hus⟩ : ∃ us, units s = us := ⟨_, rfl⟩
        rw [hn] at l1 l2 f1 hst hql hsb
        rw [hup'] at l1 hst hsb hup
        rw [hus] at hmem hql hul hst hun ⊢
        obtain ⟨z, hz⟩ : ∃ z, s.size = z := ⟨_, rfl⟩
        rw [hz] at hst hps hs hsb hul
        have HS := Lib.hid hst
        have HB := Lib.hid hsb
        have HM := Lib.hid hmem
        have hle : up ≤ z := by omega
        have hz4 : z ≤ 2000 := hs
        have hn4 : n ≤ 2000 := by omega
        have HQ := Lib.hid hql
        have HUS := Lib.hid hus
        rw [hn]
        clear hql hul hst hsb hown hup hup' hn hmem hfit hun hus hbel hit hp hlt hps
        go_wp2_with fail
        go_loopw [58] (fun i wr' => ∃ k : Nat, k ≤ n + 1 ∧ i = .int .i64 k ∧ wr'.ownsRow (w.heap.size + 1) 73 4 (.slice (some ⟨g, 0, none⟩) (n + 1) cap) (n + 1) (mix us k) ∧ Below w.heap.size w wr') (fun i _ => (n + 1) - (Go.RowKit.intOf i).toNat)
        case atStart => exact ⟨0, Nat.zero_le _, rfl, HS.out, HB.out⟩
        case round =>
          obtain ⟨k, hk, rfl, hown, hbel⟩ := hrel
          by_cases hlt : k < n + 1
          · have hku : k < us.length := by have := HQ.out; omega
            have m0 := hown.cellAt (k * 4 + 0) (by omega)
            have m2 := hown.cellAt (k * 4 + 2) (by omega)
            have m3 := hown.cellAt (k * 4 + 3) (by omega)
            rw [mix_at us k 0 hku (by omega)] at m0
            rw [mix_at us k 2 hku (by omega)] at m2
            rw [mix_at us k 3 hku (by omega)] at m3
            have f3 := hown.frozenAt (k * 4 + 3)
            have hw3 := HM.out _ (List.getElem_mem hku)
            have hstep := fun v hv => mix_step hku (by have := hgb.1; omega) (v := v) hv hown hbel
            have hbad : badU us[k] = decide (us[k].c = 65533 ∧ us[k].w = 1) := by
              unfold badU invB
              congr 1
              simp only [eq_iff_iff, and_congr_left_iff]
              omega
            rw [hbad] at hstep
            simp only [sizU, List.getElem?_cons_zero, List.getElem?_cons_succ, Nat.add_zero] at m0 m2 m3
            obtain ⟨x, hx⟩ : ∃ x, us[k] = x := ⟨_, rfl⟩
            rw [hx] at m0 m2 hw3 hstep
            obtain ⟨c, hc⟩ : ∃ c, x.c = c := ⟨_, rfl⟩
            obtain ⟨wd, hwd⟩ : ∃ wd, x.w = wd := ⟨_, rfl⟩
            rw [hc] at m0 hw3 hstep
            rw [hwd] at m2 hw3 hstep
            clear hx hc hwd hbad hown hbel
            by_cases h6 : c = 65533
            · subst h6
              have hw4 : wd = 1 ∨ wd = 3 := by omega
              rcases hw4 with rfl | rfl
              · have HT := Lib.hid (hstep false (by decide))
                clear hstep
                go_wp2
                go_roundw
                case rel => exact ⟨k + 1, by omega, by go_num, HT.out.1, HT.out.2⟩
                case measure => simp [Go.RowKit.intOf]; omega
              · have HT := Lib.hid (hstep true (by decide))
                clear hstep
                go_wp2
                go_roundw
                case rel => exact ⟨k + 1, by omega, by go_num, HT.out.1, HT.out.2⟩
                case measure => simp [Go.RowKit.intOf]; omega
            · have HT := Lib.hid (hstep true (by simp [h6]))
              have h7 : ((c : Int) == 65533) = false := by rw [beq_eq_false_iff_ne]; omega
              clear hstep
              go_wp2
              go_roundw
              case rel => exact ⟨k + 1, by omega, by go_num, HT.out.1, HT.out.2⟩
              case measure => simp [Go.RowKit.intOf]; omega
          · have HO := Lib.hid hown
            have HB2 := Lib.hid hbel
            clear hown hbel
            go_wp2
            go_ret
            refine ⟨_, rfl, ?_, HB2.out⟩
            have h := HO.out
            rw [mix_all us k (by have := HQ.out; omega)] at h
            rw [HUS.out, ← HQ.out]
            obtain ⟨h1, h2⟩ := h
            exact ownsRow_mono ⟨h1, h2⟩ (by omega)


/-- The units lie in the row that begins at block g. -/
def URow (W : World) (g : Nat) (us : List U) : Prop :=
  ∃ cur : Array Value, W.heap[g]? = some (.cells cur 73 (0, 0)) ∧ ∀ (k j : Nat) (hk : k < us.length), j < 4 → cur[k * 4 + j]? = (fulU us[k])[j]?
theorem URow.keep {W W' : World} {g : Nat} {us : List U} (h : URow W g us) (hb : W'.heap[g]? = W.heap[g]?) : URow W' g us := by
  obtain ⟨cur, h1, h2⟩ := h
  exact ⟨cur, hb.trans h1, h2⟩
theorem URow.lt {W : World} {g : Nat} {us : List U} (h : URow W g us) : g < W.heap.size := by
  obtain ⟨cur, h1, h2⟩ := h
  exact (Array.getElem?_eq_some_iff.1 h1).1
theorem URow.alloc {W : World} {g : Nat} {us : List U} (h : URow W g us) (o : Obj) : URow (W.alloc o) g us := h.keep (Below.heap_alloc W o g h.lt)
theorem URow.at0 {W : World} {g : Nat} {us : List U} (h : URow W g us) {k : Nat} {c p n : Nat} {b : Bool} (hk : k < us.length) (hc : us[k] = ⟨c, p, n⟩) (hb : (!badU us[k]) = b) :
    W.cell? ⟨g, k * 4, none⟩ = some (.int .i32 (c : Int)) ∧ W.cell? ⟨g, k * 4 + 1, none⟩ = some (.int .i64 (p : Int)) ∧ W.cell? ⟨g, k * 4 + 2, none⟩ = some (.int .i64 (n : Int)) ∧ W.cell? ⟨g, k * 4 + 3, none⟩ = some (.bool b) := by
  obtain ⟨cur, h1, h2⟩ := h
  have e0 := h2 k 0 hk (by omega)
  have e1 := h2 k 1 hk (by omega)
  have e2 := h2 k 2 hk (by omega)
  have e3 := h2 k 3 hk (by omega)
  rw [hc] at e0 e1 e2 e3 hb
  refine ⟨cell_of h1 e0, cell_of h1 e1, cell_of h1 e2, cell_of h1 (e3.trans ?_)⟩
  rw [← hb]; rfl

theorem refUnits_row (s : ByteArray) (hs : s.size ≤ 2000) (w : World) :
    Calls Tryd.prog 29 #[.string s] w fun e w' => (e = .returned (.slice none 0 0) ∧ units s = [] ∧ Below w.heap.size w w') ∨
      (∃ g cap, e = .returned (.slice (some ⟨g, 0, none⟩) (units s).length cap) ∧ w.heap.size ≤ g ∧ URow w' g (units s) ∧ Below w.heap.size w w') := by
  refine (refUnits_any s hs w).mono ?_
  rintro e w' ⟨v, rfl, hown, hb⟩
  rcases hown.2 with ⟨rfl, h0⟩ | ⟨g, cap, cur, rfl, hbg, hg, _, _, _, ht⟩
  · exact .inl ⟨rfl, List.length_eq_zero_iff.1 h0, hb⟩
  · refine .inr ⟨g, cap, rfl, hbg, ⟨cur, hg, fun k j hk hj => ?_⟩, hb⟩
    rw [← fm4_at fulU_len (units s) k j hk hj, ← ht, List.getElem?_take, if_pos (by omega)]
    simp


attribute [local go_sem] Oper.semAt_some

theorem cell_alloc_p {W : World} {a : Addr} {v : Value} (o : Obj) (h : W.cell? a = some v) : (W.alloc o).cell? a = some v := cell_kept h (World.grownBy_alloc W o none) (fun r e => by cases e)
theorem takeWhile_congr {α : Type} (f g : α → Bool) : ∀ (l : List α), (∀ x ∈ l, f x = g x) → l.takeWhile f = l.takeWhile g
  | [], _ => rfl
  | a :: l, h => by
    rw [List.takeWhile_cons, List.takeWhile_cons, h a (by simp), takeWhile_congr f g l (fun x hx => h x (by simp [hx]))]

/-- The result cell, the position so far, the row. -/
def RPos (w : World) (g : Nat) (us : List U) (q : Nat × Nat) (wr : World) : Prop :=
  wr.heap[w.heap.size]? = some (.cells #[.int .i64 0, .int .i64 0] 25 (0, 0)) ∧ wr.heap[w.heap.size + 1]? = some (.cells (posV q) 25 (0, 0)) ∧ URow wr g us ∧ Below w.heap.size w wr
theorem RPos.alloc {w wr : World} {g : Nat} {us : List U} {q : Nat × Nat} (h : RPos w g us q wr) (o : Obj) : RPos w g us q (wr.alloc o) :=
  ⟨block_alloc _ h.1, block_alloc _ h.2.1, h.2.2.1.alloc _, h.2.2.2.alloc h.2.2.2.size _⟩
theorem RPos.col {w wr : World} {g : Nat} {us : List U} {q1 q2 : Nat} (hg : w.heap.size + 2 ≤ g) (h : RPos w g us (q1, q2) wr) (v : Nat) : RPos w g us (q1, v) (wr.setCell ⟨w.heap.size + 1, 1, none⟩ (.int .i64 (v : Int))) :=
  ⟨block_other _ h.1 (by omega), block_setU _ h.2.1, h.2.2.1.keep (Below.heap_setCell wr ⟨w.heap.size + 1, 1, none⟩ _ g (by show g ≠ w.heap.size + 1; omega)), h.2.2.2.setCell (p := ⟨w.heap.size + 1, 1, none⟩) (by simp) _⟩
theorem RPos.line {w wr : World} {g : Nat} {us : List U} {q1 q2 : Nat} (hg : w.heap.size + 2 ≤ g) (h : RPos w g us (q1, q2) wr) (v : Nat) : RPos w g us (v, q2) (wr.setCell ⟨w.heap.size + 1, 0, none⟩ (.int .i64 (v : Int))) :=
  ⟨block_other _ h.1 (by omega), block_setU _ h.2.1, h.2.2.1.keep (Below.heap_setCell wr ⟨w.heap.size + 1, 0, none⟩ _ g (by show g ≠ w.heap.size + 1; omega)), h.2.2.2.setCell (p := ⟨w.heap.size + 1, 0, none⟩) (by simp) _⟩

/-- What a round leaves that goes on. -/
theorem rpos_step {w wr : World} {g : Nat} {us : List U} {k c p n : Nat} (hg : w.heap.size + 2 ≤ g) (hk : k < us.length) (hx : us[k] = ⟨c, p, n⟩) {q1 q2 : Nat} (hq : posP (us.take k) = (q1, q2)) (o : Obj) (h : RPos w g us (q1, q2) wr) :
    (c = 10 → RPos w g us (posP (us.take (k + 1))) ((((wr.alloc o).setCell ⟨w.heap.size + 1, 1, none⟩ (.int .i64 ((q2 : Int) + 1))).setCell ⟨w.heap.size + 1, 0, none⟩ (.int .i64 ((q1 : Int) + 1))).setCell ⟨w.heap.size + 1, 1, none⟩ (.int .i64 1))) ∧
    (c ≠ 10 → RPos w g us (posP (us.take (k + 1))) ((wr.alloc o).setCell ⟨w.heap.size + 1, 1, none⟩ (.int .i64 ((q2 : Int) + 1)))) := by
  rw [List.take_succ_eq_append_getElem hk, posP_snoc, hq, hx]
  have h1 := (h.alloc o).col hg (q2 + 1)
  constructor
  · intro hc
    unfold stepP
    rw [if_pos hc]
    exact (h1.line hg (q1 + 1)).col hg 1
  · intro hc
    unfold stepP
    rw [if_neg hc]
    exact h1
/-- At the loop's start. -/
theorem rpos_start {w w1 : World} {g : Nat} {us : List U} (hrow : URow w1 g us)
    (hb : Below ((w.alloc (.cells #[.int .i64 0, .int .i64 0] 25)).alloc (.cells #[.int .i64 1, .int .i64 1] 25)).heap.size ((w.alloc (.cells #[.int .i64 0, .int .i64 0] 25)).alloc (.cells #[.int .i64 1, .int .i64 1] 25)) w1) : RPos w g us (1, 1) w1 := by
  have h1 := block_alloc (.cells #[.int .i64 1, .int .i64 1] 25) (block_new w (.cells #[.int .i64 0, .int .i64 0] 25))
  have h2 := block_new (w.alloc (.cells #[.int .i64 0, .int .i64 0] 25)) (.cells #[.int .i64 1, .int .i64 1] 25)
  have hz : ((w.alloc (.cells #[.int .i64 0, .int .i64 0] 25)).alloc (.cells #[.int .i64 1, .int .i64 1] 25)).heap.size = w.heap.size + 2 := by simp
  have hz1 : (w.alloc (.cells #[.int .i64 0, .int .i64 0] 25)).heap.size = w.heap.size + 1 := by simp
  rw [hz1] at h2
  have hbb := ((Below.refl w.heap.size w).alloc (Nat.le_refl _) (.cells #[.int .i64 0, .int .i64 0] 25)).alloc (by rw [hz1]; omega) (.cells #[.int .i64 1, .int .i64 1] 25)
  rw [hz] at hb
  exact ⟨block_below h1 hb (by omega), block_below h2 hb (by omega), hrow, hbb.trans (hb.mono (by omega))⟩
/-- The result is laid. -/
theorem rpos_end {w wr : World} {g : Nat} {us : List U} {q : Nat × Nat} (h : RPos w g us q wr) :
    ((wr.setCell ⟨w.heap.size, 0, none⟩ (.int .i64 (q.1 : Int))).setCell ⟨w.heap.size, 1, none⟩ (.int .i64 (q.2 : Int))).heap[w.heap.size]? = some (.cells (posV q) 25 (0, 0)) ∧
    Below w.heap.size w ((wr.setCell ⟨w.heap.size, 0, none⟩ (.int .i64 (q.1 : Int))).setCell ⟨w.heap.size, 1, none⟩ (.int .i64 (q.2 : Int))) :=
  ⟨block_setU _ (block_setU _ h.1), (h.2.2.2.setCell (p := ⟨w.heap.size, 0, none⟩) (by simp) _).setCell (p := ⟨w.heap.size, 1, none⟩) (by simp) _⟩

/-- The same where there is no unit. -/
def RNil (w wr : World) : Prop :=
  wr.heap[w.heap.size]? = some (.cells #[.int .i64 0, .int .i64 0] 25 (0, 0)) ∧ wr.heap[w.heap.size + 1]? = some (.cells #[.int .i64 1, .int .i64 1] 25 (0, 0)) ∧ Below w.heap.size w wr
theorem rnil_start {w w1 : World}
    (hb : Below ((w.alloc (.cells #[.int .i64 0, .int .i64 0] 25)).alloc (.cells #[.int .i64 1, .int .i64 1] 25)).heap.size ((w.alloc (.cells #[.int .i64 0, .int .i64 0] 25)).alloc (.cells #[.int .i64 1, .int .i64 1] 25)) w1) : RNil w w1 := by
  have h1 := block_alloc (.cells #[.int .i64 1, .int .i64 1] 25) (block_new w (.cells #[.int .i64 0, .int .i64 0] 25))
  have h2 := block_new (w.alloc (.cells #[.int .i64 0, .int .i64 0] 25)) (.cells #[.int .i64 1, .int .i64 1] 25)
  have hz : ((w.alloc (.cells #[.int .i64 0, .int .i64 0] 25)).alloc (.cells #[.int .i64 1, .int .i64 1] 25)).heap.size = w.heap.size + 2 := by simp
  have hz1 : (w.alloc (.cells #[.int .i64 0, .int .i64 0] 25)).heap.size = w.heap.size + 1 := by simp
  rw [hz1] at h2
  have hbb := ((Below.refl w.heap.size w).alloc (Nat.le_refl _) (.cells #[.int .i64 0, .int .i64 0] 25)).alloc (by rw [hz1]; omega) (.cells #[.int .i64 1, .int .i64 1] 25)
  rw [hz] at hb
  exact ⟨block_below h1 hb (by omega), block_below h2 hb (by omega), hbb.trans (hb.mono (by omega))⟩
theorem rnil_end {w wr : World} (h : RNil w wr) :
    ((wr.setCell ⟨w.heap.size, 0, none⟩ (.int .i64 1)).setCell ⟨w.heap.size, 1, none⟩ (.int .i64 1)).heap[w.heap.size]? = some (.cells #[.int .i64 1, .int .i64 1] 25 (0, 0)) ∧
    Below w.heap.size w ((wr.setCell ⟨w.heap.size, 0, none⟩ (.int .i64 1)).setCell ⟨w.heap.size, 1, none⟩ (.int .i64 1)) :=
  ⟨block_setU _ (block_setU _ h.1), (h.2.2.setCell (p := ⟨w.heap.size, 0, none⟩) (by simp) _).setCell (p := ⟨w.heap.size, 1, none⟩) (by simp) _⟩

set_option maxRecDepth 100000 in
set_option maxHeartbeats 1000000 in
/-- Position, its offset already within the string. -/
theorem refPosition_in (s : ByteArray) (hs : s.size ≤ 2000) (at' : Int) (h0 : 0 ≤ at') (h1 : at' ≤ (s.size : Int)) (w : World) :
    Calls Tryd.prog 14 #[.string s, .int .i64 at'] w fun e w' => e = .returned (.agg (posV (posP (before s at')))) ∧ Below w.heap.size w w' := by
  have HU := Lib.hid (fun w => refUnits_row s hs w)
  have hul := units_le s
  unfold before
  obtain ⟨us, hus⟩ : ∃ us, units s = us := ⟨_, rfl⟩
  rw [hus] at HU hul ⊢
  have hn : us.length ≤ 2000 := by omega
  clear hul hus
  have h2 : ¬ at' < 0 := by omega
  have h3 : ¬ (s.size : Int) < at' := by omega
  go_enter Tryd.func14, Tryd.ntmps14
  go_wp2_with fail
  refine (HU.out _).mono ?_
  rintro e w1 (⟨rfl, rfl, hb⟩ | ⟨g, cap, rfl, hg, hrow, hb⟩)
  · have hR : RNil w w1 := rnil_start hb
    have HR := Lib.hid hR
    clear hb
    go_wp2_with fail
    go_loopw [17] (fun i wr => i = .int .i64 0 ∧ RNil w wr) (fun _ _ => 0)
    case atStart => exact ⟨rfl, HR.out⟩
    case round =>
      obtain ⟨rfl, hrow⟩ := hrel
      have b1 := hrow.2.1
      have b0 := hrow.1
      have cL := cell_of (i := 0) (v := .int .i64 1) b1 rfl
      have cC := cell_of (i := 1) (v := .int .i64 1) b1 rfl
      have e0 := cell_of (i := 0) (v := .int .i64 0) b0 rfl
      have e1 := cell_of (i := 1) (v := .int .i64 0) b0 rfl
      have g0 := frozen_of (i := 0) b0
      have g1 := frozen_of (i := 1) b0
      have HE := Lib.hid (rnil_end hrow)
      clear hrow b0 b1
      go_wp2
      obtain ⟨hb5, hB5⟩ := HE.out
      have x0 := cell_of (i := 0) (v := .int .i64 1) hb5 rfl
      have x1 := cell_of (i := 1) (v := .int .i64 1) hb5 rfl
      refine bodyPost_ret (v := .agg (posV (1, 1))) ?_ rfl ⟨rfl, hB5⟩
      simp [results, Tryd.f14, go_sem, x0, x1, posV]
  · have hR : RPos w g us (1, 1) w1 := rpos_start hrow hb
    have HR := Lib.hid hR
    have hg2 : w.heap.size + 2 ≤ g := by simpa using hg
    clear hb hrow hR
    go_wp2_with fail
    go_loopw [17] (fun i wr => ∃ k : Nat, k ≤ us.length ∧ i = .int .i64 k ∧ RPos w g us (posP (us.take k)) wr ∧ ∀ x ∈ us.take k, decide ((x.p : Int) < at') = true) (fun i _ => us.length - (Go.RowKit.intOf i).toNat)
    case atStart => exact ⟨0, Nat.zero_le _, rfl, HR.out, fun _ h => by simp at h⟩
    case round =>
      obtain ⟨k, hk, rfl, hrow, hall⟩ := hrel
      obtain ⟨q1, q2, hq⟩ : ∃ q1 q2, posP (us.take k) = (q1, q2) := ⟨_, _, rfl⟩
      have hql := posP_le (us.take k)
      rw [hq] at hrow hql
      have hq1 : q1 ≤ 2001 := by have := List.length_take_le k us; simp only at hql; omega
      have hq2 : q2 ≤ 2001 := by have := List.length_take_le k us; simp only at hql; omega
      have b1 := hrow.2.1
      have b0 := hrow.1
      have cL := cell_of (i := 0) (v := .int .i64 (q1 : Int)) b1 rfl
      have cC := cell_of (i := 1) (v := .int .i64 (q2 : Int)) b1 rfl
      by_cases hlt : k < us.length
      · obtain ⟨b, hbad⟩ : ∃ b, (!badU us[k]) = b := ⟨_, rfl⟩
        obtain ⟨l0, l1, l2, l3⟩ := hrow.2.2.1.at0 (c := us[k].c) (p := us[k].p) (n := us[k].w) hlt rfl hbad
        have cL2 := fun o => cell_alloc_p o cL
        have cC2 := fun o => cell_alloc_p o cC
        have fL := fun o => frozen_of (i := 0) (block_alloc o b1)
        have fC := fun o => frozen_of (i := 1) (block_alloc o b1)
        have e0 := fun o => cell_alloc_p o (cell_of (i := 0) (v := .int .i64 0) b0 rfl)
        have e1 := fun o => cell_alloc_p o (cell_of (i := 1) (v := .int .i64 0) b0 rfl)
        have g0 := fun o => frozen_of (i := 0) (block_alloc o b0)
        have g1 := fun o => frozen_of (i := 1) (block_alloc o b0)
        have hen := fun o => rpos_end (hrow.alloc o)
        have hst := fun o => rpos_step hg2 hlt (c := us[k].c) (p := us[k].p) (n := us[k].w) rfl hq o hrow
        have htw : decide ((us[k].p : Int) < at') = false → us.takeWhile (fun u => decide ((u.p : Int) < at')) = us.take k := fun h => by
          have := takeWhile_stop (fun u : U => decide ((u.p : Int) < at')) us[k] (us.drop (k + 1)) (us.take k) hall h
          rw [← List.drop_eq_getElem_cons hlt, List.take_append_drop] at this
          exact this
        have hall2 : decide ((us[k].p : Int) < at') = true → ∀ x ∈ us.take (k + 1), decide ((x.p : Int) < at') = true := fun h x hx => by
          rw [List.take_succ_eq_append_getElem hlt] at hx
          rcases List.mem_append.1 hx with hx | hx
          · exact hall x hx
          · rw [List.mem_singleton.1 hx]; exact h
        obtain ⟨c, hc⟩ : ∃ c, us[k].c = c := ⟨_, rfl⟩
        obtain ⟨p, hp⟩ : ∃ p, us[k].p = p := ⟨_, rfl⟩
        obtain ⟨n, hn'⟩ : ∃ n, us[k].w = n := ⟨_, rfl⟩
        rw [hc] at l0 hst
        rw [hp] at l1 htw hall2
        rw [hn'] at l2
        have HT := Lib.hid hst
        have HW := Lib.hid htw
        have HE := Lib.hid hen
        have HA := Lib.hid hall2
        have HRR := Lib.hid hrow
        have HQ := Lib.hid hq
        have hlt2 : k < us.length := hlt
        clear hst htw hen hall2 hrow hq hql hall hc hp hn' hbad b0 b1
        by_cases hpa : (p : Int) < at'
        · by_cases h10 : c = 10
          · subst h10
            go_wp2
            go_roundw
            case rel => exact ⟨k + 1, by omega, by go_num, (HT.out _).1 rfl, HA.out (decide_eq_true hpa)⟩
            case measure => simp [Go.RowKit.intOf]; omega
          · have h11 : ((c : Int) == 10) = false := by rw [beq_eq_false_iff_ne]; omega
            go_wp2
            go_roundw
            case rel => exact ⟨k + 1, by omega, by go_num, (HT.out _).2 h10, HA.out (decide_eq_true hpa)⟩
            case measure => simp [Go.RowKit.intOf]; omega
        · have hpa2 : at' ≤ (p : Int) := by omega
          go_wp2
          obtain ⟨hb5, hB5⟩ := HE.out (Obj.cells #[Value.int IntKind.i32 ↑c, Value.int IntKind.i64 ↑p, Value.int IntKind.i64 ↑n, Value.bool b] 73)
          have x0 := cell_of (i := 0) (v := .int .i64 (q1 : Int)) hb5 rfl
          have x1 := cell_of (i := 1) (v := .int .i64 (q2 : Int)) hb5 rfl
          refine bodyPost_ret (v := .agg (posV (q1, q2))) ?_ rfl ⟨?_, hB5⟩
          · simp [results, Tryd.f14, go_sem, x0, x1, posV]
          · rw [HW.out (decide_eq_false (by omega)), HQ.out]
      · have e0 := cell_of (i := 0) (v := .int .i64 0) b0 rfl
        have e1 := cell_of (i := 1) (v := .int .i64 0) b0 rfl
        have g0 := frozen_of (i := 0) b0
        have g1 := frozen_of (i := 1) b0
        have hkk : k = us.length := by omega
        have htw : us.takeWhile (fun u => decide ((u.p : Int) < at')) = us := takeWhile_all _ _ (fun x hx => hall x (by rw [hkk, List.take_length]; exact hx))
        have hqq : posP us = (q1, q2) := by rw [← hq, hkk, List.take_length]
        have HE := Lib.hid (rpos_end hrow)
        have HW := Lib.hid htw
        have HQ := Lib.hid hqq
        clear htw hqq hrow hq hql hall b0 b1
        go_wp2
        obtain ⟨hb5, hB5⟩ := HE.out
        have x0 := cell_of (i := 0) (v := .int .i64 (q1 : Int)) hb5 rfl
        have x1 := cell_of (i := 1) (v := .int .i64 (q2 : Int)) hb5 rfl
        refine bodyPost_ret (v := .agg (posV (q1, q2))) ?_ rfl ⟨?_, hB5⟩
        · simp [results, Tryd.f14, go_sem, x0, x1, posV]
        · rw [HW.out, HQ.out]
end Go.Proofs.YtjialelklnjcfaaDoor
