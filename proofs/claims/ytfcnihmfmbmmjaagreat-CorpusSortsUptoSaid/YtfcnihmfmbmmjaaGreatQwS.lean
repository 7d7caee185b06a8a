/-
  CorpusSorts is proved: for every list of regions the call of the law returns true, and each argument reads afterwards as it read before. It speaks of inputs up to the bulk that the statement names.
-/
import Derived.Test.YtfcnihmfmbmmjaaGreatRows
import Derived.Test.YtfcnihmfmbmmjaaGreatOqU
import Derived.Test.YtfcnihmfmbmmjaaGreatQxC
import Derived.Test.YtfcnihmfmbmmjaaGreatQxD
import Derived.Test.YtfcnihmfmbmmjaaGreatQsB
import Derived.Test.YtfcnihmfmbmmjaaGreatQmV
import Derived.Test.YtfcnihmfmbmmjaaGreatQmE
import Derived.ProofKit
import Derived.OpenShut
import Derived.Carry
import Derived.JoinedCond
namespace Go.Proofs.YtfcnihmfmbmmjaaGreat.corpusSorts
open Go.ChangeShapes Go.WideShapes Go.ChangeAt Go.RowKit Go.Shelf Go.Lib
set_option linter.unusedVariables false

attribute [local go_sem ↓] Go.wp_at_zero Go.wp_at_succ
section
variable {H : Type} {enc : TypeId × Value → H}
set_option maxRecDepth 100000 in
theorem open_regs {W : World} {r : Reach} {b0 : Nat} {v : Value} {d : DataW H} {p : List MemPlace} (hv : Value.okWide Tryz.prog W r b0 25 v) (h : DataW.Trod enc Tryz.prog W 0 (fun _ => true) true 25 v d p) :
    ∃ l : List Ex, Rows 4 EEx W v l ∧ l.length ≤ maxLen ∧ (∀ y ∈ l, rEx y) ∧ (l.map wEx).sum + 1 ≤ Rows.uptoBulk d := by
  obtain ⟨a, len, cap, rfl⟩ := okWide_slice Tryz.underlying25 hv
  obtain ⟨fuel, hf⟩ := h
  obtain ⟨v', ys, hc, hr, hl, hq, hs⟩ := open_rows (E := EEx) (sz := 4) Tryz.underlying25 (by kernel_rfl) (by decide) rEx wEx el_reg hf
  simp only [Value.cells, List.cons.injEq, and_true] at hc
  subst hc
  exact ⟨ys, hr, hl, hq, hs⟩
end
theorem cor_regs {W : World} {v : Value} {ys : List Ex} (h : Rows 4 EEx W v ys) : CorAt W ⟨.slice none 0 0, .slice none 0 0, .slice none 0 0, v, .slice none 0 0, .slice none 0 0, .slice none 0 0⟩ ⟨[], [], [], ys, [], [], []⟩ := ⟨Rows.nil W, Rows.nil W, Rows.nil W, h, Rows.nil W, Rows.nil W, Rows.nil W⟩
theorem len_regs {l : List Ex} (hl : l.length ≤ maxLen) (h : ∀ x ∈ l, x.ps.length ≤ maxLen) : LenC ⟨[], [], [], l, [], [], []⟩ := ⟨Nat.zero_le _, ⟨Nat.zero_le _, by simp⟩, ⟨Nat.zero_le _, by simp⟩, ⟨hl, h⟩, Nat.zero_le _, Nat.zero_le _⟩
theorem sortR_length (l : List Ex) : (sortR l).length = l.length := by
  have := sortR_len l l.length (Nat.le_refl _)
  rwa [List.take_length] at this
theorem sortR_in {l : List Ex} {y : Ex} (h : y ∈ sortR l) : y ∈ l := by
  have := sortR_mem (l := l) (y := y) l.length
  rw [List.take_length] at this
  exact this h
theorem sum_ps : ∀ l : List (Bs × Bs), l.length * 3 ≤ (l.map wPair).sum
  | [] => by simp
  | p :: l => by
    have := sum_ps l
    simp only [List.map_cons, List.sum_cons, List.length_cons, wPair]
    omega
theorem sum_in {α : Type} (μ : α → Nat) {l : List α} {x : α} (h : x ∈ l) : μ x ≤ (l.map μ).sum := by
  induction l with
  | nil => cases h
  | cons y l ih =>
    rw [List.map_cons, List.sum_cons]
    rcases List.mem_cons.1 h with rfl | h
    · omega
    · have := ih h; omega
set_option maxRecDepth 1000000 in
set_option maxHeartbeats 8000000 in
theorem walk {w : World} (v : Value) (l : List Ex) (hV : Rows 4 EEx w v l) (hl : l.length ≤ maxLen) (hr : ∀ y ∈ l, rEx y) (hbk : (l.map wEx).sum + 1 ≤ 1048576) :
    Calls Tryz.prog 4 #[v] w fun e w1 => e = .returned (.bool true) ∧ Below w.heap.size w w1 := by
  have hps : ∀ x ∈ l, x.ps.length ≤ 400000 := fun x hx => by
    have h1 := sum_in wEx hx
    have h2 := sum_ps x.ps
    unfold wEx at h1
    unfold wEx at hbk
    omega
  have hpm : ∀ x ∈ l, x.ps.length ≤ maxLen := fun x hx => by have := hps x hx; unfold maxLen; omega
  have hm1 := fun W (h : Below w.heap.size w W) (hl3 : l.length ≤ 10000) => sortRegions_any (hV.below stays_ex h) hl3 hps
  have hm2 := fun W (h : Below w.heap.size w W) (hl3 : l.length ≤ 10000) => refSort_any (hV.below stays_ex h) hl3 hpm
  have hlY : LenC ⟨[], [], [], sortR l, [], [], []⟩ := len_regs (by rw [sortR_length]; exact hl) fun x hx => hpm x (sortR_in hx)
  have hhv := fun (W : World) (v : Value) (hv : Rows 7 ECr W v [(⟨[], [], [], l, [], [], []⟩ : Cor)]) => heavyW_any hv (by simp) (fun x hx => by rw [List.mem_singleton.1 hx]; exact len_regs hl hpm)
  obtain ⟨A, cap, rfl, hc⟩ := hV.form
  obtain ⟨n, hn⟩ : ∃ n, l.length = n := ⟨_, rfl⟩
  have hys := sortR_length l
  obtain ⟨ys, hy⟩ : ∃ ys, sortR l = ys := ⟨_, rfl⟩
  rw [hy, hn] at hys
  rw [hn] at hV hm1 hm2 ⊢
  rw [hy] at hm1 hm2 hlY
  obtain ⟨N0, hN0⟩ : ∃ N0, w.heap.size = N0 := ⟨_, rfl⟩
  obtain ⟨X, hX⟩ : ∃ X, w.alloc (.cells #[.slice none 0 0, .slice none 0 0, .slice none 0 0, .slice A n cap, .slice none 0 0, .slice none 0 0, .slice none 0 0] 30) = X := ⟨_, rfl⟩
  have hbX : Below w.heap.size w X := by rw [← hX]; exact below_box w _
  have x1 : X.heap[N0]? = some (.cells #[.slice none 0 0, .slice none 0 0, .slice none 0 0, .slice A n cap, .slice none 0 0, .slice none 0 0, .slice none 0 0] 30 (0, 0)) := by rw [← hX, ← hN0]; exact block_new w _
  have hrow : Rows 7 ECr X (.slice (some ⟨N0, 0, none⟩) 1 1) [(⟨[], [], [], l, [], [], []⟩ : Cor)] := rows_block x1 _ _ rfl fun j x hx => by
    match j, hx with
    | 0, hx => cases hx; exact ⟨_, rfl, ⟨⟨.slice none 0 0, .slice none 0 0, .slice none 0 0, .slice A n cap, .slice none 0 0, .slice none 0 0, .slice none 0 0⟩, rfl, cor_regs (hV.below stays_ex hbX)⟩, rfl⟩
  have HHV := Lib.hid (hhv X _ hrow)
  have HX := Lib.hid hX
  have HBX0 := Lib.hid hbX
  have HN0 := Lib.hid hN0
  have HM1 := Lib.hid hm1
  have HM2 := Lib.hid hm2
  have HLY := Lib.hid hlY
  have HYS := Lib.hid hys
  have HNN := Lib.hid hn
  clear hm1 hm2 hlY hhv hV hr hrow hX hbX hN0 x1 hy hys hn hc hps hpm hbk hl
  go_enter Tryz.func4, Tryz.ntmps4
  go_wp2_with fail
  rw [HX.out, HN0.out]
  refine HHV.out.mono ?_
  rintro e w2 ⟨q, rfl, hb2, hq⟩
  have HB2 := Lib.hid (HBX0.out.trans (hb2.mono HBX0.out.size))
  cases q with
  | true =>
    clear hb2 hq
    go_wp2_with fail
    go_ret
    exact ⟨rfl, HB2.out⟩
  | false =>
    have HL3 : Hid (n ≤ 10000) := Lib.hid (by have b := (hq rfl _ (List.mem_singleton.2 rfl)).2.2.1; simp only at b; have := HNN.out; omega)
    clear hb2 hq HHV
    go_wp2_with fail
    refine (HM1.out _ HB2.out HL3.out).mono ?_
    rintro e w3 ⟨A3, c3, he3, hr3, hb3⟩
    rw [HYS.out] at he3 hr3
    subst he3
    have HB3 := Lib.hid (HB2.out.trans (hb3.mono HB2.out.size))
    have HR3 := Lib.hid hr3
    clear hb3 hr3
    go_wp2_with fail
    refine (HM2.out _ HB3.out HL3.out).mono ?_
    rintro e w4 ⟨A4, c4, he4, hr4, hb4⟩
    rw [HYS.out] at he4 hr4
    subst he4
    have heq := refEqual_any _ _ (cor_regs (HR3.out.below stays_ex hb4)) (cor_regs hr4) HLY.out HLY.out (Nat.zero_le _)
    simp only [Sv.arr, decide_true] at heq
    have HEQ := Lib.hid heq
    have HB4 := Lib.hid (HB3.out.trans (hb4.mono HB3.out.size))
    clear hb4 hr4 heq
    go_wp2_with fail
    refine HEQ.out.mono ?_
    rintro e w5 ⟨rfl, hb5⟩
    have HB5 := Lib.hid (HB4.out.trans (hb5.mono HB4.out.size))
    clear hb5 HEQ
    go_wp2_with fail
    refine (awake_any w5).mono ?_
    rintro e w6 ⟨rfl, hb6⟩
    have HB6 := Lib.hid (HB5.out.trans (hb6.mono HB5.out.size))
    clear hb6
    go_wp2_with fail
    go_ret
    exact ⟨rfl, HB6.out⟩

theorem own : ownKnob Tryz.prog.godebug = none := by kernel_rfl

set_option maxRecDepth 100000 in
theorem lifted (os : Os) (started : os.Started) (H : Type) (enc : TypeId × Value → H) (IP : Stop.Interp) :
    ReturnsInHanded {} Tryz.checked os 4 .any ((Rows.OpenSpec.upto Rows.corpusSortsSpec).pre6 enc Tryz.prog Tryz.f4 Rows.corpusSortsUptoRow.domain false) (((Rows.OpenSpec.upto Rows.corpusSortsSpec).at IP).post enc Tryz.prog Tryz.f4 false true false false) := by
  refine returnsInHanded_of_cond (C := Tryz.checked) (s := Rows.OpenSpec.upto Rows.corpusSortsSpec) (k := Rows.uptoSmall) rfl own started (by kernel_rfl) Tryz.func4
    (OpenSpec.witness (enc := enc) (C := Tryz.checked) (s := Rows.OpenSpec.upto Rows.corpusSortsSpec) (k := Rows.uptoSmall) rfl false ⟨#[], #[.slice none 0 0], []⟩ 8 (by kernel_rfl) (by kernel_rfl) (by kernel_rfl)
      (x := ([.nil], [], [])) (by kernel_rfl) rfl (by kernel_rfl)) ?_
  intro W base args ds gs before hval0 hW _ hk _
  show Calls Tryz.prog 4 args W fun e W' => ∃ v, e = .returned v ∧ Rows.corpusSortsSpec.post enc Tryz.prog Tryz.f4 false true false false W args v W'
  have hval : ∀ (j : Nat) t v, Tryz.f4.params[j]? = some t → args[j]? = some v → Value.okWide Tryz.prog W .any base t v := hval0
  have hW' := hW
  have hplt : ∀ x ∈ before, x.block < W.heap.size := fun x hx => hW.lt x hx
  obtain ⟨p, q, hA0, hV, rfl, hfz, hnd⟩ := hW
  have hA : DataW.TrodAll enc Tryz.prog W 0 (fun _ => true) true Tryz.f4.params.toList args.toList ds p := hA0
  rw [Tryz.params4] at hA hval
  obtain ⟨v0, vs0, d0, ds0, p0, q0, hargs, rfl, rfl, h0, r0⟩ := trodAll_cons hA
  obtain ⟨rfl, rfl, rfl⟩ := trodAll_nil r0
  obtain rfl : args = #[v0] := by cases args; simp_all
  obtain ⟨rfl, rfl⟩ := trodVars_none hV
  obtain ⟨l0, k0, m0, n0, z0⟩ := open_regs (hval 0 25 v0 rfl rfl) h0
  clear hA0 hval0
  have hbk : Rows.uptoBulkAll _ ≤ 1048576 := of_decide_eq_true hk
  simp only [List.append_nil, Rows.uptoBulkAll] at hbk
  refine (walk v0 l0 k0 m0 n0 (by omega)).mono fun e W' ⟨he, bel⟩ => ?_
  subst he
  exact ⟨_, rfl, _, _, _, [], _, [], hW', trodAll_mk1 (shut_bool Tryz.underlying4 _), (trodAll_cons_mk (Below.trod Tryz.laidOut (by kernel_rfl) (of_decide_eq_true (by kernel_rfl)) h0 bel (fun x hx => hplt x (by simp [hx]))) trodAll_mk0), rfl, World.keptBut_mono (fun x hx => ⟨hx, Or.inr (by simpa using hx)⟩) (bel.frame (· ∈ _)), fun h => by cases h⟩

/-- THE STATEMENT: up to the bulk. -/
theorem proved : Rows.CorpusSortsUptoSaid :=
  OpenClaim.holds_of_cond 4 Tryz.f4 rfl rfl rfl rfl rfl rfl rfl ⟨rfl, rfl, rfl, rfl, rfl⟩ rfl rfl rfl rfl rfl (by kernel_rfl) Tryz.func4 (by kernel_rfl)
    (of_decide_eq_true (by kernel_rfl)) (by unfold Func.isWrapper; first | (rw [if_pos (by decide +kernel)]; kernel_rfl) | (rw [if_neg (by decide +kernel)]; exact ⟨rfl, rfl⟩))
    (fun os started H enc _ IP => lifted os started H enc IP)
end Go.Proofs.YtfcnihmfmbmmjaaGreat.corpusSorts
