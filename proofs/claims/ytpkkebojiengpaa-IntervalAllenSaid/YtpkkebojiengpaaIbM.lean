/-
  WALKS over package interval: choose, Within, Containing, Overlapping.
-/
import Derived.Test.YtpkkebojiengpaaIbL
namespace Go.Proofs.Ytpkkebojiengpaa
open Go.RowKit Go.Shelf Go.Lib
set_option linter.unusedVariables false
set_option linter.unusedSimpArgs false

theorem own_base {w : World} {b1 b2 : Nat} {e : TypeId} {size n : Nat} {v : Value} {xs : List Value} (h : w.ownsRow b2 e size v n xs) (hb : b1 ≤ b2) : w.ownsRow b1 e size v n xs := by
  rcases h.2 with hn | ⟨g, cap, cur, hv, hg, rest⟩
  · exact ⟨h.1, .inl hn⟩
  · exact ⟨h.1, .inr ⟨g, cap, cur, hv, Nat.le_trans hb hg, rest⟩⟩

set_option maxHeartbeats 1000000 in
theorem choose1_any {w : World} (fn : FuncId) (lb : Array Value) (eg : ∀ args w, (callFunc fn args).run Try.prog w = .ok (.enter fn args) w) (B : Nat) (hB : w.cell? ⟨B, 0, none⟩ = some (.func (.func fn) #[] lb)) (s : Sp) (q : Bool)
    (hp : ∀ W, Below w.heap.size w W → Calls Try.prog fn (#[.agg #[.int .i64 s.1, .int .i64 s.2]] ++ lb) W (BoolV W q)) :
    Calls Try.prog 52 (#[.agg #[.int .i64 s.1, .int .i64 s.2]] ++ #[.pointer (some ⟨B, 0, none⟩)]) w (BoolV w (!q)) := by
  have hBB : B < w.heap.size := World.block_lt_of_cell? _ _ hB
  obtain ⟨b, e⟩ := s
  simp only at hp ⊢
  obtain ⟨X, N, hX, hN, hbX, hNX, hcell⟩ := box1 w b e
  have HP := Lib.hid (hp X (by rw [hN]; exact hbX))
  have d0 := (hbX.cell (p := ⟨B, 0, none⟩) (by rw [← hN]; exact hBB)).trans hB
  obtain ⟨c0, c1⟩ := hcell X (Below.refl _ _)
  have HX := Lib.hid hX
  have HN := Lib.hid hN
  have HBX := Lib.hid (And.intro hbX hNX)
  unfold BoolV
  rw [hN]
  clear hp hX hN hbX hNX hcell hB hBB
  go_enter Try.func52, Try.ntmps52
  go_upto_region 1 with fail
  rw [HX.out, HN.out]
  go_wp2_with (go_at_fn fn; refine HP.out.mono ?_; rintro e w2 ⟨rfl, hb2⟩; have HB2 := Lib.hid (HBX.out.1.trans (hb2.mono HBX.out.2)); clear hb2)
  go_ret
  exact ⟨rfl, HB2.out⟩

set_option maxRecDepth 100000 in
set_option maxHeartbeats 1000000 in
theorem choose_any {w : World} {v : Value} {l : List Sp} (hv : Rows 2 ESp w v l) (hl : l.length ≤ 1000000) (fn : FuncId) (lb : Array Value) (eg : ∀ args w, (callFunc fn args).run Try.prog w = .ok (.enter fn args) w) (p : Sp → Bool)
    (hp : ∀ W x, Below w.heap.size w W → x ∈ l → Calls Try.prog fn (#[.agg #[.int .i64 x.1, .int .i64 x.2]] ++ lb) W (BoolV W (p x))) :
    Calls Try.prog 35 #[v, .func (.func fn) #[] lb] w (OwnV w ((normS l).filter p)) := by
  obtain ⟨B, hB⟩ : ∃ B, w.heap.size = B := ⟨_, rfl⟩
  obtain ⟨X, hX⟩ : ∃ X, w.alloc (.cells #[.func (.func fn) #[] lb] 32) = X := ⟨_, rfl⟩
  have hbX : Below B w X := by rw [← hX, ← hB]; exact below_box w _
  have hXs : X.heap.size = B + 1 := by rw [← hX, alloc_sz, hB]
  have e1 : X.heap[B]? = some (.cells #[.func (.func fn) #[] lb] 32 (0, 0)) := by rw [← hX, ← hB]; exact block_new _ _
  have HNM := Lib.hid (normal_any (hv.below stays_sp (by rw [hB]; exact hbX)) hl)
  have hlen := normS_len l
  obtain ⟨A, cap, rfl, hc⟩ := hv.form
  have hdel : ∀ (W : World) (v' : Value), W.ownsRow (B + 1) 31 2 v' (normS l).length ((normS l).flatMap spV) → Below (B + 1) X W → Calls Try.prog 51 #[v', .func (.func 52) #[] #[.pointer (some ⟨B, 0, none⟩)]] W (DelV W (B + 1) v' ((normS l).filter p)) := fun W v' ho hW => by
    refine deleteSp_any ho (by omega) (by have := hW.size; omega) 52 #[.pointer (some ⟨B, 0, none⟩)] (enters_of Try.func52 (by kernel_rfl) rfl) p fun W2 x hW2 hx => ?_
    have hXW2 := hW.trans hW2
    refine choose1_any fn lb eg B (cell_of (block_below e1 hXW2 (by omega)) rfl) x (p x) fun W3 hW3 => ?_
    exact hp W3 x (by rw [hB]; exact hbX.trans ((hXW2.trans (hW3.mono (by have := hXW2.size; omega))).mono (by omega))) ((normS_mem l x).1 hx)
  obtain ⟨n, hn⟩ : ∃ n, l.length = n := ⟨_, rfl⟩
  obtain ⟨F, hF⟩ : ∃ F, (normS l).filter p = F := ⟨_, rfl⟩
  unfold OwnV at HNM ⊢
  rw [hXs, hn] at HNM
  rw [hB, hn, hF]
  rw [hF] at hdel
  rw [hn] at hc
  have HX := Lib.hid hX
  have HB := Lib.hid hB
  have HBX := Lib.hid (And.intro hbX hXs)
  have HD := Lib.hid hdel
  clear hv hX hB hbX hXs hdel hn hF hlen e1 hp
  go_enter Try.func35, Try.ntmps35
  go_wp2_with fail
  rw [HX.out, HB.out]
  go_wp2_with fail
  refine HNM.out.mono ?_
  rintro e w2 ⟨⟨v2, rfl, ho⟩, hb2⟩
  have HDD := Lib.hid (HD.out w2 v2 ho hb2)
  have HLOW := Lib.hid (own_low ho)
  have HB2 := Lib.hid hb2
  clear ho hb2
  go_wp2_with fail
  refine HDD.out.mono ?_
  rintro e w3 ⟨⟨v3, rfl, ho3, hob⟩, hg3⟩
  have HO3 := Lib.hid (own_base ho3 (Nat.le_succ B))
  have HB3 : Hid (Below B w w3) := Lib.hid (HBX.out.1.trans ((HB2.out.mono (Nat.le_succ B)).trans (below_of_grown hg3 (by have := HB2.out.size; have := HBX.out.2; omega) (fun k hk => by have := (HLOW.out k hk).1; omega))))
  clear ho3 hob hg3
  go_wp2_with fail
  go_ret
  exact ⟨⟨_, rfl, HO3.out⟩, HB3.out⟩
/-- What the choices answer. -/
def choL (a b L : List Sp) : List Sp := if chkSS [a, b] = 0 then L else []
theorem chk2_ok {a b : List Sp} (h : chkSS [a, b] = 0) : chkS a = 0 ∧ chkS b = 0 := by
  unfold chkSS chkSS chkSS at h
  by_cases h1 : chkS a = 0
  · rw [if_pos h1] at h
    by_cases h2 : chkS b = 0
    · exact ⟨h1, h2⟩
    · rw [if_neg h2] at h; exact absurd h h2
  · rw [if_neg h1] at h; exact absurd h h1

set_option maxRecDepth 100000 in
set_option maxHeartbeats 2000000 in
theorem within_any {w : World} {v1 v2 : Value} {a b : List Sp} (h1 : Rows 2 ESp w v1 a) (h2 : Rows 2 ESp w v2 b) :
    Calls Try.prog 21 #[v1, v2] w (NorV w (chkSS [a, b]) (choL a b (withinL a b))) := by
  have HCK := Lib.hid (check2_any h1 h2)
  have HV1 := Lib.hid (fun W (h : Below w.heap.size w W) => h1.below stays_sp h)
  have HV2 := Lib.hid (fun W (h : Below w.heap.size w W) => h2.below stays_sp h)
  have hok := fun h : chkSS [a, b] = 0 => And.intro (chk_ok (chk2_ok h).1) (chk_ok (chk2_ok h).2)
  obtain ⟨A1, cap1, rfl, hc1⟩ := h1.form
  obtain ⟨A2, cap2, rfl, hc2⟩ := h2.form
  obtain ⟨n1, hn1⟩ : ∃ n, a.length = n := ⟨_, rfl⟩
  obtain ⟨n2, hn2⟩ : ∃ n, b.length = n := ⟨_, rfl⟩
  obtain ⟨c, hcc⟩ : ∃ c, chkSS [a, b] = c := ⟨_, rfl⟩
  obtain ⟨N, hN⟩ : ∃ N, w.heap.size = N := ⟨_, rfl⟩
  unfold choL NorV
  rw [hn1] at HCK HV1 hc1 hok ⊢
  rw [hn2] at HCK HV2 hc2 hok ⊢
  rw [hN] at HCK HV1 HV2 ⊢
  rw [hcc] at HCK hok ⊢
  have HN := Lib.hid hN
  have HN1 := Lib.hid hn1
  have HN2 := Lib.hid hn2
  have HOK := Lib.hid hok
  clear h1 h2 hn1 hn2 hcc hN hok
  go_enter Try.func21, Try.ntmps21
  by_cases h0 : c = 0
  · have hokk := HOK.out h0
    obtain ⟨⟨hl1, ha1⟩, hl2, hb1⟩ := hokk
    have HAL := Lib.hid (And.intro ha1 hb1)
    clear HOK ha1 hb1
    subst h0
    go_wp2_with fail
    (try rw [HN.out])
    refine HCK.out.mono ?_
    rintro e w1 ⟨rfl, hw1⟩
    have HB1 := Lib.hid hw1
    have hrz := riseOf_any (HV2.out w1 hw1) (by rw [HN2.out]; exact hl2) 34 (fun x => x) (enters_of Try.func34 (by kernel_rfl) rfl) (fun W x => endAtBegin_any x W) (fun x hx => by have := (okS_iff x).1 (List.all_eq_true.1 HAL.out.2 x hx); show -1 ≤ x.2; omega)
    rw [HN2.out] at hrz
    have HRZ := Lib.hid hrz
    clear hw1 hrz
    go_wp2_with fail
    refine HRZ.out.mono ?_
    rintro e w2 ⟨Nr, ts, rfl, hNr, hbk, hpm, hso, hw2⟩
    obtain ⟨X, hX⟩ : ∃ X, w2.alloc (.cells #[.slice (some ⟨Nr, 0, none⟩) n2 n2] 48) = X := ⟨_, rfl⟩
    obtain ⟨R, hR⟩ : ∃ R, w2.heap.size = R := ⟨_, rfl⟩
    have hbX : Below R w2 X := by rw [← hX, ← hR]; exact below_box w2 _
    have hXs : X.heap.size = R + 1 := by rw [← hX, alloc_sz, hR]
    have hRb : X.heap[R]? = some (.cells #[.slice (some ⟨Nr, 0, none⟩) n2 n2] 48 (0, 0)) := by rw [← hX, ← hR]; exact block_new _ _
    have hNrl : Nr < R := by rw [← hR]; exact (Array.getElem?_eq_some_iff.1 hbk).1
    have hrise : RiseAt X Nr n2 ts := ⟨by rw [hpm.length_eq, List.length_map, HN2.out], hl2, block_below hbk hbX hNrl, hso⟩
    have hwX : Below N w X := HB1.out.trans ((hw2.trans (hbX.mono (by rw [← hR]; exact hw2.size))).mono (by rw [← HN.out]; exact HB1.out.size))
    have hch := choose_any (HV1.out X hwX) (by rw [HN1.out]; omega) 36 #[.pointer (some ⟨R, 0, none⟩)] (enters_of Try.func36 (by kernel_rfl) rfl) (fun s => decide (s.2 ≤ topF ts s.1)) (fun W s hW hs => by
      rw [hXs] at hW
      exact within1_any (hrise.below (by omega) hW) R (cell_of (block_below hRb hW (by omega)) rfl) s)
    have hfil : (normS a).filter (fun s => decide (s.2 ≤ topF ts s.1)) = withinL a b := by
      unfold withinL
      refine List.filter_congr fun s hs => ?_
      have hos := all_norm HAL.out.1 s hs
      rw [← within_top hos, topF_perm (m := b) (fun x => by first | (rw [hpm.mem_iff]; done) | (rw [hpm.mem_iff]; simp))]
    rw [hfil] at hch
    have HCH := Lib.hid hch
    have HX := Lib.hid hX
    have HR := Lib.hid hR
    have HWX := Lib.hid hwX
    clear hch hX hR hbX hXs hRb hNrl hrise hwX hfil hNr hbk hpm hso hw2 HRZ
    go_wp2_with fail
    rw [HX.out, HR.out]
    go_wp2_with fail
    refine HCH.out.mono ?_
    rintro e w3 ⟨⟨v', rfl, ho⟩, hb3⟩
    have HO := Lib.hid (And.intro (own_sp ho) (hb3.mono (show N ≤ X.heap.size by rw [← HN.out]; exact HWX.out.size)))
    clear ho hb3
    go_wp2_with fail
    go_ret2
    exact ⟨⟨_, rfl, HO.out.1⟩, HWX.out.trans HO.out.2⟩
  · have hcb : (c != 0) = true := by simp [h0]
    go_wp2_with fail
    (try rw [HN.out])
    refine HCK.out.mono ?_
    rintro e w1 ⟨rfl, hb1⟩
    have HB1 := Lib.hid hb1
    clear hb1
    go_wp2_with fail
    go_ret2
    exact ⟨⟨_, rfl, Rows.nil _⟩, HB1.out⟩

set_option maxRecDepth 100000 in
set_option maxHeartbeats 2000000 in
theorem containing_any {w : World} {v1 v2 : Value} {a b : List Sp} (h1 : Rows 2 ESp w v1 a) (h2 : Rows 2 ESp w v2 b) :
    Calls Try.prog 23 #[v1, v2] w (NorV w (chkSS [a, b]) (choL a b (containL a b))) := by
  have HCK := Lib.hid (check2_any h1 h2)
  have HV1 := Lib.hid (fun W (h : Below w.heap.size w W) => h1.below stays_sp h)
  have HV2 := Lib.hid (fun W (h : Below w.heap.size w W) => h2.below stays_sp h)
  have hok := fun h : chkSS [a, b] = 0 => And.intro (chk_ok (chk2_ok h).1) (chk_ok (chk2_ok h).2)
  obtain ⟨A1, cap1, rfl, hc1⟩ := h1.form
  obtain ⟨A2, cap2, rfl, hc2⟩ := h2.form
  obtain ⟨n1, hn1⟩ : ∃ n, a.length = n := ⟨_, rfl⟩
  obtain ⟨n2, hn2⟩ : ∃ n, b.length = n := ⟨_, rfl⟩
  obtain ⟨c, hcc⟩ : ∃ c, chkSS [a, b] = c := ⟨_, rfl⟩
  obtain ⟨N, hN⟩ : ∃ N, w.heap.size = N := ⟨_, rfl⟩
  unfold choL NorV
  rw [hn1] at HCK HV1 hc1 hok ⊢
  rw [hn2] at HCK HV2 hc2 hok ⊢
  rw [hN] at HCK HV1 HV2 ⊢
  rw [hcc] at HCK hok ⊢
  have HN := Lib.hid hN
  have HN1 := Lib.hid hn1
  have HN2 := Lib.hid hn2
  have HOK := Lib.hid hok
  clear h1 h2 hn1 hn2 hcc hN hok
  go_enter Try.func23, Try.ntmps23
  by_cases h0 : c = 0
  · have hokk := HOK.out h0
    obtain ⟨⟨hl1, ha1⟩, hl2, hb1⟩ := hokk
    have HAL := Lib.hid (And.intro ha1 hb1)
    clear HOK ha1 hb1
    subst h0
    go_wp2_with fail
    (try rw [HN.out])
    refine HCK.out.mono ?_
    rintro e w1 ⟨rfl, hw1⟩
    have HB1 := Lib.hid hw1
    have hrz := riseOf_any (HV2.out w1 hw1) (by rw [HN2.out]; exact hl2) 40 flipS (enters_of Try.func40 (by kernel_rfl) rfl) (fun W x => beginAtEnd_any x W) (fun x hx => by have := (okS_iff x).1 (List.all_eq_true.1 HAL.out.2 x hx); show -1 ≤ x.1; omega)
    rw [HN2.out] at hrz
    have HRZ := Lib.hid hrz
    clear hw1 hrz
    go_wp2_with fail
    refine HRZ.out.mono ?_
    rintro e w2 ⟨Nr, ts, rfl, hNr, hbk, hpm, hso, hw2⟩
    obtain ⟨X, hX⟩ : ∃ X, w2.alloc (.cells #[.slice (some ⟨Nr, 0, none⟩) n2 n2] 48) = X := ⟨_, rfl⟩
    obtain ⟨R, hR⟩ : ∃ R, w2.heap.size = R := ⟨_, rfl⟩
    have hbX : Below R w2 X := by rw [← hX, ← hR]; exact below_box w2 _
    have hXs : X.heap.size = R + 1 := by rw [← hX, alloc_sz, hR]
    have hRb : X.heap[R]? = some (.cells #[.slice (some ⟨Nr, 0, none⟩) n2 n2] 48 (0, 0)) := by rw [← hX, ← hR]; exact block_new _ _
    have hNrl : Nr < R := by rw [← hR]; exact (Array.getElem?_eq_some_iff.1 hbk).1
    have hrise : RiseAt X Nr n2 ts := ⟨by rw [hpm.length_eq, List.length_map, HN2.out], hl2, block_below hbk hbX hNrl, hso⟩
    have hwX : Below N w X := HB1.out.trans ((hw2.trans (hbX.mono (by rw [← hR]; exact hw2.size))).mono (by rw [← HN.out]; exact HB1.out.size))
    have hch := choose_any (HV1.out X hwX) (by rw [HN1.out]; omega) 41 #[.pointer (some ⟨R, 0, none⟩)] (enters_of Try.func41 (by kernel_rfl) rfl) (fun s => decide (s.1 ≤ topF ts s.2)) (fun W s hW hs => by
      rw [hXs] at hW
      exact containing1_any (hrise.below (by omega) hW) R (cell_of (block_below hRb hW (by omega)) rfl) s)
    have hfil : (normS a).filter (fun s => decide (s.1 ≤ topF ts s.2)) = containL a b := by
      unfold containL
      refine List.filter_congr fun s hs => ?_
      have hos := all_norm HAL.out.1 s hs
      rw [← contain_top hos, topF_perm (m := b.map flipS) (fun x => by first | (rw [hpm.mem_iff]; done) | (rw [hpm.mem_iff]; simp))]
    rw [hfil] at hch
    have HCH := Lib.hid hch
    have HX := Lib.hid hX
    have HR := Lib.hid hR
    have HWX := Lib.hid hwX
    clear hch hX hR hbX hXs hRb hNrl hrise hwX hfil hNr hbk hpm hso hw2 HRZ
    go_wp2_with fail
    rw [HX.out, HR.out]
    go_wp2_with fail
    refine HCH.out.mono ?_
    rintro e w3 ⟨⟨v', rfl, ho⟩, hb3⟩
    have HO := Lib.hid (And.intro (own_sp ho) (hb3.mono (show N ≤ X.heap.size by rw [← HN.out]; exact HWX.out.size)))
    clear ho hb3
    go_wp2_with fail
    go_ret2
    exact ⟨⟨_, rfl, HO.out.1⟩, HWX.out.trans HO.out.2⟩
  · have hcb : (c != 0) = true := by simp [h0]
    go_wp2_with fail
    (try rw [HN.out])
    refine HCK.out.mono ?_
    rintro e w1 ⟨rfl, hb1⟩
    have HB1 := Lib.hid hb1
    clear hb1
    go_wp2_with fail
    go_ret2
    exact ⟨⟨_, rfl, Rows.nil _⟩, HB1.out⟩

set_option maxRecDepth 100000 in
set_option maxHeartbeats 2000000 in
theorem overlapping_any {w : World} {v1 v2 : Value} {a b : List Sp} (h1 : Rows 2 ESp w v1 a) (h2 : Rows 2 ESp w v2 b) (hrg : ∀ s ∈ a, s.2 ≤ 9223372036854775807) :
    Calls Try.prog 24 #[v1, v2] w (NorV w (chkSS [a, b]) (choL a b (overL a b))) := by
  have HCK := Lib.hid (check2_any h1 h2)
  have HV1 := Lib.hid (fun W (h : Below w.heap.size w W) => h1.below stays_sp h)
  have HV2 := Lib.hid (fun W (h : Below w.heap.size w W) => h2.below stays_sp h)
  have hok := fun h : chkSS [a, b] = 0 => And.intro (chk_ok (chk2_ok h).1) (chk_ok (chk2_ok h).2)
  obtain ⟨A1, cap1, rfl, hc1⟩ := h1.form
  obtain ⟨A2, cap2, rfl, hc2⟩ := h2.form
  obtain ⟨n1, hn1⟩ : ∃ n, a.length = n := ⟨_, rfl⟩
  obtain ⟨n2, hn2⟩ : ∃ n, b.length = n := ⟨_, rfl⟩
  obtain ⟨c, hcc⟩ : ∃ c, chkSS [a, b] = c := ⟨_, rfl⟩
  obtain ⟨N, hN⟩ : ∃ N, w.heap.size = N := ⟨_, rfl⟩
  unfold choL NorV
  rw [hn1] at HCK HV1 hc1 hok ⊢
  rw [hn2] at HCK HV2 hc2 hok ⊢
  rw [hN] at HCK HV1 HV2 ⊢
  rw [hcc] at HCK hok ⊢
  have HN := Lib.hid hN
  have HN1 := Lib.hid hn1
  have HN2 := Lib.hid hn2
  have HOK := Lib.hid hok
  have HRG := Lib.hid hrg
  clear hrg
  clear h1 h2 hn1 hn2 hcc hN hok
  go_enter Try.func24, Try.ntmps24
  by_cases h0 : c = 0
  · have hokk := HOK.out h0
    obtain ⟨⟨hl1, ha1⟩, hl2, hb1⟩ := hokk
    have HAL := Lib.hid (And.intro ha1 hb1)
    clear HOK ha1 hb1
    subst h0
    go_wp2_with fail
    (try rw [HN.out])
    refine HCK.out.mono ?_
    rintro e w1 ⟨rfl, hw1⟩
    have HB1 := Lib.hid hw1
    have hrz := riseOf_any (HV2.out w1 hw1) (by rw [HN2.out]; exact hl2) 34 (fun x => x) (enters_of Try.func34 (by kernel_rfl) rfl) (fun W x => endAtBegin_any x W) (fun x hx => by have := (okS_iff x).1 (List.all_eq_true.1 HAL.out.2 x hx); show -1 ≤ x.2; omega)
    rw [HN2.out] at hrz
    have HRZ := Lib.hid hrz
    clear hw1 hrz
    go_wp2_with fail
    refine HRZ.out.mono ?_
    rintro e w2 ⟨Nr, ts, rfl, hNr, hbk, hpm, hso, hw2⟩
    obtain ⟨X, hX⟩ : ∃ X, w2.alloc (.cells #[.slice (some ⟨Nr, 0, none⟩) n2 n2] 48) = X := ⟨_, rfl⟩
    obtain ⟨R, hR⟩ : ∃ R, w2.heap.size = R := ⟨_, rfl⟩
    have hbX : Below R w2 X := by rw [← hX, ← hR]; exact below_box w2 _
    have hXs : X.heap.size = R + 1 := by rw [← hX, alloc_sz, hR]
    have hRb : X.heap[R]? = some (.cells #[.slice (some ⟨Nr, 0, none⟩) n2 n2] 48 (0, 0)) := by rw [← hX, ← hR]; exact block_new _ _
    have hNrl : Nr < R := by rw [← hR]; exact (Array.getElem?_eq_some_iff.1 hbk).1
    have hrise : RiseAt X Nr n2 ts := ⟨by rw [hpm.length_eq, List.length_map, HN2.out], hl2, block_below hbk hbX hNrl, hso⟩
    have hwX : Below N w X := HB1.out.trans ((hw2.trans (hbX.mono (by rw [← hR]; exact hw2.size))).mono (by rw [← HN.out]; exact HB1.out.size))
    have hch := choose_any (HV1.out X hwX) (by rw [HN1.out]; omega) 42 #[.pointer (some ⟨R, 0, none⟩)] (enters_of Try.func42 (by kernel_rfl) rfl) (fun s => decide (s.1 < topF ts (s.2 - 1))) (fun W s hW hs => by
      rw [hXs] at hW
      exact overlapping1_any (hrise.below (by omega) hW) R (cell_of (block_below hRb hW (by omega)) rfl) s (by have := (okS_iff s).1 (List.all_eq_true.1 HAL.out.1 s hs); omega) (HRG.out s hs))
    have hfil : (normS a).filter (fun s => decide (s.1 < topF ts (s.2 - 1))) = overL a b := by
      unfold overL
      refine List.filter_congr fun s hs => ?_
      have hos := all_norm HAL.out.1 s hs
      rw [← over_top hos, topF_perm (m := b) (fun x => by first | (rw [hpm.mem_iff]; done) | (rw [hpm.mem_iff]; simp))]
    rw [hfil] at hch
    have HCH := Lib.hid hch
    have HX := Lib.hid hX
    have HR := Lib.hid hR
    have HWX := Lib.hid hwX
    clear hch hX hR hbX hXs hRb hNrl hrise hwX hfil hNr hbk hpm hso hw2 HRZ
    go_wp2_with fail
    rw [HX.out, HR.out]
    go_wp2_with fail
    refine HCH.out.mono ?_
    rintro e w3 ⟨⟨v', rfl, ho⟩, hb3⟩
    have HO := Lib.hid (And.intro (own_sp ho) (hb3.mono (show N ≤ X.heap.size by rw [← HN.out]; exact HWX.out.size)))
    clear ho hb3
    go_wp2_with fail
    go_ret2
    exact ⟨⟨_, rfl, HO.out.1⟩, HWX.out.trans HO.out.2⟩
  · have hcb : (c != 0) = true := by simp [h0]
    go_wp2_with fail
    (try rw [HN.out])
    refine HCK.out.mono ?_
    rintro e w1 ⟨rfl, hb1⟩
    have HB1 := Lib.hid hb1
    clear hb1
    go_wp2_with fail
    go_ret2
    exact ⟨⟨_, rfl, Rows.nil _⟩, HB1.out⟩
end Go.Proofs.Ytpkkebojiengpaa
