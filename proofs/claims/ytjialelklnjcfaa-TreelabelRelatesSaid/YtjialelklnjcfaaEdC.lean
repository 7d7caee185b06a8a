/-
  WALKS over the reference of treelabel, third part: Parents; the laws' helper own.
-/
import Derived.Test.YtjialelklnjcfaaEdB
import Derived.Test.YtjialelklnjcfaaEbF
import Derived.Deep.RegionHeld3
import Derived.Deep.DrawnRows
namespace Go.Proofs.Ytjialelklnjcfaa
open Go.RowKit Go.Shelf Go.Lib
set_option linter.unusedVariables false
set_option linter.unusedSimpArgs false

def bstL (L : List Lb) (a : Lb) (k : Nat) : Int := (List.range k).foldl (bestS L a) (-1)
theorem bstL_succ (L : List Lb) (a : Lb) (k : Nat) : bstL L a (k + 1) = bestS L a (bstL L a k) k := by
  unfold bstL
  rw [List.range_succ, List.foldl_append]
  rfl
theorem bstL_full (L : List Lb) (a : Lb) : bstL L a L.length = bestL L a := rfl
theorem best_keep {L : List Lb} {a c : Lb} {b : Int} {k : Nat} (hc : L.getD k (0, 0, 0) = c) (hd : domL c a = false) : bestS L a b k = b := by
  unfold bestS
  rw [hc, hd, Bool.false_and, if_neg (by simp)]
theorem best_first {L : List Lb} {a c : Lb} {b : Int} {k : Nat} (hc : L.getD k (0, 0, 0) = c) (hd : domL c a = true) (hb : b < 0) : bestS L a b k = (k : Int) := by
  unfold bestS
  rw [hc, hd, Bool.true_and, if_pos (by simp [hb])]
theorem best_more {L : List Lb} {a c g : Lb} {q k : Nat} (hc : L.getD k (0, 0, 0) = c) (hd : domL c a = true) (hg : L.getD q (0, 0, 0) = g) (hlt : g.2.2 < c.2.2) : bestS L a (q : Int) k = (k : Int) := by
  unfold bestS
  rw [hc, hd, Bool.true_and, Int.toNat_natCast, hg, if_pos (by simp [hlt])]
theorem best_less {L : List Lb} {a c g : Lb} {q k : Nat} (hc : L.getD k (0, 0, 0) = c) (hd : domL c a = true) (hg : L.getD q (0, 0, 0) = g) (hlt : ¬ g.2.2 < c.2.2) : bestS L a (q : Int) k = (q : Int) := by
  unfold bestS
  rw [hc, hd, Bool.true_and, Int.toNat_natCast, hg, if_neg]
  simp only [Bool.or_eq_true, decide_eq_true_eq]
  omega
theorem par_no {L : List Lb} {n : Nat} (hn : L.length = n) (hn4 : ¬ 4096 < n) (h : ¬ ((checkH (upL L)).2 = 0 ∧ labH (upL L) = L)) : parentsL L = ([], 9) := by
  unfold parentsL
  rw [if_neg (by omega), if_neg h]
theorem par_yes {L : List Lb} {n : Nat} (hn : L.length = n) (hn4 : ¬ 4096 < n) (h : (checkH (upL L)).2 = 0 ∧ labH (upL L) = L) : parentsL L = (upL L, 0) := by
  unfold parentsL
  rw [if_neg (by omega), if_pos h]

set_option maxRecDepth 100000 in
set_option maxHeartbeats 8000000 in
theorem refParents_any {w : World} {v : Value} {L : List Lb} (hv : Rows 3 ELb w v L) (hl : L.length ≤ maxLen) :
    Calls Try.prog 16 #[v] w fun e w' => (∃ vr, e = .returned (.tuple #[vr, .int .i64 (parentsL L).2]) ∧ Rows 1 EInt w' vr (parentsL L).1) ∧ Below w.heap.size w w' := by
  have HV := Lib.hid (fun W (hb : Below w.heap.size w W) => hv.below stays_lb hb)
  obtain ⟨A, cap, rfl, hc⟩ := hv.form
  obtain ⟨n, hn⟩ : ∃ n, L.length = n := ⟨_, rfl⟩
  by_cases h4 : 4096 < n
  · have e : parentsL L = ([], 2) := by unfold parentsL; rw [if_pos (by omega)]
    rw [e, hn]
    rw [hn] at hc hl
    unfold maxLen at hl
    have e4 : (n : Int) > 4096 := by omega
    clear hv HV e hn
    go_enter Try.func16, Try.ntmps16
    go_wp2_with fail
    go_ret2
    exact ⟨⟨_, rfl, Rows.nil _⟩, Below.refl _ _⟩
  · obtain ⟨R1, R2, hR⟩ : ∃ a b, parentsL L = (a, b) := ⟨_, _, rfl⟩
    rw [hn] at hc HV
    rw [hR, hn]
    have HN := Lib.hid hn
    have HR := Lib.hid hR
    have e4 : ¬ (n : Int) > 4096 := by omega
    obtain ⟨N0, hN0⟩ : ∃ N, w.heap.size = N := ⟨_, rfl⟩
    rw [hN0] at HV ⊢
    have HN0 := Lib.hid hN0
    clear hv hn hR hN0 hl
    go_enter Try.func16, Try.ntmps16
    go_wp2_with fail
    go_loopw [4, 19] (fun lv kv wr => ∃ i : Nat, i ≤ n ∧ kv = .int .i64 i ∧ Hid (wr.ownsRow N0 3 1 lv i (((L.take i).map (bestL L)).map fun x => Value.int .i64 x)) ∧ Hid (Below N0 w wr)) (fun _ kv _ => n - (Go.RowKit.intOf kv).toNat)
    case atStart => exact ⟨0, Nat.zero_le _, rfl, Lib.hid (World.ownsRow_nil _ _ _ 1), Lib.hid (Below.refl _ _)⟩
    case round =>
      obtain ⟨i, hi, rfl, HO, HB⟩ := hrel
      obtain ⟨Al, cl, rfl, hcl⟩ := own_form HO.out
      by_cases hlt : i < n
      · have hii : (i : Int) < (n : Int) := by omega
        obtain ⟨a, ha⟩ : ∃ a, L[i]? = some a := ⟨_, List.getElem?_eq_getElem (by rw [HN.out]; exact hlt)⟩
        obtain ⟨x1, x2, x3⟩ := a
        obtain ⟨bl, ol, rfl, hbl, hcel⟩ := at_lb (HV.out wr HB.out) (by rw [HN.out]; omega)
        obtain ⟨c1, c2, c3⟩ := hcel i _ ha
        simp only at c1 c2 c3
        obtain ⟨WB, hWB⟩ : ∃ X, wr.alloc (.cells #[.int .i64 x1, .int .i64 x2, .int .i64 x3] 43) = X := ⟨_, rfl⟩
        obtain ⟨Nx, hNx⟩ : ∃ N, wr.heap.size = N := ⟨_, rfl⟩
        have hbx : WB.heap[Nx]? = some (.cells #[.int .i64 x1, .int .i64 x2, .int .i64 x3] 43 (0, 0)) := by rw [← hWB, ← hNx]; exact block_new _ _
        have hbW : Below Nx wr WB := by rw [← hWB, ← hNx]; exact below_box _ _
        have hN0x : N0 ≤ Nx := by rw [← hNx, ← HN0.out]; exact HB.out.size
        have hsz : WB.heap.size = Nx + 1 := by rw [← hWB, alloc_sz, hNx]
        have HWB := Lib.hid hWB
        have HNx := Lib.hid hNx
        have HBX := Lib.hid hbx
        have HBW := Lib.hid hbW
        have HN0X := Lib.hid hN0x
        have HSZ := Lib.hid hsz
        have HAL := Lib.hid ha
        have HBB := Lib.hid (HB.out.trans (hbW.mono hN0x))
        clear hWB hNx hbx hbW hN0x hsz hcel ha
        go_wp2_with fail
        rw [HWB.out, HNx.out]
        clear c1 c2 c3
        go_loopw [7, 25] (fun bv kv wr2 => ∃ (k : Nat) (b : Int), k ≤ n ∧ kv = .int .i64 k ∧ bv = .int .i64 b ∧ (b = -1 ∨ (0 ≤ b ∧ b < n)) ∧ Hid (bstL L (x1, x2, x3) k = b) ∧ Hid (Below (Nx + 1) WB wr2 ∧ Nx + 1 ≤ wr2.heap.size)) (fun _ kv _ => n - (Go.RowKit.intOf kv).toNat)
        case atStart => exact ⟨0, -1, Nat.zero_le _, rfl, rfl, .inl rfl, Lib.hid rfl, Lib.hid ⟨Below.refl _ _, by rw [HSZ.out]; exact Nat.le_refl _⟩⟩
        case round =>
          obtain ⟨k, b, hk, rfl, rfl, hbr, HBS, HB2⟩ := hrel
          by_cases hlt2 : k < n
          · have hki : (k : Int) < (n : Int) := by omega
            obtain ⟨c, hcc⟩ : ∃ a, L[k]? = some a := ⟨_, List.getElem?_eq_getElem (by rw [HN.out]; exact hlt2)⟩
            obtain ⟨y1, y2, y3⟩ := c
            have hbw := HBB.out.trans (HB2.out.1.mono (by have := HN0X.out; omega))
            obtain ⟨bl', ol', he', hbl2, hcel⟩ := at_lb (HV.out wr hbw) (by rw [HN.out]; omega)
            cases he'
            obtain ⟨c1, c2, c3⟩ := hcel k _ hcc
            simp only at c1 c2 c3
            obtain ⟨V, hV⟩ : ∃ X, wr.alloc (.cells #[.int .i64 y1, .int .i64 y2, .int .i64 y3] 43) = X := ⟨_, rfl⟩
            obtain ⟨Ny, hNy⟩ : ∃ N, wr.heap.size = N := ⟨_, rfl⟩
            have hby : V.heap[Ny]? = some (.cells #[.int .i64 y1, .int .i64 y2, .int .i64 y3] 43 (0, 0)) := by rw [← hV, ← hNy]; exact block_new _ _
            have hbV : Below Ny wr V := by rw [← hV, ← hNy]; exact below_box _ _
            have hszV : V.heap.size = Ny + 1 := by rw [← hV, alloc_sz, hNy]
            have hNxy : Nx + 1 ≤ Ny := by rw [← hNy]; exact HB2.out.2
            have hbxV : V.heap[Nx]? = some (.cells #[.int .i64 x1, .int .i64 x2, .int .i64 x3] 43 (0, 0)) := (hbV.block Nx (by omega)).trans ((HB2.out.1.block Nx (by omega)).trans HBX.out)
            have hnx : Below (Nx + 1) WB V ∧ Nx + 1 ≤ V.heap.size := ⟨HB2.out.1.trans (hbV.mono hNxy), by omega⟩
            have hlt1 := lt_blk hbxV
            have hlt2' := lt_blk hby
            have HS := Lib.hid (fun (W' : World) (hb : Below V.heap.size V W') => show W'.cell? ⟨Nx, 0, none⟩ = some (.int .i64 x1) ∧ W'.cell? ⟨Nx, 1, none⟩ = some (.int .i64 x2) ∧ W'.cell? ⟨Nx, 2, none⟩ = some (.int .i64 x3) ∧ W'.cell? ⟨Ny, 0, none⟩ = some (.int .i64 y1) ∧ W'.cell? ⟨Ny, 1, none⟩ = some (.int .i64 y2) ∧ W'.cell? ⟨Ny, 2, none⟩ = some (.int .i64 y3) from
              ⟨cell_of (i := 0) (block_below hbxV hb hlt1) rfl, cell_of (i := 1) (block_below hbxV hb hlt1) rfl, cell_of (i := 2) (block_below hbxV hb hlt1) rfl, cell_of (i := 0) (block_below hby hb hlt2') rfl, cell_of (i := 1) (block_below hby hb hlt2') rfl, cell_of (i := 2) (block_below hby hb hlt2') rfl⟩)
            have HD := Lib.hid (fun W => refDominates_any (y1, y2, y3) (x1, x2, x3) W)
            obtain ⟨d, hd⟩ : ∃ d, domL (y1, y2, y3) (x1, x2, x3) = d := ⟨_, rfl⟩
            rw [hd] at HD
            unfold lbA at HD
            simp only at HD
            have hgk : L.getD k (0, 0, 0) = (y1, y2, y3) := getD_of hcc
            have HX0 := Lib.hid (show Below V.heap.size V V.drew from (Below.refl _ _).drew)
            have HNXT := Lib.hid (fun (W' : World) (hb : Below V.heap.size V W') => show Below (Nx + 1) WB W' ∧ Nx + 1 ≤ W'.heap.size from ⟨hnx.1.trans (hb.mono hnx.2), Nat.le_trans hnx.2 hb.size⟩)
            have HVV := Lib.hid hV
            have HNY := Lib.hid hNy
            have hsuc := bstL_succ L (x1, x2, x3) k
            rw [HBS.out] at hsuc
            cases d with
            | false =>
              rw [best_keep hgk hd] at hsuc
              have HSUC := Lib.hid hsuc
              clear hsuc hgk hd hbw hbl2 hcel hcc hV hNy hby hbV hszV hNxy hbxV hnx hlt1 hlt2' HBS HB2
              go_wp2_with fail
              rw [HVV.out, HNY.out]
              clear c1 c2 c3
              obtain ⟨X2, hX2⟩ : ∃ X, V.drew = X := ⟨_, rfl⟩
              have HX2 := Lib.hid hX2
              have HB0 := Lib.hid (show Below V.heap.size V X2 by rw [← hX2]; exact (Below.refl _ _).drew)
              clear hX2
              refine wp_region_held_drew (S := (fun w' => w'.cell? ⟨Nx, 0, none⟩ = some (.int .i64 x1) ∧ w'.cell? ⟨Nx, 1, none⟩ = some (.int .i64 x2) ∧ w'.cell? ⟨Nx, 2, none⟩ = some (.int .i64 x3) ∧ w'.cell? ⟨Ny, 0, none⟩ = some (.int .i64 y1) ∧ w'.cell? ⟨Ny, 1, none⟩ = some (.int .i64 y2) ∧ w'.cell? ⟨Ny, 2, none⟩ = some (.int .i64 y3))) (by kernel_rfl) ?_ (fun hHeld => ?_)
              · (try dsimp only); (rw [HX2.out]; exact HS.out X2 HB0.out)
              rw [HX2.out] at hHeld ⊢
              refine wpAnyH_take (i := 0) (oi := ?oi1) (v := ?v1) ?hi1 (by kernel_rfl) (by kernel_rfl) (by kernel_rfl) ?hq1 ?hy1 (by assumption) ?hr1
              case hi1 => (simp only [List.getElem?_toArray, List.getElem?_cons_zero]; rfl)
              case hq1 => exact fun _ _ _ h => h
              case hy1 => exact Or.inl ⟨by rfl, by intro whSw hSw'; (try dsimp only at hSw'); (first | (go_simp; done) | (go_simp; with_reducible rfl))⟩
              try simp only [Act.put, List.setIfInBounds_toArray, List.set_cons_zero, List.set_cons_succ]
              refine wpAnyH_take (i := 1) (oi := ?oi2) (v := ?v2) ?hi2 (by kernel_rfl) (by kernel_rfl) (by kernel_rfl) ?hq2 ?hy2 (by assumption) ?hr2
              case hi2 => (simp only [List.getElem?_toArray, List.getElem?_cons_succ, List.getElem?_cons_zero]; rfl)
              case hq2 => exact fun _ _ _ h => h
              case hy2 => exact Or.inl ⟨by rfl, by intro whSw hSw'; (try dsimp only at hSw'); (first | (go_simp; done) | (go_simp; with_reducible rfl))⟩
              try simp only [Act.put, List.setIfInBounds_toArray, List.set_cons_zero, List.set_cons_succ]
              refine wpAnyH_ready (rs := [2]) (by kernel_rfl) (by simp) ?_
              refine AllReadyH.cons (o := ?oo3) ?hi3 (fun K hK => ?hs3) ?hm3
              case hi3 => (simp only [List.getElem?_toArray, List.getElem?_cons_succ, List.getElem?_cons_zero]; rfl)
              · go_simp
                refine (HD.out X2).mono ?_
                rintro e zz1 ⟨rfl, hbzz1⟩
                have HBzz1 := Lib.hid (HB0.out.trans (hbzz1.mono HB0.out.size))
                clear hbzz1
                (try go_wp2_with fail)
                refine hK.out _ _ ?_ (fun hHeld => ?_)
                · (try dsimp only); exact HS.out zz1 HBzz1.out
                clear hK K
                try simp only [Act.put, List.setIfInBounds_toArray, List.set_cons_zero, List.set_cons_succ]
                refine wpAnyH_take (i := 3) (oi := ?oi4) (v := ?v4) ?hi4 (by kernel_rfl) (by kernel_rfl) (by kernel_rfl) ?hq4 ?hy4 (by assumption) ?hr4
                case hi4 => (simp only [List.getElem?_toArray, List.getElem?_cons_succ, List.getElem?_cons_zero]; rfl)
                case hq4 => exact fun _ _ _ h => h
                case hy4 => exact Or.inl ⟨by rfl, by intro whSw hSw'; (try dsimp only at hSw'); (first | (go_simp; done) | (go_simp; with_reducible rfl))⟩
                try simp only [Act.put, List.setIfInBounds_toArray, List.set_cons_zero, List.set_cons_succ]
                refine wpAnyH_take (i := 4) (oi := ?oi5) (v := ?v5) ?hi5 (by kernel_rfl) (by kernel_rfl) (by kernel_rfl) ?hq5 ?hy5 (by assumption) ?hr5
                case hi5 => (simp only [List.getElem?_toArray, List.getElem?_cons_succ, List.getElem?_cons_zero]; rfl)
                case hq5 => exact fun _ _ _ h => h
                case hy5 => first | exact Or.inl ⟨by rfl, by intro whSw hSw'; (try dsimp only at hSw'); (first | (go_simp; done) | (go_simp; with_reducible rfl))⟩ | exact Or.inr ⟨by rfl, by with_reducible rfl⟩ | fail
                try simp only [Act.put, List.setIfInBounds_toArray, List.set_cons_zero, List.set_cons_succ]
                refine wpAnyH_take (i := 5) (oi := ?oi6) (v := ?v6) ?hi6 (by kernel_rfl) (by kernel_rfl) (by kernel_rfl) ?hq6 ?hy6 (by assumption) ?hr6
                case hi6 => (simp only [List.getElem?_toArray, List.getElem?_cons_succ, List.getElem?_cons_zero]; rfl)
                case hq6 => exact fun _ _ _ h => h
                case hy6 => first | exact Or.inl ⟨by rfl, by intro whSw hSw'; (try dsimp only at hSw'); (first | (go_simp; done) | (go_simp; with_reducible rfl))⟩ | exact Or.inr ⟨by rfl, by with_reducible rfl⟩ | fail
                try simp only [Act.put, List.setIfInBounds_toArray, List.set_cons_zero, List.set_cons_succ]
                refine wpAnyH_take (i := 6) (oi := ?oi7) (v := ?v7) ?hi7 (by kernel_rfl) (by kernel_rfl) (by kernel_rfl) ?hq7 ?hy7 (by assumption) ?hr7
                case hi7 => (simp only [List.getElem?_toArray, List.getElem?_cons_succ, List.getElem?_cons_zero]; rfl)
                case hq7 => exact fun _ _ _ h => h
                case hy7 => first | exact Or.inl ⟨by rfl, by intro whSw hSw'; (try dsimp only at hSw'); (first | (go_simp; done) | (go_simp; with_reducible rfl))⟩ | exact Or.inr ⟨by rfl, by with_reducible rfl⟩ | fail
                try simp only [Act.put, List.setIfInBounds_toArray, List.set_cons_zero, List.set_cons_succ]
                refine wpAnyH_take (i := 7) (oi := ?oi8) (v := ?v8) ?hi8 (by kernel_rfl) (by kernel_rfl) (by kernel_rfl) ?hq8 ?hy8 (by assumption) ?hr8
                case hi8 => (simp only [List.getElem?_toArray, List.getElem?_cons_succ, List.getElem?_cons_zero]; rfl)
                case hq8 => exact fun _ _ _ h => h
                case hy8 => first | exact Or.inl ⟨by rfl, by intro whSw hSw'; (try dsimp only at hSw'); (first | (go_simp; done) | (go_simp; with_reducible rfl))⟩ | exact Or.inr ⟨by rfl, by with_reducible rfl⟩ | fail
                try simp only [Act.put, List.setIfInBounds_toArray, List.set_cons_zero, List.set_cons_succ]
                refine wpAnyH_take (i := 8) (oi := ?oi9) (v := ?v9) ?hi9 (by kernel_rfl) (by kernel_rfl) (by kernel_rfl) ?hq9 ?hy9 (by assumption) ?hr9
                case hi9 => (simp only [List.getElem?_toArray, List.getElem?_cons_succ, List.getElem?_cons_zero]; rfl)
                case hq9 => exact fun _ _ _ h => h
                case hy9 => first | exact Or.inl ⟨by rfl, by intro whSw hSw'; (try dsimp only at hSw'); (first | (go_simp; done) | (go_simp; with_reducible rfl))⟩ | exact Or.inr ⟨by rfl, by with_reducible rfl⟩ | fail
                try simp only [Act.put, List.setIfInBounds_toArray, List.set_cons_zero, List.set_cons_succ]
                refine wpAnyH_take (i := 9) (oi := ?oi10) (v := ?v10) ?hi10 (by kernel_rfl) (by kernel_rfl) (by kernel_rfl) ?hq10 ?hy10 (by assumption) ?hr10
                case hi10 => (simp only [List.getElem?_toArray, List.getElem?_cons_succ, List.getElem?_cons_zero]; rfl)
                case hq10 => exact fun _ _ _ h => h
                case hy10 => first | exact Or.inl ⟨by rfl, by intro whSw hSw'; (try dsimp only at hSw'); (first | (go_simp; done) | (go_simp; with_reducible rfl))⟩ | exact Or.inr ⟨by rfl, by with_reducible rfl⟩ | fail
                try simp only [Act.put, List.setIfInBounds_toArray, List.set_cons_zero, List.set_cons_succ]
                refine wpAnyH_take (i := 10) (oi := ?oi11) (v := ?v11) ?hi11 (by kernel_rfl) (by kernel_rfl) (by kernel_rfl) ?hq11 ?hy11 (by assumption) ?hr11
                case hi11 => (simp only [List.getElem?_toArray, List.getElem?_cons_succ, List.getElem?_cons_zero]; rfl)
                case hq11 => exact fun _ _ _ h => h
                case hy11 => first | exact Or.inl ⟨by rfl, by intro whSw hSw'; (try dsimp only at hSw'); (first | (go_simp; done) | (go_simp; with_reducible rfl))⟩ | exact Or.inr ⟨by rfl, by with_reducible rfl⟩ | fail
                try simp only [Act.put, List.setIfInBounds_toArray, List.set_cons_zero, List.set_cons_succ]
                refine wpAnyH_take (i := 11) (oi := ?oi12) (v := ?v12) ?hi12 (by kernel_rfl) (by kernel_rfl) (by kernel_rfl) ?hq12 ?hy12 (by assumption) ?hr12
                case hi12 => (simp only [List.getElem?_toArray, List.getElem?_cons_succ, List.getElem?_cons_zero]; rfl)
                case hq12 => exact fun _ _ _ h => h
                case hy12 => first | exact Or.inl ⟨by rfl, by intro whSw hSw'; (try dsimp only at hSw'); (first | (go_simp; done) | (go_simp; with_reducible rfl))⟩ | exact Or.inr ⟨by rfl, by with_reducible rfl⟩ | fail
                try simp only [Act.put, List.setIfInBounds_toArray, List.set_cons_zero, List.set_cons_succ]
                refine wpAnyH_take (i := 12) (oi := ?oi13) (v := ?v13) ?hi13 (by kernel_rfl) (by kernel_rfl) (by kernel_rfl) ?hq13 ?hy13 (by assumption) ?hr13
                case hi13 => (simp only [List.getElem?_toArray, List.getElem?_cons_succ, List.getElem?_cons_zero]; rfl)
                case hq13 => exact fun _ _ _ h => h
                case hy13 => first | exact Or.inl ⟨by rfl, by intro whSw hSw'; (try dsimp only at hSw'); (first | (go_simp; done) | (go_simp; with_reducible rfl))⟩ | exact Or.inr ⟨by rfl, by with_reducible rfl⟩ | fail
                try simp only [Act.put, List.setIfInBounds_toArray, List.set_cons_zero, List.set_cons_succ]
                refine wpAnyH_take (i := 13) (oi := ?oi14) (v := ?v14) ?hi14 (by kernel_rfl) (by kernel_rfl) (by kernel_rfl) ?hq14 ?hy14 (by assumption) ?hr14
                case hi14 => (simp only [List.getElem?_toArray, List.getElem?_cons_succ, List.getElem?_cons_zero]; rfl)
                case hq14 => exact fun _ _ _ h => h
                case hy14 => first | exact Or.inl ⟨by rfl, by intro whSw hSw'; (try dsimp only at hSw'); (first | (go_simp; done) | (go_simp; with_reducible rfl))⟩ | exact Or.inr ⟨by rfl, by with_reducible rfl⟩ | fail
                try simp only [Act.put, List.setIfInBounds_toArray, List.set_cons_zero, List.set_cons_succ]
                refine wpAnyH_take (i := 14) (oi := ?oi15) (v := ?v15) ?hi15 (by kernel_rfl) (by kernel_rfl) (by kernel_rfl) ?hq15 ?hy15 (by assumption) ?hr15
                case hi15 => (simp only [List.getElem?_toArray, List.getElem?_cons_succ, List.getElem?_cons_zero]; rfl)
                case hq15 => exact fun _ _ _ h => h
                case hy15 => first | exact Or.inl ⟨by rfl, by intro whSw hSw'; (try dsimp only at hSw'); (first | (go_simp; done) | (go_simp; with_reducible rfl))⟩ | exact Or.inr ⟨by rfl, by with_reducible rfl⟩ | fail
                try simp only [Act.put, List.setIfInBounds_toArray, List.set_cons_zero, List.set_cons_succ]
                refine wpAnyH_take (i := 15) (oi := ?oi16) (v := ?v16) ?hi16 (by kernel_rfl) (by kernel_rfl) (by kernel_rfl) ?hq16 ?hy16 (by assumption) ?hr16
                case hi16 => (simp only [List.getElem?_toArray, List.getElem?_cons_succ, List.getElem?_cons_zero]; rfl)
                case hq16 => exact fun _ _ _ h => h
                case hy16 => first | exact Or.inl ⟨by rfl, by intro whSw hSw'; (try dsimp only at hSw'); (first | (go_simp; done) | (go_simp; with_reducible rfl))⟩ | exact Or.inr ⟨by rfl, by with_reducible rfl⟩ | fail
                try simp only [Act.put, List.setIfInBounds_toArray, List.set_cons_zero, List.set_cons_succ]
                refine wpAnyH_take (i := 16) (oi := ?oi17) (v := ?v17) ?hi17 (by kernel_rfl) (by kernel_rfl) (by kernel_rfl) ?hq17 ?hy17 (by assumption) ?hr17
                case hi17 => (simp only [List.getElem?_toArray, List.getElem?_cons_succ, List.getElem?_cons_zero]; rfl)
                case hq17 => exact fun _ _ _ h => h
                case hy17 => exact Or.inl ⟨by rfl, by intro whSw hSw'; (try dsimp only at hSw'); (first | (go_simp; done) | (go_simp; with_reducible rfl))⟩
                try simp only [Act.put, List.setIfInBounds_toArray, List.set_cons_zero, List.set_cons_succ]
                refine wpAnyH_done (by kernel_rfl) ?_ _
                go_wp2_with fail
                exact ⟨⟨k + 1, b, by omega, by go_num, rfl, hbr, HSUC, Lib.hid (HNXT.out _ HBzz1.out)⟩, by simp only [Go.RowKit.intOf]; omega⟩
              exact AllReadyH.nil
            | true =>
              by_cases hb0 : b < 0
              · rw [best_first hgk hd hb0] at hsuc
                have HSUC := Lib.hid hsuc
                clear hsuc hgk hd hbw hbl2 hcel hcc hV hNy hby hbV hszV hNxy hbxV hnx hlt1 hlt2' HBS HB2
                go_wp2_with fail
                rw [HVV.out, HNY.out]
                clear c1 c2 c3
                obtain ⟨X2, hX2⟩ : ∃ X, V.drew = X := ⟨_, rfl⟩
                have HX2 := Lib.hid hX2
                have HB0 := Lib.hid (show Below V.heap.size V X2 by rw [← hX2]; exact (Below.refl _ _).drew)
                clear hX2
                refine wp_region_held_drew (S := (fun w' => w'.cell? ⟨Nx, 0, none⟩ = some (.int .i64 x1) ∧ w'.cell? ⟨Nx, 1, none⟩ = some (.int .i64 x2) ∧ w'.cell? ⟨Nx, 2, none⟩ = some (.int .i64 x3) ∧ w'.cell? ⟨Ny, 0, none⟩ = some (.int .i64 y1) ∧ w'.cell? ⟨Ny, 1, none⟩ = some (.int .i64 y2) ∧ w'.cell? ⟨Ny, 2, none⟩ = some (.int .i64 y3))) (by kernel_rfl) ?_ (fun hHeld => ?_)
                · (try dsimp only); (rw [HX2.out]; exact HS.out X2 HB0.out)
                rw [HX2.out] at hHeld ⊢
                refine wpAnyH_take (i := 0) (oi := ?oi1001) (v := ?v1001) ?hi1001 (by kernel_rfl) (by kernel_rfl) (by kernel_rfl) ?hq1001 ?hy1001 (by assumption) ?hr1001
                case hi1001 => (simp only [List.getElem?_toArray, List.getElem?_cons_zero]; rfl)
                case hq1001 => exact fun _ _ _ h => h
                case hy1001 => exact Or.inl ⟨by rfl, by intro whSw hSw'; (try dsimp only at hSw'); (first | (go_simp; done) | (go_simp; with_reducible rfl))⟩
                try simp only [Act.put, List.setIfInBounds_toArray, List.set_cons_zero, List.set_cons_succ]
                refine wpAnyH_take (i := 1) (oi := ?oi1002) (v := ?v1002) ?hi1002 (by kernel_rfl) (by kernel_rfl) (by kernel_rfl) ?hq1002 ?hy1002 (by assumption) ?hr1002
                case hi1002 => (simp only [List.getElem?_toArray, List.getElem?_cons_succ, List.getElem?_cons_zero]; rfl)
                case hq1002 => exact fun _ _ _ h => h
                case hy1002 => exact Or.inl ⟨by rfl, by intro whSw hSw'; (try dsimp only at hSw'); (first | (go_simp; done) | (go_simp; with_reducible rfl))⟩
                try simp only [Act.put, List.setIfInBounds_toArray, List.set_cons_zero, List.set_cons_succ]
                refine wpAnyH_ready (rs := [2]) (by kernel_rfl) (by simp) ?_
                refine AllReadyH.cons (o := ?oo1003) ?hi1003 (fun K hK => ?hs1003) ?hm1003
                case hi1003 => (simp only [List.getElem?_toArray, List.getElem?_cons_succ, List.getElem?_cons_zero]; rfl)
                · go_simp
                  refine (HD.out X2).mono ?_
                  rintro e zz1 ⟨rfl, hbzz1⟩
                  have HBzz1 := Lib.hid (HB0.out.trans (hbzz1.mono HB0.out.size))
                  clear hbzz1
                  (try go_wp2_with fail)
                  refine hK.out _ _ ?_ (fun hHeld => ?_)
                  · (try dsimp only); exact HS.out zz1 HBzz1.out
                  clear hK K
                  try simp only [Act.put, List.setIfInBounds_toArray, List.set_cons_zero, List.set_cons_succ]
                  refine wpAnyH_take (i := 3) (oi := ?oi1004) (v := ?v1004) ?hi1004 (by kernel_rfl) (by kernel_rfl) (by kernel_rfl) ?hq1004 ?hy1004 (by assumption) ?hr1004
                  case hi1004 => (simp only [List.getElem?_toArray, List.getElem?_cons_succ, List.getElem?_cons_zero]; rfl)
                  case hq1004 => exact fun _ _ _ h => h
                  case hy1004 => exact Or.inl ⟨by rfl, by intro whSw hSw'; (try dsimp only at hSw'); (first | (go_simp; done) | (go_simp; with_reducible rfl))⟩
                  try simp only [Act.put, List.setIfInBounds_toArray, List.set_cons_zero, List.set_cons_succ]
                  refine wpAnyH_take (i := 4) (oi := ?oi1005) (v := ?v1005) ?hi1005 (by kernel_rfl) (by kernel_rfl) (by kernel_rfl) ?hq1005 ?hy1005 (by assumption) ?hr1005
                  case hi1005 => (simp only [List.getElem?_toArray, List.getElem?_cons_succ, List.getElem?_cons_zero]; rfl)
                  case hq1005 => exact fun _ _ _ h => h
                  case hy1005 => first | exact Or.inl ⟨by rfl, by intro whSw hSw'; (try dsimp only at hSw'); (first | (go_simp; done) | (go_simp; with_reducible rfl))⟩ | exact Or.inr ⟨by rfl, by with_reducible rfl⟩ | fail
                  try simp only [Act.put, List.setIfInBounds_toArray, List.set_cons_zero, List.set_cons_succ]
                  refine wpAnyH_take (i := 5) (oi := ?oi1006) (v := ?v1006) ?hi1006 (by kernel_rfl) (by kernel_rfl) (by kernel_rfl) ?hq1006 ?hy1006 (by assumption) ?hr1006
                  case hi1006 => (simp only [List.getElem?_toArray, List.getElem?_cons_succ, List.getElem?_cons_zero]; rfl)
                  case hq1006 => exact fun _ _ _ h => h
                  case hy1006 => first | exact Or.inl ⟨by rfl, by intro whSw hSw'; (try dsimp only at hSw'); (first | (go_simp; done) | (go_simp; with_reducible rfl))⟩ | exact Or.inr ⟨by rfl, by with_reducible rfl⟩ | fail
                  try simp only [Act.put, List.setIfInBounds_toArray, List.set_cons_zero, List.set_cons_succ]
                  refine wpAnyH_take (i := 6) (oi := ?oi1007) (v := ?v1007) ?hi1007 (by kernel_rfl) (by kernel_rfl) (by kernel_rfl) ?hq1007 ?hy1007 (by assumption) ?hr1007
                  case hi1007 => (simp only [List.getElem?_toArray, List.getElem?_cons_succ, List.getElem?_cons_zero]; rfl)
                  case hq1007 => exact fun _ _ _ h => h
                  case hy1007 => first | exact Or.inl ⟨by rfl, by intro whSw hSw'; (try dsimp only at hSw'); (first | (go_simp; done) | (go_simp; with_reducible rfl))⟩ | exact Or.inr ⟨by rfl, by with_reducible rfl⟩ | fail
                  try simp only [Act.put, List.setIfInBounds_toArray, List.set_cons_zero, List.set_cons_succ]
                  refine wpAnyH_take (i := 7) (oi := ?oi1008) (v := ?v1008) ?hi1008 (by kernel_rfl) (by kernel_rfl) (by kernel_rfl) ?hq1008 ?hy1008 (by assumption) ?hr1008
                  case hi1008 => (simp only [List.getElem?_toArray, List.getElem?_cons_succ, List.getElem?_cons_zero]; rfl)
                  case hq1008 => exact fun _ _ _ h => h
                  case hy1008 => first | exact Or.inl ⟨by rfl, by intro whSw hSw'; (try dsimp only at hSw'); (first | (go_simp; done) | (go_simp; with_reducible rfl))⟩ | exact Or.inr ⟨by rfl, by with_reducible rfl⟩ | fail
                  try simp only [Act.put, List.setIfInBounds_toArray, List.set_cons_zero, List.set_cons_succ]
                  refine wpAnyH_take (i := 8) (oi := ?oi1009) (v := ?v1009) ?hi1009 (by kernel_rfl) (by kernel_rfl) (by kernel_rfl) ?hq1009 ?hy1009 (by assumption) ?hr1009
                  case hi1009 => (simp only [List.getElem?_toArray, List.getElem?_cons_succ, List.getElem?_cons_zero]; rfl)
                  case hq1009 => exact fun _ _ _ h => h
                  case hy1009 => first | exact Or.inl ⟨by rfl, by intro whSw hSw'; (try dsimp only at hSw'); (first | (go_simp; done) | (go_simp; with_reducible rfl))⟩ | exact Or.inr ⟨by rfl, by with_reducible rfl⟩ | fail
                  try simp only [Act.put, List.setIfInBounds_toArray, List.set_cons_zero, List.set_cons_succ]
                  refine wpAnyH_take (i := 9) (oi := ?oi1010) (v := ?v1010) ?hi1010 (by kernel_rfl) (by kernel_rfl) (by kernel_rfl) ?hq1010 ?hy1010 (by assumption) ?hr1010
                  case hi1010 => (simp only [List.getElem?_toArray, List.getElem?_cons_succ, List.getElem?_cons_zero]; rfl)
                  case hq1010 => exact fun _ _ _ h => h
                  case hy1010 => first | exact Or.inl ⟨by rfl, by intro whSw hSw'; (try dsimp only at hSw'); (first | (go_simp; done) | (go_simp; with_reducible rfl))⟩ | exact Or.inr ⟨by rfl, by with_reducible rfl⟩ | fail
                  try simp only [Act.put, List.setIfInBounds_toArray, List.set_cons_zero, List.set_cons_succ]
                  refine wpAnyH_take (i := 10) (oi := ?oi1011) (v := ?v1011) ?hi1011 (by kernel_rfl) (by kernel_rfl) (by kernel_rfl) ?hq1011 ?hy1011 (by assumption) ?hr1011
                  case hi1011 => (simp only [List.getElem?_toArray, List.getElem?_cons_succ, List.getElem?_cons_zero]; rfl)
                  case hq1011 => exact fun _ _ _ h => h
                  case hy1011 => first | exact Or.inl ⟨by rfl, by intro whSw hSw'; (try dsimp only at hSw'); (first | (go_simp; done) | (go_simp; with_reducible rfl))⟩ | exact Or.inr ⟨by rfl, by with_reducible rfl⟩ | fail
                  try simp only [Act.put, List.setIfInBounds_toArray, List.set_cons_zero, List.set_cons_succ]
                  refine wpAnyH_take (i := 11) (oi := ?oi1012) (v := ?v1012) ?hi1012 (by kernel_rfl) (by kernel_rfl) (by kernel_rfl) ?hq1012 ?hy1012 (by assumption) ?hr1012
                  case hi1012 => (simp only [List.getElem?_toArray, List.getElem?_cons_succ, List.getElem?_cons_zero]; rfl)
                  case hq1012 => exact fun _ _ _ h => h
                  case hy1012 => first | exact Or.inl ⟨by rfl, by intro whSw hSw'; (try dsimp only at hSw'); (first | (go_simp; done) | (go_simp; with_reducible rfl))⟩ | exact Or.inr ⟨by rfl, by with_reducible rfl⟩ | fail
                  try simp only [Act.put, List.setIfInBounds_toArray, List.set_cons_zero, List.set_cons_succ]
                  refine wpAnyH_take (i := 12) (oi := ?oi1013) (v := ?v1013) ?hi1013 (by kernel_rfl) (by kernel_rfl) (by kernel_rfl) ?hq1013 ?hy1013 (by assumption) ?hr1013
                  case hi1013 => (simp only [List.getElem?_toArray, List.getElem?_cons_succ, List.getElem?_cons_zero]; rfl)
                  case hq1013 => exact fun _ _ _ h => h
                  case hy1013 => first | exact Or.inl ⟨by rfl, by intro whSw hSw'; (try dsimp only at hSw'); (first | (go_simp; done) | (go_simp; with_reducible rfl))⟩ | exact Or.inr ⟨by rfl, by with_reducible rfl⟩ | fail
                  try simp only [Act.put, List.setIfInBounds_toArray, List.set_cons_zero, List.set_cons_succ]
                  refine wpAnyH_take (i := 13) (oi := ?oi1014) (v := ?v1014) ?hi1014 (by kernel_rfl) (by kernel_rfl) (by kernel_rfl) ?hq1014 ?hy1014 (by assumption) ?hr1014
                  case hi1014 => (simp only [List.getElem?_toArray, List.getElem?_cons_succ, List.getElem?_cons_zero]; rfl)
                  case hq1014 => exact fun _ _ _ h => h
                  case hy1014 => first | exact Or.inl ⟨by rfl, by intro whSw hSw'; (try dsimp only at hSw'); (first | (go_simp; done) | (go_simp; with_reducible rfl))⟩ | exact Or.inr ⟨by rfl, by with_reducible rfl⟩ | fail
                  try simp only [Act.put, List.setIfInBounds_toArray, List.set_cons_zero, List.set_cons_succ]
                  refine wpAnyH_take (i := 14) (oi := ?oi1015) (v := ?v1015) ?hi1015 (by kernel_rfl) (by kernel_rfl) (by kernel_rfl) ?hq1015 ?hy1015 (by assumption) ?hr1015
                  case hi1015 => (simp only [List.getElem?_toArray, List.getElem?_cons_succ, List.getElem?_cons_zero]; rfl)
                  case hq1015 => exact fun _ _ _ h => h
                  case hy1015 => first | exact Or.inl ⟨by rfl, by intro whSw hSw'; (try dsimp only at hSw'); (first | (go_simp; done) | (go_simp; with_reducible rfl))⟩ | exact Or.inr ⟨by rfl, by with_reducible rfl⟩ | fail
                  try simp only [Act.put, List.setIfInBounds_toArray, List.set_cons_zero, List.set_cons_succ]
                  refine wpAnyH_take (i := 15) (oi := ?oi1016) (v := ?v1016) ?hi1016 (by kernel_rfl) (by kernel_rfl) (by kernel_rfl) ?hq1016 ?hy1016 (by assumption) ?hr1016
                  case hi1016 => (simp only [List.getElem?_toArray, List.getElem?_cons_succ, List.getElem?_cons_zero]; rfl)
                  case hq1016 => exact fun _ _ _ h => h
                  case hy1016 => first | exact Or.inl ⟨by rfl, by intro whSw hSw'; (try dsimp only at hSw'); (first | (go_simp; done) | (go_simp; with_reducible rfl))⟩ | exact Or.inr ⟨by rfl, by with_reducible rfl⟩ | fail
                  try simp only [Act.put, List.setIfInBounds_toArray, List.set_cons_zero, List.set_cons_succ]
                  refine wpAnyH_take (i := 16) (oi := ?oi1017) (v := ?v1017) ?hi1017 (by kernel_rfl) (by kernel_rfl) (by kernel_rfl) ?hq1017 ?hy1017 (by assumption) ?hr1017
                  case hi1017 => (simp only [List.getElem?_toArray, List.getElem?_cons_succ, List.getElem?_cons_zero]; rfl)
                  case hq1017 => exact fun _ _ _ h => h
                  case hy1017 => exact Or.inl ⟨by rfl, by intro whSw hSw'; (try dsimp only at hSw'); (first | (go_simp; done) | (go_simp; with_reducible rfl))⟩
                  try simp only [Act.put, List.setIfInBounds_toArray, List.set_cons_zero, List.set_cons_succ]
                  refine wpAnyH_done (by kernel_rfl) ?_ _
                  go_wp2_with fail
                  exact ⟨⟨k + 1, k, by omega, by go_num, rfl, .inr ⟨by omega, hki⟩, HSUC, Lib.hid (HNXT.out _ HBzz1.out)⟩, by simp only [Go.RowKit.intOf]; omega⟩
                exact AllReadyH.nil
              · obtain ⟨q, rfl⟩ : ∃ q : Nat, b = (q : Int) := ⟨b.toNat, by omega⟩
                have hqn : q < n := by omega
                have hqi : (q : Int) < (n : Int) := by omega
                have hq0 : ¬ (q : Int) < 0 := by omega
                obtain ⟨g, hg⟩ : ∃ a, L[q]? = some a := ⟨_, List.getElem?_eq_getElem (by rw [HN.out]; exact hqn)⟩
                have hgg : L.getD q (0, 0, 0) = g := getD_of hg
                obtain ⟨g1, g2, g3⟩ := g
                have hcg := (hcel q _ hg).2.2
                simp only at hcg
                have hlbl : bl < V.heap.size := by have := hbV.size; omega
                have hcgV : V.cell? ⟨bl, ol + q * 3 + 2, none⟩ = some (.int .i64 g3) := (hbV.cell (p := ⟨bl, ol + q * 3 + 2, none⟩) (by rw [← hNy]; exact hbl2)).trans hcg
                have HS7 := Lib.hid (fun (W' : World) (hb : Below V.heap.size V W') => show W'.cell? ⟨Nx, 0, none⟩ = some (.int .i64 x1) ∧ W'.cell? ⟨Nx, 1, none⟩ = some (.int .i64 x2) ∧ W'.cell? ⟨Nx, 2, none⟩ = some (.int .i64 x3) ∧ W'.cell? ⟨Ny, 0, none⟩ = some (.int .i64 y1) ∧ W'.cell? ⟨Ny, 1, none⟩ = some (.int .i64 y2) ∧ W'.cell? ⟨Ny, 2, none⟩ = some (.int .i64 y3) ∧ W'.cell? ⟨bl, ol + q * 3 + 2, none⟩ = some (.int .i64 g3) from (fun t6 t7 => ⟨t6.1, t6.2.1, t6.2.2.1, t6.2.2.2.1, t6.2.2.2.2.1, t6.2.2.2.2.2, t7⟩) (HS.out W' hb) ((hb.cell (p := ⟨bl, ol + q * 3 + 2, none⟩) hlbl).trans hcgV))
                by_cases hcmp : g3 < y3
                · rw [best_more hgk hd hgg hcmp] at hsuc
                  have HSUC := Lib.hid hsuc
                  clear hsuc hgk hd hbw hbl2 hcel hcc hV hNy hby hbV hszV hNxy hbxV hnx hlt1 hlt2' HBS HB2 hg hgg hcg hlbl hcgV
                  go_wp2_with fail
                  rw [HVV.out, HNY.out]
                  clear c1 c2 c3
                  go_region_held3 (fun W' => W'.cell? ⟨Nx, 0, none⟩ = some (.int .i64 x1) ∧ W'.cell? ⟨Nx, 1, none⟩ = some (.int .i64 x2) ∧ W'.cell? ⟨Nx, 2, none⟩ = some (.int .i64 x3) ∧ W'.cell? ⟨Ny, 0, none⟩ = some (.int .i64 y1) ∧ W'.cell? ⟨Ny, 1, none⟩ = some (.int .i64 y2) ∧ W'.cell? ⟨Ny, 2, none⟩ = some (.int .i64 y3) ∧ W'.cell? ⟨bl, ol + q * 3 + 2, none⟩ = some (.int .i64 g3))
                    (first
                      | (with_reducible exact HS7.out _ HX0.out)
                      | (with_reducible exact HS7.out _ HX1.out)
                      | fail)
                    ((first
                      | (go_at_call 22; (with_reducible refine (HD.out _).mono ?_); rintro e w5 ⟨rfl, hb5⟩; have HX1 := Lib.hid (HX0.out.trans (hb5.mono HX0.out.size)); clear hb5)
                      | fail))
                  go_wp2_with fail
                  exact ⟨⟨k + 1, k, by omega, by go_num, rfl, .inr ⟨by omega, hki⟩, HSUC, Lib.hid (HNXT.out _ HX1.out)⟩, by simp only [Go.RowKit.intOf]; omega⟩
                · rw [best_less hgk hd hgg hcmp] at hsuc
                  have HSUC := Lib.hid hsuc
                  clear hsuc hgk hd hbw hbl2 hcel hcc hV hNy hby hbV hszV hNxy hbxV hnx hlt1 hlt2' HBS HB2 hg hgg hcg hlbl hcgV
                  go_wp2_with fail
                  rw [HVV.out, HNY.out]
                  clear c1 c2 c3
                  go_region_held3 (fun W' => W'.cell? ⟨Nx, 0, none⟩ = some (.int .i64 x1) ∧ W'.cell? ⟨Nx, 1, none⟩ = some (.int .i64 x2) ∧ W'.cell? ⟨Nx, 2, none⟩ = some (.int .i64 x3) ∧ W'.cell? ⟨Ny, 0, none⟩ = some (.int .i64 y1) ∧ W'.cell? ⟨Ny, 1, none⟩ = some (.int .i64 y2) ∧ W'.cell? ⟨Ny, 2, none⟩ = some (.int .i64 y3) ∧ W'.cell? ⟨bl, ol + q * 3 + 2, none⟩ = some (.int .i64 g3))
                    (first
                      | (with_reducible exact HS7.out _ HX0.out)
                      | (with_reducible exact HS7.out _ HX1.out)
                      | fail)
                    ((first
                      | (go_at_call 22; (with_reducible refine (HD.out _).mono ?_); rintro e w5 ⟨rfl, hb5⟩; have HX1 := Lib.hid (HX0.out.trans (hb5.mono HX0.out.size)); clear hb5)
                      | fail))
                  go_wp2_with fail
                  exact ⟨⟨k + 1, q, by omega, by go_num, rfl, .inr ⟨by omega, hqi⟩, HSUC, Lib.hid (HNXT.out _ HX1.out)⟩, by simp only [Go.RowKit.intOf]; omega⟩
          · obtain rfl : k = n := by omega
            have hbest : bestL L (x1, x2, x3) = b := by
              have := HBS.out
              rw [← bstL_full, HN.out]
              exact this
            have hown : wr.ownsRow N0 3 1 (.slice Al i cl) i (((L.take i).map (bestL L)).map fun x => Value.int .i64 x) := own_below HO.out fun g hg => by
              have := (own_low HO.out g hg).2
              rw [HNx.out] at this
              exact (HB2.out.1.block g (by omega)).trans (HBW.out.block g this)
            have hst : ((L.take (i + 1)).map (bestL L)).map (fun x => Value.int .i64 x) = ((L.take i).map (bestL L)).map (fun x => Value.int .i64 x) ++ [.int .i64 b] := by
              rw [List.take_add_one, HAL.out, Option.toList_some, List.map_append, List.map_append, List.map_singleton, List.map_singleton, hbest]
            have hbw : Below N0 w wr := HBB.out.trans (HB2.out.1.mono (by have := HN0X.out; omega))
            have HOWN := Lib.hid hown
            have HST := Lib.hid hst
            have HBEL := Lib.hid hbw
            have hsz0 : N0 ≤ wr.heap.size := by rw [← HN0.out]; exact hbw.size
            have hi6 : i ≤ 1000000 := by omega
            clear hbest hown hst hbw HB2 HBS HBX HBW HWB HBB HSZ HO
            go_wp2_with (at_builtin; refine wpList_pushI rfl (.tmp 49) (.tmp 51) rfl N0 _ _ _ b rfl rfl HOWN.out hi6 hsz0 ?_; intro v' w' HO2 HB2 HK2)
            rw [← HST.out] at HO2
            have HB3 := Lib.hid (HB2.out _ _ HBEL.out (Nat.le_refl _))
            go_wp2_with fail
            exact ⟨⟨i + 1, by omega, by go_num, HO2, HB3⟩, by simp only [Go.RowKit.intOf]; omega⟩
      · obtain rfl : i = n := by omega
        have hup : (L.take i).map (bestL L) = upL L := by
          rw [List.take_of_length_le (by rw [HN.out]; exact Nat.le_refl _)]
          rfl
        have hul : (upL L).length = i := by unfold upL; rw [List.length_map, HN.out]
        have hown := HO.out
        rw [hup] at hown
        have hrow : Rows 1 EInt wr (.slice Al i cl) (upL L) := own_rows (base := N0) (by rw [hul]; exact hown)
        have hasg := refAssign_any hrow (by rw [hul]; unfold maxLen; omega)
        have HROW := Lib.hid (fun W (hb : Below wr.heap.size wr W) => hrow.below stays_int hb)
        by_cases he : (checkH (upL L)).2 = 0
        · obtain ⟨ha, hok⟩ := assign_okk (check_zero he)
          rw [ha] at hasg
          simp only at hasg
          have hgl := labH_len hok
          rw [hul] at hgl
          obtain ⟨G, hG⟩ : ∃ G, labH (upL L) = G := ⟨_, rfl⟩
          rw [hG] at hasg hgl
          have HAS := Lib.hid hasg
          have HGL := Lib.hid hgl
          have HBEL := Lib.hid HB.out
          have HNO := Lib.hid (fun (hne : ¬ G = L) => show R1 = [] ∧ R2 = 9 from by
            have := par_no HN.out (by omega) (fun h => hne (hG.symm.trans h.2))
            rw [HR.out] at this
            exact ⟨congrArg Prod.fst this, congrArg Prod.snd this⟩)
          have HYES := Lib.hid (fun (hne : G = L) => show R1 = upL L ∧ R2 = 0 from by
            have := par_yes HN.out (by omega) ⟨he, hG.trans hne⟩
            rw [HR.out] at this
            exact ⟨congrArg Prod.fst this, congrArg Prod.snd this⟩)
          clear hup hul hown hrow hasg he ha hok hgl hG HO HB
          go_wp2_with fail
          refine HAS.out.mono ?_
          rintro e w5 ⟨⟨lv, rfl, hlv⟩, hb5⟩
          have HB5 := Lib.hid hb5
          have HG := Lib.hid (fun W (hb : Below w5.heap.size w5 W) => hlv.below stays_lb hb)
          obtain ⟨A2, cap2, rfl, hc2⟩ := hlv.form
          rw [HGL.out] at hc2 HG
          have HB6 := Lib.hid (HBEL.out.trans (hb5.mono (by rw [← HN0.out]; exact HBEL.out.size)))
          clear hlv hb5 HAS
          rw [HGL.out]
          go_wp2_with fail
          go_loopw [64] (fun m wr2 => ∃ k : Nat, k ≤ i ∧ m = .int .i64 k ∧ Hid (∀ (j : Nat), j < k → G[j]? = L[j]?) ∧ Hid (Below w5.heap.size w5 wr2)) (fun m _ => i - (Go.RowKit.intOf m).toNat)
          case atStart => exact ⟨0, Nat.zero_le _, rfl, Lib.hid (fun j h => absurd h (by omega)), Lib.hid (Below.refl _ _)⟩
          case round =>
            obtain ⟨k, hk, rfl, hno, hb⟩ := hrel
            by_cases hlt : k < i
            · obtain ⟨x, hx⟩ : ∃ x, G[k]? = some x := ⟨_, List.getElem?_eq_getElem (by rw [HGL.out]; exact hlt)⟩
              obtain ⟨y, hy⟩ : ∃ x, L[k]? = some x := ⟨_, List.getElem?_eq_getElem (by rw [HN.out]; exact hlt)⟩
              obtain ⟨b1, o1, rfl, -, hj1⟩ := at_lb (HG.out wr hb.out) (by rw [HGL.out]; omega)
              have hbb : Below N0 w wr := HB6.out.trans (hb.out.mono (by rw [← HN0.out]; exact HB6.out.size))
              obtain ⟨b2, o2, rfl, -, hj2⟩ := at_lb (HV.out wr hbb) (by rw [HN.out]; omega)
              obtain ⟨x1, x2, x3⟩ := x
              obtain ⟨y1, y2, y3⟩ := y
              obtain ⟨u0, u1, u2⟩ := hj1 k _ hx
              obtain ⟨s0, s1, s2⟩ := hj2 k _ hy
              simp only at u0 u1 u2 s0 s1 s2
              have HX := Lib.hid hx
              have HY := Lib.hid hy
              have HBB := Lib.hid hbb
              have k0 : (0 : Int) ≤ (k : Int) := by omega
              have kn : (k : Int) < (i : Int) := by omega
              clear hj1 hj2 hx hy hbb
              have key : (x1, x2, x3) ≠ (y1, y2, y3) → R1 = [] ∧ R2 = 9 := fun hxy => HNO.out fun e => by
                rw [e, HY.out] at HX
                exact hxy (Option.some.inj HX.out).symm
              by_cases e1 : x1 = y1
              · subst e1
                by_cases e2 : x2 = y2
                · subst e2
                  by_cases e3 : x3 = y3
                  · subst e3
                    have hno' : Hid (∀ (j : Nat), j < k + 1 → G[j]? = L[j]?) := Lib.hid fun j hj => by
                      by_cases e : j = k
                      · subst e; rw [HX.out, HY.out]
                      · exact hno.out j (by omega)
                    clear key
                    go_wp2_with fail
                    go_quiet (fail)
                    obtain ⟨w3, hw3⟩ : ∃ X, wr.drewN nq = X := ⟨_, rfl⟩
                    rw [hw3]
                    have HB3 := Lib.hid (show Below w5.heap.size w5 w3 by rw [← hw3]; exact below_drewN hb.out nq)
                    have HB4 := Lib.hid (show Below N0 w w3 by rw [← hw3]; exact below_drewN HBB.out nq)
                    clear hw3 u0 u1 u2 s0 s1 s2
                    go_wp2_with fail
                    exact ⟨⟨k + 1, by omega, by go_num, hno', HB3⟩, by simp only [Go.RowKit.intOf]; omega⟩
                  · skip
                    obtain ⟨rfl, rfl⟩ := key (by simp [e3])
                    clear key
                    go_wp2_with fail
                    go_quiet (fail)
                    obtain ⟨w3, hw3⟩ : ∃ X, wr.drewN nq = X := ⟨_, rfl⟩
                    rw [hw3]
                    have HB3 := Lib.hid (show Below w5.heap.size w5 w3 by rw [← hw3]; exact below_drewN hb.out nq)
                    have HB4 := Lib.hid (show Below N0 w w3 by rw [← hw3]; exact below_drewN HBB.out nq)
                    clear hw3 u0 u1 u2 s0 s1 s2
                    go_wp2_with fail
                    go_ret2
                    exact ⟨⟨_, rfl, Rows.nil _⟩, HB4.out⟩
                · skip
                  obtain ⟨rfl, rfl⟩ := key (by simp [e2])
                  clear key
                  go_wp2_with fail
                  go_quiet (fail)
                  obtain ⟨w3, hw3⟩ : ∃ X, wr.drewN nq = X := ⟨_, rfl⟩
                  rw [hw3]
                  have HB3 := Lib.hid (show Below w5.heap.size w5 w3 by rw [← hw3]; exact below_drewN hb.out nq)
                  have HB4 := Lib.hid (show Below N0 w w3 by rw [← hw3]; exact below_drewN HBB.out nq)
                  clear hw3 u0 u1 u2 s0 s1 s2
                  go_wp2_with fail
                  go_ret2
                  exact ⟨⟨_, rfl, Rows.nil _⟩, HB4.out⟩
              · skip
                obtain ⟨rfl, rfl⟩ := key (by simp [e1])
                clear key
                go_wp2_with fail
                go_quiet (fail)
                obtain ⟨w3, hw3⟩ : ∃ X, wr.drewN nq = X := ⟨_, rfl⟩
                rw [hw3]
                have HB3 := Lib.hid (show Below w5.heap.size w5 w3 by rw [← hw3]; exact below_drewN hb.out nq)
                have HB4 := Lib.hid (show Below N0 w w3 by rw [← hw3]; exact below_drewN HBB.out nq)
                clear hw3 u0 u1 u2 s0 s1 s2
                go_wp2_with fail
                go_ret2
                exact ⟨⟨_, rfl, Rows.nil _⟩, HB4.out⟩
            · obtain rfl : k = i := by omega
              have heq : G = L := List.ext_getElem? fun j => by
                by_cases hj : j < k
                · exact hno.out j hj
                · rw [List.getElem?_eq_none (by rw [HGL.out]; omega), List.getElem?_eq_none (by rw [HN.out]; omega)]
              obtain ⟨rfl, rfl⟩ := HYES.out heq
              have HE := Lib.hid (HB5.out.trans (hb.out.mono HB5.out.size))
              have HE2 := Lib.hid (HB6.out.trans (hb.out.mono (by rw [← HN0.out]; exact HB6.out.size)))
              clear hb
              go_wp2_with fail
              go_ret2
              exact ⟨⟨_, rfl, HROW.out _ HE.out⟩, HE2.out⟩
        · have ha := assign_err (a := (checkH (upL L)).1) (b := (checkH (upL L)).2) rfl he
          obtain ⟨q, hq⟩ : ∃ q, (checkH (upL L)).2 = q := ⟨_, rfl⟩
          obtain ⟨r, hr⟩ : ∃ q, (checkH (upL L)).1 = q := ⟨_, rfl⟩
          rw [ha, hq, hr] at hasg
          simp only at hasg
          have hq0 : ¬ q = 0 := by rw [← hq]; exact he
          have hqb : (q != 0) = true := by simp [hq0]
          have HAS := Lib.hid hasg
          have HBEL := Lib.hid HB.out
          have hno := par_no HN.out (by omega) (fun h => he h.1)
          rw [HR.out] at hno
          cases hno
          clear hup hul hown hrow hasg he ha hq hr HO HB
          go_wp2_with fail
          refine HAS.out.mono ?_
          rintro e w5 ⟨⟨lv, rfl, hlv⟩, hb5⟩
          have HB6 := Lib.hid (HBEL.out.trans (hb5.mono (by rw [← HN0.out]; exact HBEL.out.size)))
          clear hlv hb5 HAS
          go_wp2_with fail
          go_ret2
          exact ⟨⟨_, rfl, Rows.nil _⟩, HB6.out⟩
end Go.Proofs.Ytjialelklnjcfaa
