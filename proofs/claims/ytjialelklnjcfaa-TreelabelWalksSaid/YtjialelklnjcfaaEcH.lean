/-
  TreelabelWalks is proved: for every list of numbers the call of the law returns true, and each argument reads afterwards as it read before. It has no condition.
-/
import Derived.Test.YtjialelklnjcfaaRows
import Derived.Test.YtjialelklnjcfaaEoO
import Derived.Test.YtjialelklnjcfaaEbN
import Derived.Test.YtjialelklnjcfaaEbL
import Derived.Test.YtjialelklnjcfaaDcA
import Derived.ProofKit
import Derived.OpenShut
import Derived.Carry
namespace Go.Proofs.Ytjialelklnjcfaa.treelabelWalks
open Go.ChangeShapes Go.WideShapes Go.ChangeAt Go.RowKit Go.Shelf Go.Lib
set_option linter.unusedVariables false

theorem cp_strict {P : Program} {c : Code} {K : Act → World → Prop} {Q : Exit → Act → World → Prop} {a : Act} {w : World} (h : c.wp P (Exit.then K (fun _ _ _ => False)) a w) : c.wp P (Exit.then K Q) a w :=
  Code.wp_mono (fun e a w h => by cases e <;> first | exact h | exact h.elim) h
def bRow (l : List Bool) : Array Value := (l.map Value.bool).toArray
theorem bRow_get {l : List Bool} {i : Nat} {x : Bool} (h : l[i]? = some x) : (bRow l)[i]? = some (.bool x) := by
  simp [bRow, h]
theorem bRow_set (l : List Bool) (i : Nat) (b : Bool) : (bRow l).setIfInBounds i (.bool b) = bRow (l.set i b) := by
  simp [bRow, List.map_set]
theorem made_b (n : Nat) : madeCells #[.bool false] n = bRow (List.replicate n false) := by
  apply Array.ext'
  simp [madeCells, bRow, List.map_replicate]
  apply List.ext_getElem?
  intro i
  by_cases h : i < n
  · simp [h, Nat.mod_one]
  · simp [h]
theorem infoB : (Try.prog.info? 4).map (fun i => (i.zero, i.size, i.bytes)) = some (some (.bool false), 1, 1) := by kernel_rfl
/-- The marks of the visited. -/
def abv (n : Nat) (vis : List Nat) : List Bool := (List.range n).map fun j => decide (j ∈ vis)
theorem abv_get {n k : Nat} {vis : List Nat} (h : k < n) : (abv n vis)[k]? = some (decide (k ∈ vis)) := by
  unfold abv
  rw [List.getElem?_map, List.getElem?_range h]
  rfl
theorem abv_nil (n : Nat) : abv n [] = List.replicate n false := by
  apply List.ext_getElem?
  intro i
  by_cases h : i < n
  · rw [abv_get h, List.getElem?_replicate, if_pos h]
    simp
  · rw [List.getElem?_eq_none (by simp [abv]; omega), List.getElem?_eq_none (by simp; omega)]
theorem abv_set (n s : Nat) (vis : List Nat) : (abv n vis).set s true = abv n (vis ++ [s]) := by
  apply List.ext_getElem?
  intro i
  by_cases h : i < n
  · rw [abv_get h, List.getElem?_set]
    by_cases e : s = i
    · subst e
      rw [if_pos rfl, if_pos (by simp [abv]; exact h)]
      simp
    · rw [if_neg e, abv_get h]
      have e' : ¬ i = s := fun h => e h.symm
      simp [e']
  · rw [List.getElem?_eq_none (by simp [abv]; omega), List.getElem?_eq_none (by simp [abv]; omega)]
/-- Of two different nodes exactly one of four relations holds; of a node and itself none. -/
theorem one_of {h : List Int} (hO : Okh h) {L : List Lb} (hL : LabOf h L) {k i : Nat} {t s : Lb} (ht : L[k]? = some t) (hs : L[i]? = some s) :
    ([domL t s, precL t s, domL s t, precL s t].count true) = if k = i then 0 else 1 := by
  have hd1 := hL.dom hO ht hs
  have hd2 := hL.dom hO hs ht
  by_cases e : k = i
  · subst e
    rw [if_pos rfl]
    have : t = s := Option.some.inj (ht.symm.trans hs)
    subst this
    have h1 : domL t t = false := by simp [domL]
    have h2 : precL t t = false := by simp [precL]
    rw [h1, h2]
    rfl
  · rw [if_neg e]
    by_cases w1 : k ∈ way h i
    · have a1 : domL t s = true := hd1.2 ⟨e, w1⟩
      have a2 : domL s t = false := by
        rw [← Bool.not_eq_true, hd2]
        intro hh
        exact e (way_anti hO w1 hh.2)
      obtain ⟨p1, p2⟩ := hL.noprec hO ht hs w1
      rw [a1, a2, p1, p2]
      rfl
    · by_cases w2 : i ∈ way h k
      · have a1 : domL s t = true := hd2.2 ⟨fun e' => e e'.symm, w2⟩
        have a2 : domL t s = false := by
          rw [← Bool.not_eq_true, hd1]
          intro hh
          exact w1 hh.2
        obtain ⟨p1, p2⟩ := hL.noprec hO hs ht w2
        rw [a1, a2, p1, p2]
        rfl
      · have a1 : domL s t = false := by
          rw [← Bool.not_eq_true, hd2]
          exact fun hh => w2 hh.2
        have a2 : domL t s = false := by
          rw [← Bool.not_eq_true, hd1]
          exact fun hh => w1 hh.2
        rcases hL.prec hO ht hs w1 w2 with ⟨p1, p2⟩ | ⟨p1, p2⟩ <;> (rw [a1, a2, p1, p2]; rfl)
theorem count_take {F : List Bool} {m : Nat} {q : Bool} (h : F[m]? = some q) : (F.take (m + 1)).count true = (F.take m).count true + q.toNat := by
  rw [List.take_add_one, h, List.count_append]
  cases q <;> rfl
/-- The way up from i: what was visited, where the walk stands. -/
def WayAt (h : List Int) (i n : Nat) (vis : List Nat) (k : Int) : Prop := ∃ rest, way h i = i :: (vis ++ rest) ∧ ((k = -1 ∧ rest = []) ∨ ∃ s : Nat, k = (s : Int) ∧ s < n ∧ rest = way h s)
set_option maxRecDepth 100000 in
set_option maxHeartbeats 8000000 in
theorem walk {w : World} (v : Value) (h : List Int) (hv : Rows 1 EInt w v h) (hl : h.length ≤ maxLen) (_ : ∀ x ∈ h, -9223372036854775808 ≤ x ∧ x ≤ 9223372036854775807) :
    Calls Try.prog 6 #[v] w fun e w1 => e = .returned (.bool true) ∧ Below w.heap.size w w1 := by
  obtain ⟨A, cap, rfl, hc⟩ := hv.form
  have HRV := Lib.hid (refValid_any hv hl)
  have HAS := Lib.hid (fun (W : World) (hb : Below w.heap.size w W) => assign_any (hv.below stays_int hb) hl)
  have HV := Lib.hid (fun (W : World) (hb : Below w.heap.size w W) => hv.below stays_int hb)
  have HA := Lib.hid (fun (W : World) => awake_any W)
  obtain ⟨n, hn⟩ : ∃ n, h.length = n := ⟨_, rfl⟩
  by_cases h40 : n > 40
  · rw [hn] at hc ⊢
    clear HRV HAS HV hv hn
    go_enter Try.func6, Try.ntmps6
    go_wp2_with fail
    go_ret
    exact ⟨rfl, Below.refl _ _⟩
  · by_cases hok : okH h = true
    · rw [hok] at HRV
      have hok2 : (checkH h).2 = 0 := by unfold okH at hok; exact of_decide_eq_true hok
      have hO := okh_check.1 hok2
      have hll := labH_len hO
      have hLO := labH_of hO
      unfold assignH at HAS
      rw [if_pos hok2] at HAS
      obtain ⟨L, hLL⟩ : ∃ L, labH h = L := ⟨_, rfl⟩
      rw [hLL] at HAS hll hLO
      simp only at HAS
      rw [hn] at hl hc HRV HAS HV hll ⊢
      unfold maxLen at hl
      have HO := Lib.hid hO
      have HLO := Lib.hid hLO
      have HLL := Lib.hid hll
      have HN := Lib.hid hn
      obtain ⟨i1, hi1, hy0, hy1, hy2⟩ := info_parts' infoB
      have HMK := Lib.hid (show ∀ W : World, (Instr.makeSlice 39 (.int .i64 n) (.int .i64 n)).run Try.prog W = .ok (.slice (some ⟨W.heap.size, 0, none⟩) n n) (W.alloc (.cells (bRow (abv n [])) 4)) from fun W => by
        have := run_make (P := Try.prog) W 39 4 i1 _ Try.underlying39 hi1 hy0 .i64 .i64 n n (by omega) (by omega) (by rw [hy2]; omega) (by omega)
        rw [Int.toNat_natCast, hy1, Nat.mul_one] at this
        rw [abv_nil, ← made_b]
        exact this)
      clear hok hok2 hO hll hLO hLL hn hv hi1 hy0 hy1 hy2
      go_enter Try.func6, Try.ntmps6
      go_wp2_with fail
      refine HRV.out.mono ?_
      rintro e w0 ⟨rfl, hb0⟩
      have HB0 := Lib.hid hb0
      clear hb0 HRV
      go_wp2_with fail
      refine (HAS.out w0 HB0.out).mono ?_
      rintro e w1 ⟨⟨lv, rfl, hlv⟩, hb1⟩
      have HB1 := Lib.hid (HB0.out.trans (hb1.mono HB0.out.size))
      have HLV := Lib.hid (fun W (hb : Below w1.heap.size w1 W) => hlv.below stays_lb hb)
      obtain ⟨A2, cap2, rfl, hc2⟩ := hlv.form
      rw [HLL.out] at hc2 HLV ⊢
      clear hb1 hlv HAS HB0
      go_wp2_with fail
      go_loopw [7] (fun kv wr => ∃ i : Nat, i ≤ n ∧ kv = .int .i64 i ∧ Hid (Below w1.heap.size w1 wr)) (fun kv _ => n - (Go.RowKit.intOf kv).toNat)
      case atStart => exact ⟨0, Nat.zero_le _, rfl, Lib.hid (Below.refl _ _)⟩
      case round =>
        obtain ⟨i, hi, rfl, HBI⟩ := hrel
        by_cases hlt : i < n
        · have hii : (i : Int) < (n : Int) := by omega
          have hn0 : 0 < n := by omega
          obtain ⟨Nb, hNb⟩ : ∃ N, wr.heap.size = N := ⟨_, rfl⟩
          obtain ⟨WB, hWB⟩ : ∃ X, wr.alloc (.cells (bRow (abv n [])) 4) = X := ⟨_, rfl⟩
          have hbk : WB.heap[Nb]? = some (.cells (bRow (abv n [])) 4 (0, 0)) := by rw [← hWB, ← hNb]; exact block_new _ _
          have hbel : Below Nb wr WB := by rw [← hWB, ← hNb]; exact below_box _ _
          have hNb1 : w1.heap.size ≤ Nb := by rw [← hNb]; exact HBI.out.size
          have hb1B : Below w1.heap.size w1 WB := HBI.out.trans (hbel.mono hNb1)
          have hbwB : Below w.heap.size w WB := HB1.out.trans (hb1B.mono HB1.out.size)
          obtain ⟨bh, oh, rfl, hbh, hjh⟩ := at_int (HV.out w1 HB1.out) (by rw [HN.out]; exact hn0)
          have HH := Lib.hid (fun (k : Nat) (x : Int) (hx : h[k]? = some x) (W : World) (hb : Below w1.heap.size w1 W) => (hb.cell (p := ⟨bh, oh + k, none⟩) hbh).trans (hjh k x hx))
          obtain ⟨x0, hx0⟩ : ∃ x, h[i]? = some x := ⟨_, List.getElem?_eq_getElem (by rw [HN.out]; exact hlt)⟩
          have p0 := HH.out i x0 hx0 WB hb1B
          have HWB := Lib.hid hWB
          have HNB := Lib.hid hNb
          have HBK := Lib.hid hbk
          have HB1B := Lib.hid hb1B
          have HX0 := Lib.hid hx0
          have hmk := HMK.out
          clear hNb hWB hbk hbel hb1B hbwB hbh hjh hx0
          go_upto_region 12 with fail
          rw [HWB.out, HNB.out]
          clear hmk
          go_wp2_with fail
          clear p0
          go_loopg [9, 10] (way h i).length (fun gg dv kv wr2 => ∃ (vis : List Nat) (k : Int), dv = .int .i64 (vis.length : Int) ∧ kv = .int .i64 k ∧ farZ h k ≤ gg ∧ vis.length ≤ 40 ∧ Hid (WayAt h i n vis k) ∧ Hid (Below Nb WB wr2 ∧ wr2.heap[Nb]? = some (.cells (bRow (abv n vis)) 4 (0, 0))))
          case atStart =>
            refine ⟨[], x0, rfl, rfl, ?_, Nat.zero_le _, Lib.hid ?_, Lib.hid ⟨Below.refl _ _, HBK.out⟩⟩
            · rcases HO.out.at (i := i) (by rw [HN.out]; exact hlt) with ⟨hx1, hs1⟩ | ⟨b, hx1, hb1, hs1⟩
              · rw [HX0.out] at hx1
                cases hx1
                simp [farZ]
              · rw [HX0.out] at hx1
                cases hx1
                unfold farZ
                rw [if_neg (by omega), Int.toNat_natCast, way_step HO.out hs1, List.length_cons]
                omega
            · rcases HO.out.at (i := i) (by rw [HN.out]; exact hlt) with ⟨hx1, hs1⟩ | ⟨b, hx1, hb1, hs1⟩
              · rw [HX0.out] at hx1
                cases hx1
                exact ⟨[], by rw [way_eq HO.out, hs1]; rfl, .inl ⟨rfl, rfl⟩⟩
              · rw [HX0.out] at hx1
                cases hx1
                exact ⟨way h b, by rw [way_step HO.out hs1]; rfl, .inr ⟨b, rfl, by rw [← HN.out]; exact hb1, rfl⟩⟩
          case round =>
            obtain ⟨vis, k, rfl, rfl, hgg, hvl, HW, HM⟩ := hrel
            obtain ⟨rest, hw, hk⟩ := HW.out
            rcases hk with ⟨hk, hr⟩ | ⟨s, hk, hs, hr⟩
            · subst hk
              subst hr
              rw [List.append_nil] at hw
              -- the end of the way
              have hnd := way_nodup HO.out i
              rw [hw] at hnd
              have hvis : ∀ k : Nat, k ∈ vis ↔ k ≠ i ∧ k ∈ way h i := fun k => by
                rw [hw, List.mem_cons]
                constructor
                · intro hm
                  refine ⟨fun e => ?_, .inr hm⟩
                  subst e
                  exact (List.nodup_cons.1 hnd).1 hm
                · rintro ⟨hne, e | e⟩
                  · exact absurd e hne
                  · exact e
              obtain ⟨s, hs⟩ : ∃ a, L[i]? = some a := ⟨_, List.getElem?_eq_getElem (by rw [HLL.out]; exact hlt)⟩
              have hs3 := HLO.out.dep i s hs
              rw [hw, List.length_cons] at hs3
              obtain ⟨s1, s2, s3⟩ := s
              simp only at hs3
              have hb1r : Below w1.heap.size w1 wr := HB1B.out.trans (HM.out.1.mono hNb1)
              obtain ⟨bl, ol, rfl, hbl, hcl⟩ := at_lb (HLV.out w1 (Below.refl _ _)) (by rw [HLL.out]; exact hn0)
              have HKP := Lib.hid (fun (W : World) (hb : Below w1.heap.size w1 W) (o : Nat) => hb.cell (p := ⟨bl, o, none⟩) hbl)
              have q3 := (HKP.out wr hb1r _).trans (hcl i _ hs).2.2
              simp only at q3
              have hne : (s3 != (vis.length : Int)) = false := by simp <;> omega
              have HSC := Lib.hid (hcl i _ hs)
              have HCL := Lib.hid hcl
              have HSI := Lib.hid hs
              have hNlt : Nb < wr.heap.size := lt_blk HM.out.2
              have HAB := Lib.hid (fun (k : Nat) (t : Lb) (ht : L[k]? = some t) (hk : k < n) (W : World) (hb : Below wr.heap.size wr W) => show W.cell? ⟨Nb, k, none⟩ = some (.bool (domL t (s1, s2, s3))) from by
                rw [hb.cell (p := ⟨Nb, k, none⟩) hNlt, cell_of HM.out.2 (bRow_get (abv_get hk))]
                congr 2
                rw [Bool.eq_iff_iff, decide_eq_true_iff, hvis, HLO.out.dom HO.out ht hs])
              obtain ⟨wz, hwz⟩ : ∃ X, wr = X := ⟨_, rfl⟩
              rw [hwz] at HAB q3 ⊢
              have HB1R := Lib.hid (show Below w1.heap.size w1 wz by rw [← hwz]; exact hb1r)
              clear hvis hnd hw HW hs3 hb1r hbl hcl hs hNlt hwz HM HBK
              go_wp2_with fail
              clear q3 hne
              go_loopw [11] (fun kv wr => ∃ k : Nat, k ≤ n ∧ kv = .int .i64 k ∧ Hid (Below wz.heap.size wz wr)) (fun kv _ => n - (Go.RowKit.intOf kv).toNat)
              case atStart => exact ⟨0, Nat.zero_le _, rfl, Lib.hid (Below.refl _ _)⟩
              case round =>
                obtain ⟨k, hk, rfl, HBK⟩ := hrel
                by_cases hlt2 : k < n
                · have hki : (k : Int) < (n : Int) := by omega
                  obtain ⟨t, ht⟩ : ∃ a, L[k]? = some a := ⟨_, List.getElem?_eq_getElem (by rw [HLL.out]; exact hlt2)⟩
                  have hone := one_of HO.out HLO.out ht HSI.out
                  have hab := HAB.out k t ht hlt2
                  obtain ⟨t1, t2, t3⟩ := t
                  have HDA := Lib.hid (fun W => dominates_any (t1, t2, t3) (s1, s2, s3) W)
                  have HPB := Lib.hid (fun W => precedes_any (t1, t2, t3) (s1, s2, s3) W)
                  have HDC := Lib.hid (fun W => dominates_any (s1, s2, s3) (t1, t2, t3) W)
                  have HPD := Lib.hid (fun W => precedes_any (s1, s2, s3) (t1, t2, t3) W)
                  obtain ⟨da, hda⟩ : ∃ d, domL (t1, t2, t3) (s1, s2, s3) = d := ⟨_, rfl⟩
                  obtain ⟨db, hdb⟩ : ∃ d, precL (t1, t2, t3) (s1, s2, s3) = d := ⟨_, rfl⟩
                  obtain ⟨dc, hdc⟩ : ∃ d, domL (s1, s2, s3) (t1, t2, t3) = d := ⟨_, rfl⟩
                  obtain ⟨dd, hdd⟩ : ∃ d, precL (s1, s2, s3) (t1, t2, t3) = d := ⟨_, rfl⟩
                  rw [hda] at HDA hone hab
                  rw [hdb] at HPB hone
                  rw [hdc] at HDC hone
                  rw [hdd] at HPD hone
                  unfold lbA at HDA HPB HDC HPD
                  simp only at HDA HPB HDC HPD
                  have HTC := Lib.hid (HCL.out k _ ht)
                  have HONE := Lib.hid hone
                  have HABK := Lib.hid hab
                  have HS := Lib.hid (fun (W : World) (hb : Below wz.heap.size wz W) => show W.cell? ⟨bl, ol + k * 3, none⟩ = some (.int .i64 t1) ∧ W.cell? ⟨bl, ol + k * 3 + 1, none⟩ = some (.int .i64 t2) ∧ W.cell? ⟨bl, ol + k * 3 + 2, none⟩ = some (.int .i64 t3) ∧ W.cell? ⟨bl, ol + i * 3, none⟩ = some (.int .i64 s1) ∧ W.cell? ⟨bl, ol + i * 3 + 1, none⟩ = some (.int .i64 s2) ∧ W.cell? ⟨bl, ol + i * 3 + 2, none⟩ = some (.int .i64 s3) from
                    (fun hb => ⟨(HKP.out W hb _).trans HTC.out.1, (HKP.out W hb _).trans HTC.out.2.1, (HKP.out W hb _).trans HTC.out.2.2, (HKP.out W hb _).trans HSC.out.1, (HKP.out W hb _).trans HSC.out.2.1, (HKP.out W hb _).trans HSC.out.2.2⟩) (HB1R.out.trans (hb.mono HB1R.out.size)))
                  clear hone hab hda hdb hdc hdd ht
                  go_upto_region 22 with fail
                  go_cut [12, 13] from 76 to 93 (fun s12 s13 wx => s12 = .bool da ∧ s13 = .bool db ∧ Hid (Below wz.heap.size wz wx))
                  case first =>
                    refine cp_strict ?_
                    obtain ⟨X1, hX1⟩ : ∃ X, wr.drew = X := ⟨_, rfl⟩
                    have HX1 := Lib.hid hX1
                    have HB0 := Lib.hid (show Below wz.heap.size wz X1 by rw [← hX1]; exact HBK.out.drew)
                    clear hX1
                    refine wp_region_held_drew (S := (fun w' => w'.cell? ⟨bl, ol + k * 3, none⟩ = some (.int .i64 t1) ∧ w'.cell? ⟨bl, ol + k * 3 + 1, none⟩ = some (.int .i64 t2) ∧ w'.cell? ⟨bl, ol + k * 3 + 2, none⟩ = some (.int .i64 t3) ∧ w'.cell? ⟨bl, ol + i * 3, none⟩ = some (.int .i64 s1) ∧ w'.cell? ⟨bl, ol + i * 3 + 1, none⟩ = some (.int .i64 s2) ∧ w'.cell? ⟨bl, ol + i * 3 + 2, none⟩ = some (.int .i64 s3))) (by kernel_rfl) ?_ (fun hHeld => ?_)
                    · (try dsimp only); (rw [HX1.out]; exact HS.out X1 HB0.out)
                    rw [HX1.out] at hHeld ⊢
                    refine wpAnyH_take (i := 0) (oi := ?oi1) (v := ?v1) ?hi1 (by kernel_rfl) (by kernel_rfl) (by kernel_rfl) ?hq1 ?hy1 (by assumption) ?hr1
                    case hi1 => (simp only [List.getElem?_toArray, List.getElem?_cons_zero]; rfl)
                    case hq1 => exact fun _ _ _ h => h
                    case hy1 => exact Or.inl ⟨by rfl, by intro whSw hSw'; (try dsimp only at hSw'); (first | (go_simp; done) | (go_simp; with_reducible rfl))⟩
                    try simp only [Act.put, List.setIfInBounds_toArray, List.set_cons_zero, List.set_cons_succ]
                    refine wpAnyH_take (i := 1) (oi := ?oi2) (v := ?v2) ?hi2 (by kernel_rfl) (by kernel_rfl) (by kernel_rfl) ?hq2 ?hy2 (by assumption) ?hr2
                    case hi2 => (simp only [List.getElem?_toArray, List.getElem?_cons_succ, List.getElem?_cons_zero]; rfl)
                    case hq2 => exact fun _ _ _ h => h
                    case hy2 => exact Or.inl ⟨by rfl, by intro whSw hSw'; (try dsimp only at hSw'); (first | (go_simp; done) | (go_simp; with_reducible rfl))⟩
                    try simp only [Act.put, List.setIfInBounds_toArray, List.set_cons_zero, List.set_cons_succ]
                    refine wpAnyH_take (i := 2) (oi := ?oi3) (v := ?v3) ?hi3 (by kernel_rfl) (by kernel_rfl) (by kernel_rfl) ?hq3 ?hy3 (by assumption) ?hr3
                    case hi3 => (simp only [List.getElem?_toArray, List.getElem?_cons_succ, List.getElem?_cons_zero]; rfl)
                    case hq3 => exact fun _ _ _ h => h
                    case hy3 => exact Or.inl ⟨by rfl, by intro whSw hSw'; (try dsimp only at hSw'); (first | (go_simp; done) | (go_simp; with_reducible rfl))⟩
                    try simp only [Act.put, List.setIfInBounds_toArray, List.set_cons_zero, List.set_cons_succ]
                    refine wpAnyH_take (i := 3) (oi := ?oi4) (v := ?v4) ?hi4 (by kernel_rfl) (by kernel_rfl) (by kernel_rfl) ?hq4 ?hy4 (by assumption) ?hr4
                    case hi4 => (simp only [List.getElem?_toArray, List.getElem?_cons_succ, List.getElem?_cons_zero]; rfl)
                    case hq4 => exact fun _ _ _ h => h
                    case hy4 => exact Or.inl ⟨by rfl, by intro whSw hSw'; (try dsimp only at hSw'); (first | (go_simp; done) | (go_simp; with_reducible rfl))⟩
                    try simp only [Act.put, List.setIfInBounds_toArray, List.set_cons_zero, List.set_cons_succ]
                    refine wpAnyH_take (i := 4) (oi := ?oi5) (v := ?v5) ?hi5 (by kernel_rfl) (by kernel_rfl) (by kernel_rfl) ?hq5 ?hy5 (by assumption) ?hr5
                    case hi5 => (simp only [List.getElem?_toArray, List.getElem?_cons_succ, List.getElem?_cons_zero]; rfl)
                    case hq5 => exact fun _ _ _ h => h
                    case hy5 => exact Or.inl ⟨by rfl, by intro whSw hSw'; (try dsimp only at hSw'); (first | (go_simp; done) | (go_simp; with_reducible rfl))⟩
                    try simp only [Act.put, List.setIfInBounds_toArray, List.set_cons_zero, List.set_cons_succ]
                    refine wpAnyH_take (i := 5) (oi := ?oi6) (v := ?v6) ?hi6 (by kernel_rfl) (by kernel_rfl) (by kernel_rfl) ?hq6 ?hy6 (by assumption) ?hr6
                    case hi6 => (simp only [List.getElem?_toArray, List.getElem?_cons_succ, List.getElem?_cons_zero]; rfl)
                    case hq6 => exact fun _ _ _ h => h
                    case hy6 => exact Or.inl ⟨by rfl, by intro whSw hSw'; (try dsimp only at hSw'); (first | (go_simp; done) | (go_simp; with_reducible rfl))⟩
                    try simp only [Act.put, List.setIfInBounds_toArray, List.set_cons_zero, List.set_cons_succ]
                    refine wpAnyH_take (i := 6) (oi := ?oi7) (v := ?v7) ?hi7 (by kernel_rfl) (by kernel_rfl) (by kernel_rfl) ?hq7 ?hy7 (by assumption) ?hr7
                    case hi7 => (simp only [List.getElem?_toArray, List.getElem?_cons_succ, List.getElem?_cons_zero]; rfl)
                    case hq7 => exact fun _ _ _ h => h
                    case hy7 => exact Or.inl ⟨by rfl, by intro whSw hSw'; (try dsimp only at hSw'); (first | (go_simp; done) | (go_simp; with_reducible rfl))⟩
                    try simp only [Act.put, List.setIfInBounds_toArray, List.set_cons_zero, List.set_cons_succ]
                    refine wpAnyH_take (i := 7) (oi := ?oi8) (v := ?v8) ?hi8 (by kernel_rfl) (by kernel_rfl) (by kernel_rfl) ?hq8 ?hy8 (by assumption) ?hr8
                    case hi8 => (simp only [List.getElem?_toArray, List.getElem?_cons_succ, List.getElem?_cons_zero]; rfl)
                    case hq8 => exact fun _ _ _ h => h
                    case hy8 => exact Or.inl ⟨by rfl, by intro whSw hSw'; (try dsimp only at hSw'); (first | (go_simp; done) | (go_simp; with_reducible rfl))⟩
                    try simp only [Act.put, List.setIfInBounds_toArray, List.set_cons_zero, List.set_cons_succ]
                    refine wpAnyH_take (i := 9) (oi := ?oi9) (v := ?v9) ?hi9 (by kernel_rfl) (by kernel_rfl) (by kernel_rfl) ?hq9 ?hy9 (by assumption) ?hr9
                    case hi9 => (simp only [List.getElem?_toArray, List.getElem?_cons_succ, List.getElem?_cons_zero]; rfl)
                    case hq9 => exact fun _ _ _ h => h
                    case hy9 => exact Or.inl ⟨by rfl, by intro whSw hSw'; (try dsimp only at hSw'); (first | (go_simp; done) | (go_simp; with_reducible rfl))⟩
                    try simp only [Act.put, List.setIfInBounds_toArray, List.set_cons_zero, List.set_cons_succ]
                    refine wpAnyH_take (i := 10) (oi := ?oi10) (v := ?v10) ?hi10 (by kernel_rfl) (by kernel_rfl) (by kernel_rfl) ?hq10 ?hy10 (by assumption) ?hr10
                    case hi10 => (simp only [List.getElem?_toArray, List.getElem?_cons_succ, List.getElem?_cons_zero]; rfl)
                    case hq10 => exact fun _ _ _ h => h
                    case hy10 => exact Or.inl ⟨by rfl, by intro whSw hSw'; (try dsimp only at hSw'); (first | (go_simp; done) | (go_simp; with_reducible rfl))⟩
                    try simp only [Act.put, List.setIfInBounds_toArray, List.set_cons_zero, List.set_cons_succ]
                    refine wpAnyH_take (i := 11) (oi := ?oi11) (v := ?v11) ?hi11 (by kernel_rfl) (by kernel_rfl) (by kernel_rfl) ?hq11 ?hy11 (by assumption) ?hr11
                    case hi11 => (simp only [List.getElem?_toArray, List.getElem?_cons_succ, List.getElem?_cons_zero]; rfl)
                    case hq11 => exact fun _ _ _ h => h
                    case hy11 => exact Or.inl ⟨by rfl, by intro whSw hSw'; (try dsimp only at hSw'); (first | (go_simp; done) | (go_simp; with_reducible rfl))⟩
                    try simp only [Act.put, List.setIfInBounds_toArray, List.set_cons_zero, List.set_cons_succ]
                    refine wpAnyH_take (i := 12) (oi := ?oi12) (v := ?v12) ?hi12 (by kernel_rfl) (by kernel_rfl) (by kernel_rfl) ?hq12 ?hy12 (by assumption) ?hr12
                    case hi12 => (simp only [List.getElem?_toArray, List.getElem?_cons_succ, List.getElem?_cons_zero]; rfl)
                    case hq12 => exact fun _ _ _ h => h
                    case hy12 => exact Or.inl ⟨by rfl, by intro whSw hSw'; (try dsimp only at hSw'); (first | (go_simp; done) | (go_simp; with_reducible rfl))⟩
                    try simp only [Act.put, List.setIfInBounds_toArray, List.set_cons_zero, List.set_cons_succ]
                    refine wpAnyH_take (i := 13) (oi := ?oi13) (v := ?v13) ?hi13 (by kernel_rfl) (by kernel_rfl) (by kernel_rfl) ?hq13 ?hy13 (by assumption) ?hr13
                    case hi13 => (simp only [List.getElem?_toArray, List.getElem?_cons_succ, List.getElem?_cons_zero]; rfl)
                    case hq13 => exact fun _ _ _ h => h
                    case hy13 => exact Or.inl ⟨by rfl, by intro whSw hSw'; (try dsimp only at hSw'); (first | (go_simp; done) | (go_simp; with_reducible rfl))⟩
                    try simp only [Act.put, List.setIfInBounds_toArray, List.set_cons_zero, List.set_cons_succ]
                    refine wpAnyH_take (i := 14) (oi := ?oi14) (v := ?v14) ?hi14 (by kernel_rfl) (by kernel_rfl) (by kernel_rfl) ?hq14 ?hy14 (by assumption) ?hr14
                    case hi14 => (simp only [List.getElem?_toArray, List.getElem?_cons_succ, List.getElem?_cons_zero]; rfl)
                    case hq14 => exact fun _ _ _ h => h
                    case hy14 => exact Or.inl ⟨by rfl, by intro whSw hSw'; (try dsimp only at hSw'); (first | (go_simp; done) | (go_simp; with_reducible rfl))⟩
                    try simp only [Act.put, List.setIfInBounds_toArray, List.set_cons_zero, List.set_cons_succ]
                    refine wpAnyH_take (i := 15) (oi := ?oi15) (v := ?v15) ?hi15 (by kernel_rfl) (by kernel_rfl) (by kernel_rfl) ?hq15 ?hy15 (by assumption) ?hr15
                    case hi15 => (simp only [List.getElem?_toArray, List.getElem?_cons_succ, List.getElem?_cons_zero]; rfl)
                    case hq15 => exact fun _ _ _ h => h
                    case hy15 => exact Or.inl ⟨by rfl, by intro whSw hSw'; (try dsimp only at hSw'); (first | (go_simp; done) | (go_simp; with_reducible rfl))⟩
                    try simp only [Act.put, List.setIfInBounds_toArray, List.set_cons_zero, List.set_cons_succ]
                    refine wpAnyH_take (i := 16) (oi := ?oi16) (v := ?v16) ?hi16 (by kernel_rfl) (by kernel_rfl) (by kernel_rfl) ?hq16 ?hy16 (by assumption) ?hr16
                    case hi16 => (simp only [List.getElem?_toArray, List.getElem?_cons_succ, List.getElem?_cons_zero]; rfl)
                    case hq16 => exact fun _ _ _ h => h
                    case hy16 => exact Or.inl ⟨by rfl, by intro whSw hSw'; (try dsimp only at hSw'); (first | (go_simp; done) | (go_simp; with_reducible rfl))⟩
                    try simp only [Act.put, List.setIfInBounds_toArray, List.set_cons_zero, List.set_cons_succ]
                    refine wpAnyH_ready (rs := [8]) (by kernel_rfl) (by simp) ?_
                    refine AllReadyH.cons (o := ?oo17) ?hi17 (fun K hK => ?hs17) ?hm17
                    case hi17 => (simp only [List.getElem?_toArray, List.getElem?_cons_succ, List.getElem?_cons_zero]; rfl)
                    · go_simp
                      refine (HDA.out X1).mono ?_
                      rintro e zz1 ⟨rfl, hbzz1⟩
                      have HBzz1 := Lib.hid (HB0.out.trans (hbzz1.mono HB0.out.size))
                      clear hbzz1
                      (try go_wp2_with fail)
                      refine hK.out _ _ ?_ (fun hHeld => ?_)
                      · (try dsimp only); exact HS.out zz1 HBzz1.out
                      clear hK K
                      try simp only [Act.put, List.setIfInBounds_toArray, List.set_cons_zero, List.set_cons_succ]
                      refine wpAnyH_ready (rs := [17]) (by kernel_rfl) (by simp) ?_
                      refine AllReadyH.cons (o := ?oo18) ?hi18 (fun K hK => ?hs18) ?hm18
                      case hi18 => (simp only [List.getElem?_toArray, List.getElem?_cons_succ, List.getElem?_cons_zero]; rfl)
                      · go_simp
                        refine (HPB.out zz1).mono ?_
                        rintro e zz2 ⟨rfl, hbzz2⟩
                        have HBzz2 := Lib.hid (HBzz1.out.trans (hbzz2.mono HBzz1.out.size))
                        clear hbzz2
                        (try go_wp2_with fail)
                        refine hK.out _ _ ?_ (fun hHeld => ?_)
                        · (try dsimp only); exact HS.out zz2 HBzz2.out
                        clear hK K
                        try simp only [Act.put, List.setIfInBounds_toArray, List.set_cons_zero, List.set_cons_succ]
                        refine wpAnyH_take (i := 18) (oi := ?oi19) (v := ?v19) ?hi19 (by kernel_rfl) (by kernel_rfl) (by kernel_rfl) ?hq19 ?hy19 (by assumption) ?hr19
                        case hi19 => (simp only [List.getElem?_toArray, List.getElem?_cons_succ, List.getElem?_cons_zero]; rfl)
                        case hq19 => exact fun _ _ _ h => h
                        case hy19 => exact Or.inl ⟨by rfl, by intro whSw hSw'; (try dsimp only at hSw'); (first | (go_simp; done) | (go_simp; with_reducible rfl))⟩
                        try simp only [Act.put, List.setIfInBounds_toArray, List.set_cons_zero, List.set_cons_succ]
                        refine wpAnyH_take (i := 19) (oi := ?oi20) (v := ?v20) ?hi20 (by kernel_rfl) (by kernel_rfl) (by kernel_rfl) ?hq20 ?hy20 (by assumption) ?hr20
                        case hi20 => (simp only [List.getElem?_toArray, List.getElem?_cons_succ, List.getElem?_cons_zero]; rfl)
                        case hq20 => exact fun _ _ _ h => h
                        case hy20 => exact Or.inl ⟨by rfl, by intro whSw hSw'; (try dsimp only at hSw'); (first | (go_simp; done) | (go_simp; with_reducible rfl))⟩
                        try simp only [Act.put, List.setIfInBounds_toArray, List.set_cons_zero, List.set_cons_succ]
                        refine wpAnyH_done (by kernel_rfl) ?_ _
                        go_wp2_with fail
                        go_meet
                        exact ⟨rfl, rfl, HBzz2⟩
                      exact AllReadyH.nil
                    exact AllReadyH.nil
                  case rest =>
                    obtain ⟨rfl, rfl, HBL⟩ := hcut
                    clear HBK
                    go_upto_region 23 with fail
                    go_cut [14, 15] from 94 to 111 (fun s14 s15 wx => s14 = .bool dc ∧ s15 = .bool dd ∧ Hid (Below wz.heap.size wz wx))
                    case first =>
                      refine cp_strict ?_
                      obtain ⟨X1, hX1⟩ : ∃ X, wc.drew = X := ⟨_, rfl⟩
                      have HX1 := Lib.hid hX1
                      have HB0 := Lib.hid (show Below wz.heap.size wz X1 by rw [← hX1]; exact HBL.out.drew)
                      clear hX1
                      refine wp_region_held_drew (S := (fun w' => w'.cell? ⟨bl, ol + k * 3, none⟩ = some (.int .i64 t1) ∧ w'.cell? ⟨bl, ol + k * 3 + 1, none⟩ = some (.int .i64 t2) ∧ w'.cell? ⟨bl, ol + k * 3 + 2, none⟩ = some (.int .i64 t3) ∧ w'.cell? ⟨bl, ol + i * 3, none⟩ = some (.int .i64 s1) ∧ w'.cell? ⟨bl, ol + i * 3 + 1, none⟩ = some (.int .i64 s2) ∧ w'.cell? ⟨bl, ol + i * 3 + 2, none⟩ = some (.int .i64 s3))) (by kernel_rfl) ?_ (fun hHeld => ?_)
                      · (try dsimp only); (rw [HX1.out]; exact HS.out X1 HB0.out)
                      rw [HX1.out] at hHeld ⊢
                      refine wpAnyH_take (i := 0) (oi := ?oi1001) (v := ?v1001) ?hi1001 (by kernel_rfl) (by kernel_rfl) (by kernel_rfl) ?hq1001 ?hy1001 (by assumption) ?hr1001
                      case hi1001 => (simp only [List.getElem?_toArray, List.getElem?_cons_zero]; rfl)
                      case hq1001 => exact fun _ _ _ h => h
                      case hy1001 => exact Or.inl ⟨by rfl, by intro whSw hSw'; (try dsimp only at hSw'); (first | (go_simp; done) | (go_simp; with_reducible rfl))⟩
                      try simp only [Act.put, List.setIfInBounds_toArray, List.set_cons_zero, List.set_cons_succ]
                      refine wpAnyH_take (i := 1) (oi := ?oi1002) (v := ?v1002) ?hi1002 (by kernel_rfl) (by kernel_rfl) (by kernel_rfl) ?hq1002 ?hy1002 (by assumption) ?hr1002
                      case hi1002 => (simp only [List.getElem?_toArray, List.getElem?_cons_succ, List.getElem?_cons_zero]; rfl)
                      case hq1002 => exact fun _ _ _ h => h
                      case hy1002 => exact Or.inl ⟨by rfl, by intro whSw hSw'; (try dsimp only at hSw'); (first | (go_simp; done) | (go_simp; with_reducible rfl))⟩
                      try simp only [Act.put, List.setIfInBounds_toArray, List.set_cons_zero, List.set_cons_succ]
                      refine wpAnyH_take (i := 2) (oi := ?oi1003) (v := ?v1003) ?hi1003 (by kernel_rfl) (by kernel_rfl) (by kernel_rfl) ?hq1003 ?hy1003 (by assumption) ?hr1003
                      case hi1003 => (simp only [List.getElem?_toArray, List.getElem?_cons_succ, List.getElem?_cons_zero]; rfl)
                      case hq1003 => exact fun _ _ _ h => h
                      case hy1003 => exact Or.inl ⟨by rfl, by intro whSw hSw'; (try dsimp only at hSw'); (first | (go_simp; done) | (go_simp; with_reducible rfl))⟩
                      try simp only [Act.put, List.setIfInBounds_toArray, List.set_cons_zero, List.set_cons_succ]
                      refine wpAnyH_take (i := 3) (oi := ?oi1004) (v := ?v1004) ?hi1004 (by kernel_rfl) (by kernel_rfl) (by kernel_rfl) ?hq1004 ?hy1004 (by assumption) ?hr1004
                      case hi1004 => (simp only [List.getElem?_toArray, List.getElem?_cons_succ, List.getElem?_cons_zero]; rfl)
                      case hq1004 => exact fun _ _ _ h => h
                      case hy1004 => exact Or.inl ⟨by rfl, by intro whSw hSw'; (try dsimp only at hSw'); (first | (go_simp; done) | (go_simp; with_reducible rfl))⟩
                      try simp only [Act.put, List.setIfInBounds_toArray, List.set_cons_zero, List.set_cons_succ]
                      refine wpAnyH_take (i := 4) (oi := ?oi1005) (v := ?v1005) ?hi1005 (by kernel_rfl) (by kernel_rfl) (by kernel_rfl) ?hq1005 ?hy1005 (by assumption) ?hr1005
                      case hi1005 => (simp only [List.getElem?_toArray, List.getElem?_cons_succ, List.getElem?_cons_zero]; rfl)
                      case hq1005 => exact fun _ _ _ h => h
                      case hy1005 => exact Or.inl ⟨by rfl, by intro whSw hSw'; (try dsimp only at hSw'); (first | (go_simp; done) | (go_simp; with_reducible rfl))⟩
                      try simp only [Act.put, List.setIfInBounds_toArray, List.set_cons_zero, List.set_cons_succ]
                      refine wpAnyH_take (i := 5) (oi := ?oi1006) (v := ?v1006) ?hi1006 (by kernel_rfl) (by kernel_rfl) (by kernel_rfl) ?hq1006 ?hy1006 (by assumption) ?hr1006
                      case hi1006 => (simp only [List.getElem?_toArray, List.getElem?_cons_succ, List.getElem?_cons_zero]; rfl)
                      case hq1006 => exact fun _ _ _ h => h
                      case hy1006 => exact Or.inl ⟨by rfl, by intro whSw hSw'; (try dsimp only at hSw'); (first | (go_simp; done) | (go_simp; with_reducible rfl))⟩
                      try simp only [Act.put, List.setIfInBounds_toArray, List.set_cons_zero, List.set_cons_succ]
                      refine wpAnyH_take (i := 6) (oi := ?oi1007) (v := ?v1007) ?hi1007 (by kernel_rfl) (by kernel_rfl) (by kernel_rfl) ?hq1007 ?hy1007 (by assumption) ?hr1007
                      case hi1007 => (simp only [List.getElem?_toArray, List.getElem?_cons_succ, List.getElem?_cons_zero]; rfl)
                      case hq1007 => exact fun _ _ _ h => h
                      case hy1007 => exact Or.inl ⟨by rfl, by intro whSw hSw'; (try dsimp only at hSw'); (first | (go_simp; done) | (go_simp; with_reducible rfl))⟩
                      try simp only [Act.put, List.setIfInBounds_toArray, List.set_cons_zero, List.set_cons_succ]
                      refine wpAnyH_take (i := 7) (oi := ?oi1008) (v := ?v1008) ?hi1008 (by kernel_rfl) (by kernel_rfl) (by kernel_rfl) ?hq1008 ?hy1008 (by assumption) ?hr1008
                      case hi1008 => (simp only [List.getElem?_toArray, List.getElem?_cons_succ, List.getElem?_cons_zero]; rfl)
                      case hq1008 => exact fun _ _ _ h => h
                      case hy1008 => exact Or.inl ⟨by rfl, by intro whSw hSw'; (try dsimp only at hSw'); (first | (go_simp; done) | (go_simp; with_reducible rfl))⟩
                      try simp only [Act.put, List.setIfInBounds_toArray, List.set_cons_zero, List.set_cons_succ]
                      refine wpAnyH_take (i := 9) (oi := ?oi1009) (v := ?v1009) ?hi1009 (by kernel_rfl) (by kernel_rfl) (by kernel_rfl) ?hq1009 ?hy1009 (by assumption) ?hr1009
                      case hi1009 => (simp only [List.getElem?_toArray, List.getElem?_cons_succ, List.getElem?_cons_zero]; rfl)
                      case hq1009 => exact fun _ _ _ h => h
                      case hy1009 => exact Or.inl ⟨by rfl, by intro whSw hSw'; (try dsimp only at hSw'); (first | (go_simp; done) | (go_simp; with_reducible rfl))⟩
                      try simp only [Act.put, List.setIfInBounds_toArray, List.set_cons_zero, List.set_cons_succ]
                      refine wpAnyH_take (i := 10) (oi := ?oi1010) (v := ?v1010) ?hi1010 (by kernel_rfl) (by kernel_rfl) (by kernel_rfl) ?hq1010 ?hy1010 (by assumption) ?hr1010
                      case hi1010 => (simp only [List.getElem?_toArray, List.getElem?_cons_succ, List.getElem?_cons_zero]; rfl)
                      case hq1010 => exact fun _ _ _ h => h
                      case hy1010 => exact Or.inl ⟨by rfl, by intro whSw hSw'; (try dsimp only at hSw'); (first | (go_simp; done) | (go_simp; with_reducible rfl))⟩
                      try simp only [Act.put, List.setIfInBounds_toArray, List.set_cons_zero, List.set_cons_succ]
                      refine wpAnyH_take (i := 11) (oi := ?oi1011) (v := ?v1011) ?hi1011 (by kernel_rfl) (by kernel_rfl) (by kernel_rfl) ?hq1011 ?hy1011 (by assumption) ?hr1011
                      case hi1011 => (simp only [List.getElem?_toArray, List.getElem?_cons_succ, List.getElem?_cons_zero]; rfl)
                      case hq1011 => exact fun _ _ _ h => h
                      case hy1011 => exact Or.inl ⟨by rfl, by intro whSw hSw'; (try dsimp only at hSw'); (first | (go_simp; done) | (go_simp; with_reducible rfl))⟩
                      try simp only [Act.put, List.setIfInBounds_toArray, List.set_cons_zero, List.set_cons_succ]
                      refine wpAnyH_take (i := 12) (oi := ?oi1012) (v := ?v1012) ?hi1012 (by kernel_rfl) (by kernel_rfl) (by kernel_rfl) ?hq1012 ?hy1012 (by assumption) ?hr1012
                      case hi1012 => (simp only [List.getElem?_toArray, List.getElem?_cons_succ, List.getElem?_cons_zero]; rfl)
                      case hq1012 => exact fun _ _ _ h => h
                      case hy1012 => exact Or.inl ⟨by rfl, by intro whSw hSw'; (try dsimp only at hSw'); (first | (go_simp; done) | (go_simp; with_reducible rfl))⟩
                      try simp only [Act.put, List.setIfInBounds_toArray, List.set_cons_zero, List.set_cons_succ]
                      refine wpAnyH_take (i := 13) (oi := ?oi1013) (v := ?v1013) ?hi1013 (by kernel_rfl) (by kernel_rfl) (by kernel_rfl) ?hq1013 ?hy1013 (by assumption) ?hr1013
                      case hi1013 => (simp only [List.getElem?_toArray, List.getElem?_cons_succ, List.getElem?_cons_zero]; rfl)
                      case hq1013 => exact fun _ _ _ h => h
                      case hy1013 => exact Or.inl ⟨by rfl, by intro whSw hSw'; (try dsimp only at hSw'); (first | (go_simp; done) | (go_simp; with_reducible rfl))⟩
                      try simp only [Act.put, List.setIfInBounds_toArray, List.set_cons_zero, List.set_cons_succ]
                      refine wpAnyH_take (i := 14) (oi := ?oi1014) (v := ?v1014) ?hi1014 (by kernel_rfl) (by kernel_rfl) (by kernel_rfl) ?hq1014 ?hy1014 (by assumption) ?hr1014
                      case hi1014 => (simp only [List.getElem?_toArray, List.getElem?_cons_succ, List.getElem?_cons_zero]; rfl)
                      case hq1014 => exact fun _ _ _ h => h
                      case hy1014 => exact Or.inl ⟨by rfl, by intro whSw hSw'; (try dsimp only at hSw'); (first | (go_simp; done) | (go_simp; with_reducible rfl))⟩
                      try simp only [Act.put, List.setIfInBounds_toArray, List.set_cons_zero, List.set_cons_succ]
                      refine wpAnyH_take (i := 15) (oi := ?oi1015) (v := ?v1015) ?hi1015 (by kernel_rfl) (by kernel_rfl) (by kernel_rfl) ?hq1015 ?hy1015 (by assumption) ?hr1015
                      case hi1015 => (simp only [List.getElem?_toArray, List.getElem?_cons_succ, List.getElem?_cons_zero]; rfl)
                      case hq1015 => exact fun _ _ _ h => h
                      case hy1015 => exact Or.inl ⟨by rfl, by intro whSw hSw'; (try dsimp only at hSw'); (first | (go_simp; done) | (go_simp; with_reducible rfl))⟩
                      try simp only [Act.put, List.setIfInBounds_toArray, List.set_cons_zero, List.set_cons_succ]
                      refine wpAnyH_take (i := 16) (oi := ?oi1016) (v := ?v1016) ?hi1016 (by kernel_rfl) (by kernel_rfl) (by kernel_rfl) ?hq1016 ?hy1016 (by assumption) ?hr1016
                      case hi1016 => (simp only [List.getElem?_toArray, List.getElem?_cons_succ, List.getElem?_cons_zero]; rfl)
                      case hq1016 => exact fun _ _ _ h => h
                      case hy1016 => exact Or.inl ⟨by rfl, by intro whSw hSw'; (try dsimp only at hSw'); (first | (go_simp; done) | (go_simp; with_reducible rfl))⟩
                      try simp only [Act.put, List.setIfInBounds_toArray, List.set_cons_zero, List.set_cons_succ]
                      refine wpAnyH_ready (rs := [8]) (by kernel_rfl) (by simp) ?_
                      refine AllReadyH.cons (o := ?oo1017) ?hi1017 (fun K hK => ?hs1017) ?hm1017
                      case hi1017 => (simp only [List.getElem?_toArray, List.getElem?_cons_succ, List.getElem?_cons_zero]; rfl)
                      · go_simp
                        refine (HDC.out X1).mono ?_
                        rintro e zz1 ⟨rfl, hbzz1⟩
                        have HBzz1 := Lib.hid (HB0.out.trans (hbzz1.mono HB0.out.size))
                        clear hbzz1
                        (try go_wp2_with fail)
                        refine hK.out _ _ ?_ (fun hHeld => ?_)
                        · (try dsimp only); exact HS.out zz1 HBzz1.out
                        clear hK K
                        try simp only [Act.put, List.setIfInBounds_toArray, List.set_cons_zero, List.set_cons_succ]
                        refine wpAnyH_ready (rs := [17]) (by kernel_rfl) (by simp) ?_
                        refine AllReadyH.cons (o := ?oo1018) ?hi1018 (fun K hK => ?hs1018) ?hm1018
                        case hi1018 => (simp only [List.getElem?_toArray, List.getElem?_cons_succ, List.getElem?_cons_zero]; rfl)
                        · go_simp
                          refine (HPD.out zz1).mono ?_
                          rintro e zz2 ⟨rfl, hbzz2⟩
                          have HBzz2 := Lib.hid (HBzz1.out.trans (hbzz2.mono HBzz1.out.size))
                          clear hbzz2
                          (try go_wp2_with fail)
                          refine hK.out _ _ ?_ (fun hHeld => ?_)
                          · (try dsimp only); exact HS.out zz2 HBzz2.out
                          clear hK K
                          try simp only [Act.put, List.setIfInBounds_toArray, List.set_cons_zero, List.set_cons_succ]
                          refine wpAnyH_take (i := 18) (oi := ?oi1019) (v := ?v1019) ?hi1019 (by kernel_rfl) (by kernel_rfl) (by kernel_rfl) ?hq1019 ?hy1019 (by assumption) ?hr1019
                          case hi1019 => (simp only [List.getElem?_toArray, List.getElem?_cons_succ, List.getElem?_cons_zero]; rfl)
                          case hq1019 => exact fun _ _ _ h => h
                          case hy1019 => exact Or.inl ⟨by rfl, by intro whSw hSw'; (try dsimp only at hSw'); (first | (go_simp; done) | (go_simp; with_reducible rfl))⟩
                          try simp only [Act.put, List.setIfInBounds_toArray, List.set_cons_zero, List.set_cons_succ]
                          refine wpAnyH_take (i := 19) (oi := ?oi1020) (v := ?v1020) ?hi1020 (by kernel_rfl) (by kernel_rfl) (by kernel_rfl) ?hq1020 ?hy1020 (by assumption) ?hr1020
                          case hi1020 => (simp only [List.getElem?_toArray, List.getElem?_cons_succ, List.getElem?_cons_zero]; rfl)
                          case hq1020 => exact fun _ _ _ h => h
                          case hy1020 => exact Or.inl ⟨by rfl, by intro whSw hSw'; (try dsimp only at hSw'); (first | (go_simp; done) | (go_simp; with_reducible rfl))⟩
                          try simp only [Act.put, List.setIfInBounds_toArray, List.set_cons_zero, List.set_cons_succ]
                          refine wpAnyH_done (by kernel_rfl) ?_ _
                          go_wp2_with fail
                          go_meet
                          exact ⟨rfl, rfl, HBzz2⟩
                        exact AllReadyH.nil
                      exact AllReadyH.nil
                    case rest =>
                      obtain ⟨rfl, rfl, HBM⟩ := hcut
                      clear HBL
                      obtain ⟨Nc, hNc⟩ : ∃ N, wc.heap.size = N := ⟨_, rfl⟩
                      obtain ⟨WC, hWC⟩ : ∃ X, wc.alloc (.cells #[.bool da, .bool db, .bool dc, .bool dd] 4) = X := ⟨_, rfl⟩
                      have hbk : WC.heap[Nc]? = some (.cells (bRow [da, db, dc, dd]) 4 (0, 0)) := by rw [← hWC, ← hNc]; exact block_new _ _
                      have hbel : Below Nc wc WC := by rw [← hWC, ← hNc]; exact below_box _ _
                      have hbC : Below wz.heap.size wz WC := HBM.out.trans (hbel.mono (by rw [← hNc]; exact HBM.out.size))
                      obtain ⟨F, hF⟩ : ∃ F, [da, db, dc, dd] = F := ⟨_, rfl⟩
                      have hF4 : F.length = 4 := by rw [← hF]; rfl
                      have hone := HONE.out
                      rw [hF] at hbk hone
                      have HONE := Lib.hid hone
                      have HF4 := Lib.hid hF4
                      have HWC := Lib.hid hWC
                      have HNC := Lib.hid hNc
                      have HBC := Lib.hid hbC
                      have hNlt := lt_blk hbk
                      have HFC := Lib.hid (fun (m : Nat) (q : Bool) (hq : F[m]? = some q) (W : World) (hb : Below WC.heap.size WC W) => (hb.cell (p := ⟨Nc, m, none⟩) hNlt).trans (cell_of hbk (bRow_get hq)))
                      clear hNc hWC hbk hbel hbC hF hF4 hone hNlt HBM
                      go_wp2_with fail
                      rw [HWC.out, HNC.out]
                      go_loopw [16, 118] (fun cv mv wr => ∃ m c : Nat, m ≤ 4 ∧ c ≤ m ∧ mv = .int .i64 m ∧ cv = .int .i64 c ∧ Hid ((F.take m).count true = c) ∧ Hid (Below WC.heap.size WC wr)) (fun _ mv _ => 4 - (Go.RowKit.intOf mv).toNat)
                      case atStart => exact ⟨0, 0, Nat.zero_le _, Nat.le_refl _, rfl, rfl, Lib.hid rfl, Lib.hid (Below.refl _ _)⟩
                      case round =>
                        obtain ⟨m, c, hm, hcm, rfl, rfl, HCT, HBW⟩ := hrel
                        by_cases hm4 : m < 4
                        · have hmi : (m : Int) < 4 := by omega
                          obtain ⟨q, hq⟩ : ∃ a, F[m]? = some a := ⟨_, List.getElem?_eq_getElem (by rw [HF4.out]; exact hm4)⟩
                          have g0 := HFC.out m q hq wr HBW.out
                          have hct := count_take hq
                          rw [HCT.out] at hct
                          have HCT2 := Lib.hid hct
                          clear hct hq HCT
                          cases q with
                          | true =>
                            go_wp2_with fail
                            exact ⟨⟨m + 1, c + 1, by omega, by omega, by go_num, by go_num, HCT2, HBW⟩, by simp only [Go.RowKit.intOf]; omega⟩
                          | false =>
                            go_wp2_with fail
                            exact ⟨⟨m + 1, c, by omega, by omega, by go_num, rfl, HCT2, HBW⟩, by simp only [Go.RowKit.intOf]; omega⟩
                        · obtain rfl : m = 4 := by omega
                          have hcc := HCT.out
                          rw [List.take_of_length_le (by rw [HF4.out]; exact Nat.le_refl _), HONE.out] at hcc
                          have hbz : Below wz.heap.size wz wr := HBC.out.trans (HBW.out.mono HBC.out.size)
                          have g1 := HABK.out wr hbz
                          have HBZ := Lib.hid hbz
                          have haa : (da != da) = false := by simp
                          clear HCT HBW hbz
                          by_cases hki2 : k = i
                          · subst hki2
                            rw [if_pos rfl] at hcc
                            have v0 : ((c : Int) == 0) = true := by simp <;> omega
                            clear hcc
                            go_wp2_with fail
                            exact ⟨⟨k + 1, by omega, by go_num, HBZ⟩, by simp only [Go.RowKit.intOf]; omega⟩
                          · rw [if_neg hki2] at hcc
                            have v0 : ((c : Int) == 0) = false := by simp <;> omega
                            have v1 : ((c : Int) != 1) = false := by simp <;> omega
                            have v2 : ((i : Int) == (k : Int)) = false := by simp <;> omega
                            have v3 : ((i : Int) != (k : Int)) = true := by simp <;> omega
                            clear hcc
                            go_wp2_with fail
                            exact ⟨⟨k + 1, by omega, by go_num, HBZ⟩, by simp only [Go.RowKit.intOf]; omega⟩
                · obtain rfl : k = n := by omega
                  have HFIN := Lib.hid (HB1R.out.trans (HBK.out.mono HB1R.out.size))
                  go_wp2_with fail
                  exact ⟨⟨i + 1, by omega, by go_num, HFIN⟩, by simp only [Go.RowKit.intOf]; omega⟩
            · subst hk
              subst hr
              have hsi : (s : Int) ≥ 0 := by omega
              have hsn : (s : Int) < (n : Int) := by omega
              have hwl := way_len HO.out (i := i) (by rw [HN.out]; exact hlt)
              have hsl : 0 < (way h s).length := List.length_pos_of_mem (way_self s)
              have hv1 : vis.length + 1 ≤ 40 := by
                have := congrArg List.length hw
                rw [List.length_cons, List.length_append] at this
                rw [HN.out] at hwl
                omega
              have hset : Below Nb WB (wr.setCell ⟨Nb, s, none⟩ (.bool true)) ∧ (wr.setCell ⟨Nb, s, none⟩ (.bool true)).heap[Nb]? = some (.cells (bRow (abv n (vis ++ [s]))) 4 (0, 0)) := by
                refine ⟨HM.out.1.setCell (p := ⟨Nb, s, none⟩) (Nat.le_refl _) _, ?_⟩
                rw [← abv_set, ← bRow_set]
                exact set_of HM.out.2 _
              have c0 := cell_of HM.out.2 (bRow_get (abv_get (vis := vis) hs))
              have f0 : wr.frozen? ⟨Nb, s, none⟩ = false := frozen_of HM.out.2
              obtain ⟨wr2, hwr2⟩ : ∃ X, wr.setCell ⟨Nb, s, none⟩ (.bool true) = X := ⟨_, rfl⟩
              rw [hwr2] at hset
              have HW2 := Lib.hid hwr2
              have hbw2 : Below w1.heap.size w1 wr2 := HB1B.out.trans (hset.1.mono hNb1)
              have hlen : ((vis ++ [s]).length : Int) = (vis.length : Int) + 1 := by rw [List.length_append]; rfl
              have hfar : farZ h (s : Int) = (way h s).length := by unfold farZ; rw [if_neg (by omega), Int.toNat_natCast]
              have HSET := Lib.hid hset
              have hl1 : (vis ++ [s]).length ≤ 40 := by rw [List.length_append]; exact hv1
              rcases HO.out.at (i := s) (by rw [HN.out]; exact hs) with ⟨hx1, hs1⟩ | ⟨b, hx1, hb1, hs1⟩
              · have p1 := HH.out s _ hx1 wr2 hbw2
                have HNX := Lib.hid (show WayAt h i n (vis ++ [s]) (-1) from ⟨[], by rw [hw, way_eq HO.out s, hs1]; simp, .inl ⟨rfl, rfl⟩⟩)
                clear hw HW hx1 hs1 hwr2 hset hwl hbw2 HM
                go_upto_region 16 with fail
                rw [HW2.out]
                clear c0 f0
                go_wp2_with fail
                go_roundg 0
                case measure => omega
                case rel => exact ⟨vis ++ [s], -1, by rw [hlen], rfl, by unfold farZ; simp, hl1, HNX, HSET⟩
              · have p1 := HH.out s _ hx1 wr2 hbw2
                have HNX := Lib.hid (show WayAt h i n (vis ++ [s]) (b : Int) from ⟨way h b, by rw [hw, way_step HO.out hs1]; simp, .inr ⟨b, rfl, by rw [← HN.out]; exact hb1, rfl⟩⟩)
                have hfb : farZ h (b : Int) = (way h b).length := by unfold farZ; rw [if_neg (by omega), Int.toNat_natCast]
                have hfp : (way h s).length = (way h b).length + 1 := by rw [way_step HO.out hs1, List.length_cons]
                clear hw HW hx1 hs1 hwr2 hset hwl hbw2 HM hb1
                go_upto_region 16 with fail
                rw [HW2.out]
                clear c0 f0
                go_wp2_with fail
                go_roundg (farZ h (b : Int))
                case measure => omega
                case rel => exact ⟨vis ++ [s], b, by rw [hlen], rfl, Nat.le_refl _, hl1, HNX, HSET⟩
        · obtain rfl : i = n := by omega
          go_wp2_with fail
          refine (HA.out _).mono ?_
          rintro e w4 ⟨rfl, hb4⟩
          have HB4 := Lib.hid (HBI.out.trans (hb4.mono HBI.out.size))
          clear hb4
          go_wp2_with fail
          go_ret
          exact ⟨rfl, HB1.out.trans (HB4.out.mono HB1.out.size)⟩
    · rw [show okH h = false by simpa using hok] at HRV
      rw [hn] at hc HRV ⊢
      clear HAS HV hv hn hok
      go_enter Try.func6, Try.ntmps6
      go_wp2_with fail
      refine HRV.out.mono ?_
      rintro e w0 ⟨rfl, hb0⟩
      have HB0 := Lib.hid hb0
      clear hb0 HRV
      go_wp2_with fail
      go_ret
      exact ⟨rfl, HB0.out⟩

theorem own : ownKnob Try.prog.godebug = none := by kernel_rfl

set_option maxRecDepth 100000 in
theorem lifted (os : Os) (started : os.Started) (H : Type) (enc : TypeId × Value → H) :
    ReturnsInHanded {} Try.checked os 6 .any (Rows.treelabelWalksSpec.pre6 enc Try.prog Try.f6 Rows.treelabelWalksRow.domain false) (Rows.treelabelWalksSpec.post enc Try.prog Try.f6 false true false false) := by
  refine returnsInHanded_of_change (C := Try.checked) own started (by kernel_rfl) Try.func6
    (ChangeSpec.witness6 (enc := enc) (C := Try.checked) false ⟨#[], #[.slice none 0 0], []⟩ 8 (by kernel_rfl) (by kernel_rfl) (by kernel_rfl) (by kernel_rfl)) ?_
  intro W base args ds gs before hval0 hW hcnd _
  have hval : ∀ (j : Nat) t v, Try.f6.params[j]? = some t → args[j]? = some v → Value.okWide Try.prog W .any base t v := hval0
  have hW' := hW
  have hplt : ∀ x ∈ before, x.block < W.heap.size := fun x hx => hW.lt x hx
  obtain ⟨p, q, hA0, hV, rfl, hfz, hnd⟩ := hW
  have hA : DataW.TrodAll enc Try.prog W 0 (fun _ => true) true Try.f6.params.toList args.toList ds p := hA0
  rw [Try.params6] at hA hval
  obtain ⟨v0, vs0, d0, ds0, p0, q0, hargs, rfl, rfl, h0, r0⟩ := trodAll_cons hA
  obtain ⟨rfl, rfl, rfl⟩ := trodAll_nil r0
  obtain rfl : args = #[v0] := by cases args; simp_all
  obtain ⟨rfl, rfl⟩ := trodVars_none hV
  obtain ⟨l0, s0, m0, n0⟩ := open_rowI (hval 0 22 v0 rfl rfl) h0
  clear hA0 hval0
  refine (walk v0 l0 s0 m0 n0).mono fun e W' ⟨he, bel⟩ => ?_
  subst he
  exact ⟨_, rfl, _, _, _, [], _, [], hW', trodAll_mk1 (shut_bool Try.underlying4 _), (trodAll_cons_mk (Below.trod Try.laidOut (by kernel_rfl) (of_decide_eq_true (by kernel_rfl)) h0 bel (fun x hx => hplt x (by simp [hx]))) trodAll_mk0), rfl, World.keptBut_mono (fun x hx => ⟨hx, Or.inr (by simpa using hx)⟩) (bel.frame (· ∈ _)), fun h => by cases h⟩

theorem over : Rows.treelabelWalksRow.holds Try.pinned (OpenSpec.ofChange Rows.treelabelWalksSpec) :=
  OpenClaim.holds_of_wide 6 Try.f6 rfl rfl rfl rfl rfl rfl rfl ⟨rfl, rfl, rfl, rfl, rfl⟩ rfl rfl rfl rfl rfl (by kernel_rfl) Try.func6 (by kernel_rfl)
    (of_decide_eq_true (by kernel_rfl)) (by unfold Func.isWrapper; first | (rw [if_pos (by decide +kernel)]; kernel_rfl) | (rw [if_neg (by decide +kernel)]; exact ⟨rfl, rfl⟩))
    (fun os started H enc _ => lifted os started H enc)

/-- THE STATEMENT. -/
theorem proved : Rows.TreelabelWalksSaid := over
end Go.Proofs.Ytjialelklnjcfaa.treelabelWalks
