/-
  WALKS over the reference of depend: parse.
-/
import Derived.Test.YtjialelklnjcfaaDoorDpC
import Derived.Test.YtjialelklnjcfaaDoorDcK
import Derived.Test.YtjialelklnjcfaaDoorDpB
import Derived.BigQuiet
import Derived.Test.YtjialelklnjcfaaDoorAtN
namespace Go.Proofs.YtjialelklnjcfaaDoor
open Go Go.RowKit Go.Shelf Go.Lib
set_option linter.unusedVariables false
attribute [local go_sem] Oper.semAt_some

/-- The rows of a call: heads, begins, relations. -/
structure Rows3 (W : World) (base : Nat) (vh vb vr : Value) (hs : List Int) (bs : List Nat) (rs : Fs) (k : Nat) : Prop where
  h : W.ownsRow base 3 1 vh k (intV hs)
  b : W.ownsRow base 3 1 vb k (natV bs)
  r : W.ownsRow base 9 1 vr k (strsV rs)
  d : ∀ i, vb.ownBlock = some i → vh.ownBlock ≠ some i
/-- What the reference's parse leaves. -/
def RParsed (w : World) (T : Nat) (L : Bs) (e : Ending) (W' : World) : Prop :=
  (∃ vh vr, e = .returned (.tuple #[vh, vr, .int .i64 (textE T L).1, .int .i64 (textE T L).2]) ∧ ((textE T L).2 = 0 → W'.ownsRow w.heap.size 3 1 vh (rd T (linesL L)).hs.length (intV (rd T (linesL L)).hs) ∧ W'.ownsRow w.heap.size 9 1 vr (rd T (linesL L)).rs.length (strsV (rd T (linesL L)).rs)) ∧
    ((textE T L).2 ≠ 0 → vh = .slice none 0 0 ∧ vr = .slice none 0 0)) ∧ Below w.heap.size w W'
theorem rparsed_bad {w W' : World} {T : Nat} {L : Bs} {a e : Int} (h : textE T L = (a, e)) (he : e ≠ 0) (hb : Below w.heap.size w W') : RParsed w T L (.returned (.tuple #[.slice none 0 0, .slice none 0 0, .int .i64 a, .int .i64 e])) W' := by
  refine ⟨⟨_, _, by rw [h], fun hz => ?_, fun _ => ⟨rfl, rfl⟩⟩, hb⟩
  rw [h] at hz
  exact absurd hz he
theorem findZ_lt {α : Type} {p : α → Bool} {l : List α} : findZ p l < (l.length : Int) ∨ findZ p l < 0 := by
  unfold findZ
  cases hf : l.findIdx? p with
  | none => right; decide
  | some i =>
    left
    have := (List.findIdx?_eq_some_iff_getElem.1 hf).1
    show (i : Int) < _
    omega
theorem getD_ofN {l : List Nat} {i g : Nat} (e : l[i]? = some g) : l.getD i 0 = g := by rw [List.getD_eq_getElem?_getD, e]; rfl
/-- Three appends, one behind the other. -/
theorem Rows3.push {w w1 w2 w3 : World} {base : Nat} {vh vb vr v1 v2 v3 : Value} {hs : List Int} {bs : List Nat} {rs : Fs} {k : Nat} {x : Int} {b : Nat} {S : ByteArray} {r : Bs} (h : Rows3 w base vh vb vr hs bs rs k) (hr : S.data.toList = r)
    (o1 : w1.ownsRow base 3 1 v1 (k + 1) (intV hs ++ [.int .i64 x])) (g1 : w.grownBy w1 vh.ownBlock) (l1 : v1.ownBlock = vh.ownBlock ∨ ∃ j, v1.ownBlock = some j ∧ w.heap.size ≤ j)
    (o2 : w2.ownsRow base 9 1 v2 (k + 1) (strsV rs ++ [.string S])) (g2 : w1.grownBy w2 vr.ownBlock)
    (o3 : w3.ownsRow base 3 1 v3 (k + 1) (natV bs ++ [.int .i64 (b : Int)])) (g3 : w2.grownBy w3 vb.ownBlock) (l3 : v3.ownBlock = vb.ownBlock ∨ ∃ j, v3.ownBlock = some j ∧ w2.heap.size ≤ j) :
    Rows3 w3 base v1 v3 v2 (hs ++ [x]) (bs ++ [b]) (rs ++ [r]) (k + 1) := by
  have hb1 := own_grown h.b g1 (fun i e => h.d i e)
  have hr1 := own_grown h.r g1 (fun i e e2 => own_types h.h h.r (by decide) i e2 e)
  have d1 : ∀ i, vb.ownBlock = some i → v1.ownBlock ≠ some i := fun i e e2 => by
    rcases l1 with l | ⟨j, l, hj⟩
    · rw [l] at e2; exact h.d i e e2
    · rw [l] at e2
      have h5 := (own_low h.b i e).2
      cases e2
      omega
  have hh2 := own_grown o1 g2 (fun i e e2 => own_types o1 hr1 (by decide) i e e2)
  have hb2 := own_grown hb1 g2 (fun i e e2 => own_types hb1 hr1 (by decide) i e e2)
  have hh3 := own_grown hh2 g3 (fun i e e2 => d1 i e2 e)
  have hr3 := own_grown o2 g3 (fun i e e2 => own_types hb2 o2 (by decide) i e2 e)
  have hS : Value.string S = strV r := by
    unfold strV
    rw [← hr]
  refine ⟨?_, ?_, ?_, fun i e e2 => ?_⟩
  · unfold intV at hh3 ⊢
    rw [List.map_append]
    exact hh3
  · unfold natV at o3 ⊢
    rw [List.map_append]
    exact o3
  · unfold strsV at hr3 ⊢
    rw [List.map_append, List.map_cons, List.map_nil, ← hS]
    exact hr3
  · rcases l3 with l | ⟨j, l, hj⟩
    · rw [l] at e; exact d1 i e e2
    · rw [l] at e
      have h5 := (own_low hh2 i e2).2
      cases e
      omega
theorem rows3_len {w : World} {base : Nat} {vh vb vr : Value} {hs : List Int} {bs : List Nat} {rs : Fs} {k : Nat} (h : Rows3 w base vh vb vr hs bs rs k) : hs.length = k ∧ bs.length = k ∧ rs.length = k := by
  refine ⟨?_, ?_, ?_⟩
  · have := h.h.1; simpa [intV] using this
  · have := h.b.1; simpa [natV] using this
  · have := h.r.1; simpa [strsV] using this
theorem rparsed_good {w W' : World} {T : Nat} {L : Bs} {vh vr : Value} (h : textE T L = (0, 0)) (hh : W'.ownsRow w.heap.size 3 1 vh (rd T (linesL L)).hs.length (intV (rd T (linesL L)).hs)) (hr : W'.ownsRow w.heap.size 9 1 vr (rd T (linesL L)).rs.length (strsV (rd T (linesL L)).rs)) (hb : Below w.heap.size w W') : RParsed w T L (.returned (.tuple #[vh, vr, .int .i64 0, .int .i64 0])) W' := by
  refine ⟨⟨_, _, by rw [h], fun _ => ⟨hh, hr⟩, fun hz => ?_⟩, hb⟩
  rw [h] at hz
  exact absurd rfl hz
theorem results_par {tmps : Array Value} {W : World} {v4 v5 v6 v7 : Value} (h4 : tmps[4]? = some v4) (h5 : tmps[5]? = some v5) (h6 : tmps[6]? = some v6) (h7 : tmps[7]? = some v7) :
    (results Tryd.f13 tmps).run Tryd.prog W = .ok (.tuple #[v4, v5, v6, v7]) W := by
  simp [results, Tryd.f13, h4, h5, h6, h7]
theorem byte_list {s : ByteArray} {i : Nat} (h : i < s.size) : s.data.toList[i]? = some (s[i]'h) := by
  have h2 : i < s.data.toList.length := by rw [← Lib.size_eq]; exact h
  exact List.getElem?_eq_getElem h2
theorem ne10 {b : UInt8} (h : b ≠ 10) : ((b.toNat : Int) != 10) = true := by
  simp only [bne_iff_ne, ne_eq]
  intro e
  exact h (UInt8.toNat_inj.1 (by show b.toNat = 10; omega))
theorem eq10 {b : UInt8} (h : b = 10) : ((b.toNat : Int) != 10) = false := by subst h; rfl
theorem byte_at {s : ByteArray} {i : Nat} (h : i < s.size) : ∃ c : UInt8, s.data.toList[i]? = some c ∧ s[i]? = some c := by
  have h2 : i < s.data.toList.length := by rw [← Lib.size_eq]; exact h
  refine ⟨_, List.getElem?_eq_getElem h2, ?_⟩
  rw [getElem?_pos s i h]
  rfl

set_option maxRecDepth 100000 in
set_option maxHeartbeats 16000000 in
theorem refParse_any {w : World} (s : ByteArray) (hs : s.size ≤ 2000) (T : Nat) (hT : T ≤ 4096) :
    Calls Tryd.prog 13 #[.string s, .int .i64 (T : Int)] w (RParsed w T s.data.toList) := by
  obtain ⟨n, hn⟩ : ∃ n, s.size = n := ⟨_, rfl⟩
  have hnL : s.data.toList.length = n := by rw [← Lib.size_eq]; exact hn
  rw [hn] at hs
  have HN := Lib.hid (And.intro hn hnL)
  clear hn hnL
  go_enter Tryd.func13, Tryd.ntmps13
  go_wp2_with fail
  obtain ⟨wo, rfl⟩ : ∃ wo, wo = w := ⟨_, rfl⟩
  go_loopg [8, 9, 10, 11] (n + 1) (fun gg hv bv rv fv wr => ∃ (pre : List Bs) (fr : Nat), fv = .int .i64 fr ∧ n + 1 - fr ≤ gg ∧ Hid (Rp T s.data.toList pre fr) ∧ Hid (Rows3 wr wo.heap.size hv bv rv (rd T pre).hs (rd T pre).bs (rd T pre).rs (rd T pre).hs.length) ∧ Hid (Below wo.heap.size wo wr))
  case atStart => exact ⟨[], 0, rfl, by omega, Lib.hid (Rp.start T _), Lib.hid ⟨World.ownsRow_nil _ _ _ 1, World.ownsRow_nil _ _ _ 1, World.ownsRow_nil _ _ _ 1, fun i e => by simp [Value.ownBlock] at e⟩, Lib.hid (Below.refl _ _)⟩
  case round =>
    obtain ⟨pre, fr, rfl, hgg, HR, HW, HB⟩ := hrel
    obtain ⟨Ah, ch, rfl, hch⟩ := own_form HW.out.h
    obtain ⟨Ab, cb, rfl, hcb⟩ := own_form HW.out.b
    obtain ⟨Ar, cr, rfl, hcr⟩ := own_form HW.out.r
    obtain ⟨k, hk⟩ : ∃ k, (rd T pre).hs.length = k := ⟨_, rfl⟩
    have hok := rd_ok T pre HR.out.err
    have hkT : k ≤ T := by rw [← hk]; exact hok.le
    by_cases hlt : fr < n
    · have hfL : fr < s.data.toList.length := by rw [HN.out.2]; exact hlt
      obtain ⟨h1, h2, h3⟩ := HR.out.cons hfL
      have hfail := HR.out.fail hfL
      have hnext := HR.out.next hfL
      obtain ⟨c, hc⟩ : ∃ c, chunk (s.data.toList.drop fr) = c := ⟨_, rfl⟩
      have hget := fun (j : Nat) (hj : j < c.length) => chunk_get (s := s.data.toList.drop fr) (j := j) (by rw [hc]; exact hj)
      have hend := chunk_end (s.data.toList.drop fr)
      rw [hc, hk] at hfail hnext
      rw [hc] at h3 hend hget
      rw [HN.out.2] at h3
      rw [hk] at HW ⊢
      have HFAIL := Lib.hid hfail
      have HNEXT := Lib.hid hnext
      have HGET := Lib.hid hget
      have HEND := Lib.hid hend
      have HC3 := Lib.hid h3
      have HOK := Lib.hid hok
      have hgg2 := hgg
      have HGG := Lib.hid hgg2
      have hfn : (fr : Int) < (s.size : Int) := by have := HN.out.1; omega
      have hfn2 : fr < s.size := by have := HN.out.1; omega
      clear h1 h2 h3 hfail hnext hc hget hend hok hch hcb hcr hk hgg hgg2 hfL
      go_wp2_with fail
      go_loopw [12] (fun tv wq => ∃ j : Nat, j ≤ c.length ∧ tv = .int .i64 ((fr + j : Nat) : Int) ∧ wq = wr) (fun tv _ => n + 1 - (Go.RowKit.intOf tv).toNat)
      case atStart => exact ⟨0, Nat.zero_le _, rfl, rfl⟩
      case round =>
        obtain ⟨j, hj, rfl, rfl⟩ := hrel
        have hjn : fr + j ≤ n := by have := HC3.out; omega
        by_cases hjc : j < c.length
        · obtain ⟨hg1, hg2⟩ := HGET.out j hjc
          rw [List.getElem?_drop] at hg1 hg2
          have hjs : fr + j < s.size := by have := HN.out.1; have := HC3.out; omega
          have hne := ne10 (b := s[fr + j]'hjs) (fun e => hg2 (by rw [byte_list hjs, e]))
          clear hg1 hg2
          go_wp2_with fail
          exact ⟨⟨j + 1, by omega, by go_num, by first | rfl | trivial⟩, by simp only [Go.RowKit.intOf]; omega⟩
        · obtain rfl : j = c.length := by omega
          have hend := HEND.out
          rw [List.getElem?_drop] at hend
          have hE : ((¬ fr + c.length < s.size) ∨ ∃ h : fr + c.length < s.size, (((s[fr + c.length]'h).toNat : Int) != 10) = false) := by
            rcases hend with h | h
            · left
              intro hlt
              rw [byte_list hlt] at h
              cases h
            · right
              have hl : fr + c.length < s.size := by
                have := (List.getElem?_eq_some_iff.1 h).1
                rw [← Lib.size_eq] at this
                exact this
              refine ⟨hl, eq10 ?_⟩
              rw [byte_list hl] at h
              exact Option.some.inj h
          obtain ⟨D, hD⟩ : ∃ D, c.takeWhile digB = D := ⟨_, rfl⟩
          obtain ⟨m, hm⟩ : ∃ m, D.length = m := ⟨_, rfl⟩
          have hDl : m ≤ c.length := by rw [← hm, ← hD]; exact (List.takeWhile_sublist _).length_le
          have HD := Lib.hid hD
          have HM := Lib.hid hm
          have HDG := Lib.hid (fun (j : Nat) (hj : j < m) => dig_get (c := c) (j := j) (by rw [hD, hm]; exact hj))
          have HDE := Lib.hid (dig_end c)
          clear hend hD hm
          rcases hE with hE | ⟨hE1, hE2⟩
          all_goals
            by_cases hkT2 : k = T
            · have hf := HFAIL.out
              rw [lineR_count hkT2] at hf
              have hf2 : textE T s.data.toList = ((fr : Int), 15) := by rw [hf (by decide)]; simp
              have HF2 := Lib.hid hf2
              have hkk : T ≤ k := by omega
              clear hf hf2
              go_wp2_with fail
              exact bodyPost_ret (results_par rfl rfl rfl rfl) rfl (rparsed_bad HF2.out (by decide) HB.out)
            · have hkk : ¬ T ≤ k := by omega
              have hkk2 : ¬ (k : Int) ≥ (T : Int) := by omega
              go_wp2_with fail
              go_loopw [13, 14] (fun nv iv wq => ∃ j : Nat, j ≤ m ∧ nv = .int .i64 ((cap (valD (D.take j)) : Nat) : Int) ∧ iv = .int .i64 ((fr + j : Nat) : Int) ∧ Hid (1 < j → c[0]? ≠ some 48) ∧ wq = wr) (fun _ iv _ => n + 1 - (Go.RowKit.intOf iv).toNat)
              case atStart => exact ⟨0, Nat.zero_le _, rfl, rfl, Lib.hid (fun h => absurd h (by omega)), rfl⟩
              case round =>
                obtain ⟨j, hj, rfl, rfl, H48, rfl⟩ := hrel
                by_cases hjm : j < m
                · obtain ⟨b, hb1, hb2, hb3, hb4, hb5⟩ := HDG.out j hjm
                  have hjs : fr + j < s.size := by have := HN.out.1; have := HC3.out; omega
                  have hbv : (s[fr + j]'hjs).toNat = b.toNat := by
                    have h1 := (HGET.out j (by omega)).1
                    rw [List.getElem?_drop, byte_list hjs, hb1] at h1
                    rw [Option.some.inj h1]
                  obtain ⟨v, hv⟩ : ∃ v, b.toNat = v := ⟨_, rfl⟩
                  rw [hv] at hbv hb3 hb4
                  obtain ⟨N0, hN0⟩ : ∃ x, cap (valD (D.take j)) = x := ⟨_, rfl⟩
                  have hcs := cap_step (valD (D.take j)) (v - 48) (by omega)
                  have hvt := valD_take hb2
                  rw [HD.out, hv] at hvt
                  rw [hN0, ← hvt] at hcs
                  have HCI := Lib.hid (show min (10 * (N0 : Int) + ((v : Int) - 48)) 1099511627776 = ((cap (valD (D.take (j + 1))) : Nat) : Int) by have := hcs; omega)
                  have hN40 : N0 ≤ 1099511627776 := by rw [← hN0]; unfold cap; omega
                  have q1 : 48 ≤ v := hb3
                  have q2 : (48 : Int) ≤ (v : Int) := by omega
                  have q3 : v ≤ 57 := hb4
                  have q4 : (v : Int) ≤ 57 := by omega
                  have hw1 : IntKind.i64.wrap (10 * (N0 : Int)) = 10 * (N0 : Int) := by rw [IntKind.wrap_i64]; omega
                  have hjc2 : fr + j < fr + c.length := by omega
                  have hjc3 : (fr : Int) + (j : Int) < (fr : Int) + (c.length : Int) := by omega
                  rw [hN0]
                  by_cases hj1 : j = 1
                  · subst hj1
                    have hfs : fr < s.size := by omega
                    obtain ⟨u, hu⟩ : ∃ u, (s[fr]'hfs).toNat = u := ⟨_, rfl⟩
                    by_cases hu48 : u = 48
                    · subst hu48
                      have h0c : c[0]? = some 48 := by
                        have h1 := (HGET.out 0 (by omega)).1
                        rw [List.getElem?_drop, Nat.add_zero, byte_list hfs] at h1
                        rw [← h1]
                        congr 1
                        exact UInt8.toNat_inj.1 hu
                      have hf := HFAIL.out
                      rw [lineR_zero hkT2 (by rw [HD.out, HM.out]; exact hjm) h0c] at hf
                      have hf2 : textE T s.data.toList = ((fr : Int) + 1, 3) := hf (by decide)
                      have HF2 := Lib.hid hf2
                      clear hf hf2 hb1 hb2 hb5 hv hN0 hcs hvt h0c
                      go_wp2_with fail
                      exact bodyPost_ret (results_par rfl rfl rfl rfl) rfl (rparsed_bad HF2.out (by decide) HB.out)
                    · have hu2 : ¬ (u : Int) = 48 := by omega
                      have hu3 : ((u : Int) == 48) = false := by simp; omega
                      have H48' : Hid (1 < 1 + 1 → c[0]? ≠ some 48) := Lib.hid (fun _ h => by
                        have h1 := (HGET.out 0 (by omega)).1
                        rw [List.getElem?_drop, Nat.add_zero, byte_list hfs, h] at h1
                        have h2 := Option.some.inj h1
                        rw [h2] at hu
                        exact hu48 hu.symm)
                      clear hb1 hb2 hb5 hv hN0 hcs hvt
                      go_wp2_with fail
                      exact ⟨⟨1 + 1, by omega, by rw [HCI.out], by go_num, H48', by first | rfl | trivial⟩, by simp only [Go.RowKit.intOf]; omega⟩
                  · have hj2 : ((fr : Int) + (j : Int) == (fr : Int) + 1) = false := by simp; omega
                    have hj3 : ¬ (fr : Int) + (j : Int) = (fr : Int) + 1 := by omega
                    have hj4 : ((j : Int) == 1) = false := by simp; omega
                    have hj5 : ¬ (j : Int) = 1 := by omega
                    have H48' : Hid (1 < j + 1 → c[0]? ≠ some 48) := Lib.hid (fun h => H48.out (by omega))
                    clear hb1 hb2 hb5 hv hN0 hcs hvt
                    go_wp2_with fail
                    exact ⟨⟨j + 1, by omega, by rw [HCI.out], by go_num, H48', by first | rfl | trivial⟩, by simp only [Go.RowKit.intOf]; omega⟩
                · obtain rfl : j = m := by omega
                  have hDf : D.take j = D := List.take_of_length_le (by rw [HM.out]; omega)
                  have hz := H48.out
                  have hl0 : j = 0 → textE T s.data.toList = ((fr : Int), 3) := fun h0 => by
                    have hf := HFAIL.out
                    rw [lineR_none hkT2 (by rw [HD.out, HM.out]; exact h0)] at hf
                    rw [hf (by decide)]
                    simp
                  have hlr : j ≠ 0 → lineR T k c = if c[j]? ≠ some 9 then ((j : Int), 3, 0, []) else if T < valD D then (0, 8, 0, []) else if relB (c.drop (j + 1)) = false then (((j + 1 : Nat) : Int), 4, 0, []) else (0, 0, (valD D : Int) - 1, c.drop (j + 1)) := fun h0 => by
                    have := lineR_rest (T := T) (k := k) (c := c) hkT2 (by rw [HD.out, HM.out]; exact h0) (by rw [HD.out, HM.out]; exact fun h => hz h.1 h.2)
                    rw [HD.out, HM.out] at this
                    exact this
                  have hl9 : c[j]? ≠ some 9 → textE T s.data.toList = ((fr : Int) + (j : Int), 3) := fun h9 => by
                    by_cases h0 : j = 0
                    · rw [hl0 h0, h0]; simp
                    · have hf := HFAIL.out
                      rw [hlr h0, if_pos h9] at hf
                      exact hf (by show (3 : Int) ≠ 0; decide)
                  have hde := HDE.out
                  rw [HD.out, HM.out] at hde
                  have HL0 := Lib.hid hl0
                  have HLR := Lib.hid hlr
                  have HL9 := Lib.hid hl9
                  rw [hDf]
                  obtain ⟨N0, hN0⟩ : ∃ x, cap (valD D) = x := ⟨_, rfl⟩
                  have HN0 := Lib.hid hN0
                  rw [hN0]
                  clear hl0 hlr hl9 hz hDf hN0
                  rcases hde with h | ⟨b, hb, hbd⟩
                  · have hjc3 : ¬ fr + j < fr + c.length := by
                      have := List.getElem?_eq_none_iff.1 h
                      omega
                    have hjc4 : ¬ (fr : Int) + (j : Int) < (fr : Int) + (c.length : Int) := by omega
                    have hjc5 : (fr : Int) + (j : Int) ≥ (fr : Int) + (c.length : Int) := by omega
                    have hjc6 : c.length ≤ j := by omega
                    have HF2 := Lib.hid (HL9.out (by rw [h]; simp))
                    clear h
                    by_cases h0 : j = 0
                    · have h00 : ((fr : Int) + (j : Int) == (fr : Int)) = true := by simp; omega
                      replace HF2 := Lib.hid (HL0.out h0)
                      go_wp2_with fail
                      all_goals exact bodyPost_ret (results_par rfl rfl rfl rfl) rfl (rparsed_bad HF2.out (by decide) HB.out)
                    · have h00 : ((fr : Int) + (j : Int) == (fr : Int)) = false := by simp; omega
                      have h01 : ¬ (j : Int) = 0 := by omega
                      go_wp2_with fail
                      all_goals exact bodyPost_ret (results_par rfl rfl rfl rfl) rfl (rparsed_bad HF2.out (by decide) HB.out)
                  · have hjl : j < c.length := (List.getElem?_eq_some_iff.1 hb).1
                    have hjs : fr + j < s.size := by have := HN.out.1; have := HC3.out; omega
                    have hbv : (s[fr + j]'hjs).toNat = b.toNat := by
                      have h1 := (HGET.out j hjl).1
                      rw [List.getElem?_drop, byte_list hjs, hb] at h1
                      rw [Option.some.inj h1]
                    have hb9 : b.toNat ≠ 9 → c[j]? ≠ some 9 := fun h e => by
                      rw [hb] at e
                      rw [Option.some.inj e] at h
                      exact h rfl
                    have hb10 : b.toNat = 9 → c[j]? = some 9 := fun h => by
                      rw [hb]
                      congr 1
                      exact UInt8.toNat_inj.1 h
                    obtain ⟨v, hv⟩ : ∃ v, b.toNat = v := ⟨_, rfl⟩
                    rw [hv] at hbv hbd hb9 hb10
                    have hjc2 : fr + j < fr + c.length := by omega
                    have hjc3 : (fr : Int) + (j : Int) < (fr : Int) + (c.length : Int) := by omega
                    have hjc4 : ¬ (fr : Int) + (j : Int) ≥ (fr : Int) + (c.length : Int) := by omega
                    have hjc5 : ¬ c.length ≤ j := by omega
                    clear hb hv
                    by_cases h0 : j = 0
                    · have HF2 := Lib.hid (HL0.out h0)
                      clear hb9 hb10
                      subst h0
                      simp only [Nat.add_zero] at hbv
                      by_cases hv48 : 48 ≤ v
                      · have hv57 : ¬ v ≤ 57 := fun h => hbd ⟨hv48, h⟩
                        have hv48i : (48 : Int) ≤ (v : Int) := by omega
                        clear hbd
                        go_wp2_with fail
                        all_goals exact bodyPost_ret (results_par rfl rfl rfl rfl) rfl (rparsed_bad HF2.out (by decide) HB.out)
                      · clear hbd
                        go_wp2_with fail
                        all_goals exact bodyPost_ret (results_par rfl rfl rfl rfl) rfl (rparsed_bad HF2.out (by decide) HB.out)
                    · have h00 : ((fr : Int) + (j : Int) == (fr : Int)) = false := by simp; omega
                      have h01 : ¬ (j : Int) = 0 := by omega
                      by_cases hv9 : v = 9
                      · subst hv9
                        have HV9 := Lib.hid (hb10 rfl)
                        clear hb9 hb10 hbd
                        by_cases hTV : T < N0
                        · have hTV2 : (N0 : Int) > (T : Int) := by omega
                          have HF2 := Lib.hid (show textE T s.data.toList = ((fr : Int), 8) by
                            have hf := HFAIL.out
                            rw [HLR.out h0, if_neg (by rw [HV9.out]; simp), if_pos ((cap_gt _ _ hT).1 (by rw [HN0.out]; exact hTV))] at hf
                            rw [hf (by show (8 : Int) ≠ 0; decide)]
                            simp)
                          go_wp2_with fail
                          all_goals exact bodyPost_ret (results_par rfl rfl rfl rfl) rfl (rparsed_bad HF2.out (by decide) HB.out)
                        · have hTV2 : ¬ (N0 : Int) > (T : Int) := by omega
                          have hNV : N0 = valD D := by
                            have h1 : ¬ T < valD D := fun h => hTV (by rw [← HN0.out]; exact (cap_gt _ _ hT).2 h)
                            rw [← HN0.out]
                            exact cap_le _ T hT (by omega)
                          obtain ⟨R, hR⟩ : ∃ R, s.extract (fr + j + 1) (fr + c.length) = R := ⟨_, rfl⟩
                          have hRl : R.data.toList = c.drop (j + 1) := by
                            rw [← hR, Lib.extract_data]
                            refine List.ext_getElem? fun i => ?_
                            rw [List.getElem?_take, List.getElem?_drop, List.getElem?_drop]
                            by_cases hi : i < fr + c.length - (fr + j + 1)
                            · rw [if_pos hi, ← (HGET.out (j + 1 + i) (by omega)).1, List.getElem?_drop]
                              congr 1
                              omega
                            · rw [if_neg hi, List.getElem?_eq_none (by omega)]
                          have hRs : R.size ≤ maxLen := by
                            rw [Lib.size_eq, hRl, List.length_drop]
                            unfold maxLen
                            have := HC3.out
                            omega
                          have hname := fun W => refName_any R hRs W
                          rw [hRl] at hname
                          obtain ⟨nb, hnb⟩ : ∃ x, nameB (c.drop (j + 1)) = x := ⟨_, rfl⟩
                          rw [hnb] at hname
                          obtain ⟨eb, heb⟩ : ∃ x, (R.toList == ([] : List UInt8)) = x := ⟨_, rfl⟩
                          have hrel : relB (c.drop (j + 1)) = (eb || nb) := by
                            unfold relB
                            rw [hnb, ← heb, Lib.toList_data, hRl]
                            congr 1
                            rw [Bool.eq_iff_iff]
                            simp
                          have HREL := Lib.hid hrel
                          have HNAME := Lib.hid hname
                          have HRL := Lib.hid hRl
                          have HNV := Lib.hid hNV
                          have hext1 : (fr : Int) + (j : Int) + 1 ≤ (fr : Int) + (c.length : Int) := by omega
                          have hext2 : (fr : Int) + (c.length : Int) ≤ (s.size : Int) := by have := HN.out.1; have := HC3.out; omega
                          have hext3 : fr + c.length ≤ s.size := by have := HN.out.1; have := HC3.out; omega
                          clear hname hnb hrel hRl hRs hNV
                          cases eb with
                          | true =>
                            have HLZ := Lib.hid (show lineR T k c = (0, 0, (valD D : Int) - 1, c.drop (j + 1)) by
                              rw [HLR.out h0, if_neg (by rw [HV9.out]; simp), if_neg (by rw [← HNV.out]; omega), if_neg (by rw [HREL.out]; simp)])
                            have hwx : IntKind.i64.wrap ((N0 : Int) - 1) = (N0 : Int) - 1 := by rw [IntKind.wrap_i64]; omega
                            have HBS := Lib.hid (HB.out.size)
                            have hk6 : k ≤ 1000000 := by omega
                            obtain ⟨i1, hi1, hy0, hy1, hy2⟩ := info_parts' Tryd.infoInt2
                            obtain ⟨i0, hi0, hz0, hz1, hz2⟩ := info_parts' Tryd.infoStr
                            go_wp2_with (first
                              | (at_builtin
                                 refine wpList_push1 rfl (.tmp 111) (.tmp 114) 22 3 i1 _ 8 rfl Tryd.underlying22 hi1 hy0 hy1 hy2 rfl (by decide) wo.heap.size _ k _ (.int .i64 ((N0 : Int) - 1)) rfl rfl rfl HW.out.h hk6 HBS.out ?_
                                 intro v6 w6 HO6 HG6 HL6
                                 obtain ⟨A6, c6, rfl, hc6⟩ := own_form HO6.out
                                 have HR6 := Lib.hid (own_grown HW.out.r HG6.out (fun i e e2 => own_types HW.out.h HW.out.r (by decide) i e2 e))
                                 have HB6 := Lib.hid (own_grown HW.out.b HG6.out (fun i e => HW.out.d i e))
                                 have HS6 := Lib.hid (Nat.le_trans HBS.out HG6.out.size))
                              | (at_builtin
                                 refine wpList_push1 rfl (.tmp 116) (.tmp 118) 23 9 i0 _ 16 rfl Tryd.underlying23 hi0 hz0 hz1 hz2 rfl (by decide) wo.heap.size _ k _ (.string R) rfl rfl rfl HR6.out hk6 HS6.out ?_
                                 intro v7 w7 HO7 HG7 HL7
                                 obtain ⟨A7, c7, rfl, hc7⟩ := own_form HO7.out
                                 have HB7 := Lib.hid (own_grown HB6.out HG7.out (fun i e e2 => own_types HB6.out HR6.out (by decide) i e e2))
                                 have HS7 := Lib.hid (Nat.le_trans HS6.out HG7.out.size))
                              | (at_builtin
                                 refine wpList_push1 rfl (.tmp 120) (.tmp 122) 22 3 i1 _ 8 rfl Tryd.underlying22 hi1 hy0 hy1 hy2 rfl (by decide) wo.heap.size _ k _ (.int .i64 (fr : Int)) rfl rfl rfl HB7.out hk6 HS7.out ?_
                                 intro v8 w8 HO8 HG8 HL8
                                 obtain ⟨A8, c8, rfl, hc8⟩ := own_form HO8.out
                                 obtain ⟨x, hx1, hx2, hx3, hx4⟩ := HNEXT.out (by rw [HLZ.out])
                                 rw [HLZ.out] at hx2 hx3
                                 have hrow := HW.out.push HRL.out HO6.out HG6.out HL6.out HO7.out HG7.out HO8.out HG8.out HL8.out
                                 have hlen := (rows3_len hrow).1
                                 simp only at hx2 hx3
                                 rw [HNV.out] at hrow hlen
                                 rw [← hx2, ← hx3, ← hx4] at hrow
                                 rw [← hx2] at hlen
                                 have hrow2 : Rows3 w8 wo.heap.size (.slice A6 (k + 1) c6) (.slice A8 (k + 1) c8) (.slice A7 (k + 1) c7) (rd T (pre ++ [x])).hs (rd T (pre ++ [x])).bs (rd T (pre ++ [x])).rs (rd T (pre ++ [x])).hs.length := by rw [hlen]; exact hrow
                                 have hbe : Below wo.heap.size wo w8 := ((HB.out.grown HG6.out HBS.out (fun i e => (own_low HW.out.h i e).1)).grown HG7.out HS6.out (fun i e => (own_low HR6.out i e).1)).grown HG8.out HS7.out (fun i e => (own_low HB7.out i e).1)
                                 have HROW := Lib.hid hrow2
                                 have HBE := Lib.hid hbe
                                 have HRX := Lib.hid hx1
                                 clear hrow hrow2 hlen hbe hx1 hx2 hx3 hx4)
                              | fail)
                            all_goals
                              have hg := HGG.out
                              go_roundg (n + 1 - (fr + c.length + 1))
                              case measure => omega
                              case rel => exact ⟨pre ++ [x], fr + c.length + 1, by go_num, Nat.le_refl _, HRX, HROW, HBE⟩
                          | false =>
                            go_wp2_with fail
                            all_goals
                              refine (HNAME.out _).mono ?_
                              rintro e w5 ⟨rfl, rfl⟩
                              cases nb with
                              | false =>
                                have HF2 := Lib.hid (show textE T s.data.toList = ((fr : Int) + (j : Int) + 1, 4) by
                                  have hf := HFAIL.out
                                  rw [HLR.out h0, if_neg (by rw [HV9.out]; simp), if_neg (by rw [← HNV.out]; omega), if_pos (by rw [HREL.out]; rfl)] at hf
                                  rw [hf (by show (4 : Int) ≠ 0; decide)]
                                  simp
                                  omega)
                                go_wp2_with fail
                                all_goals exact bodyPost_ret (results_par rfl rfl rfl rfl) rfl (rparsed_bad HF2.out (by decide) HB.out)
                              | true =>
                                have HLZ := Lib.hid (show lineR T k c = (0, 0, (valD D : Int) - 1, c.drop (j + 1)) by
                                  rw [HLR.out h0, if_neg (by rw [HV9.out]; simp), if_neg (by rw [← HNV.out]; omega), if_neg (by rw [HREL.out]; simp)])
                                have hwx : IntKind.i64.wrap ((N0 : Int) - 1) = (N0 : Int) - 1 := by rw [IntKind.wrap_i64]; omega
                                have HBS := Lib.hid (HB.out.size)
                                have hk6 : k ≤ 1000000 := by omega
                                obtain ⟨i1, hi1, hy0, hy1, hy2⟩ := info_parts' Tryd.infoInt2
                                obtain ⟨i0, hi0, hz0, hz1, hz2⟩ := info_parts' Tryd.infoStr
                                go_wp2_with (first
                              | (at_builtin
                                 refine wpList_push1 rfl (.tmp 111) (.tmp 114) 22 3 i1 _ 8 rfl Tryd.underlying22 hi1 hy0 hy1 hy2 rfl (by decide) wo.heap.size _ k _ (.int .i64 ((N0 : Int) - 1)) rfl rfl rfl HW.out.h hk6 HBS.out ?_
                                 intro v6 w6 HO6 HG6 HL6
                                 obtain ⟨A6, c6, rfl, hc6⟩ := own_form HO6.out
                                 have HR6 := Lib.hid (own_grown HW.out.r HG6.out (fun i e e2 => own_types HW.out.h HW.out.r (by decide) i e2 e))
                                 have HB6 := Lib.hid (own_grown HW.out.b HG6.out (fun i e => HW.out.d i e))
                                 have HS6 := Lib.hid (Nat.le_trans HBS.out HG6.out.size))
                              | (at_builtin
                                 refine wpList_push1 rfl (.tmp 116) (.tmp 118) 23 9 i0 _ 16 rfl Tryd.underlying23 hi0 hz0 hz1 hz2 rfl (by decide) wo.heap.size _ k _ (.string R) rfl rfl rfl HR6.out hk6 HS6.out ?_
                                 intro v7 w7 HO7 HG7 HL7
                                 obtain ⟨A7, c7, rfl, hc7⟩ := own_form HO7.out
                                 have HB7 := Lib.hid (own_grown HB6.out HG7.out (fun i e e2 => own_types HB6.out HR6.out (by decide) i e e2))
                                 have HS7 := Lib.hid (Nat.le_trans HS6.out HG7.out.size))
                              | (at_builtin
                                 refine wpList_push1 rfl (.tmp 120) (.tmp 122) 22 3 i1 _ 8 rfl Tryd.underlying22 hi1 hy0 hy1 hy2 rfl (by decide) wo.heap.size _ k _ (.int .i64 (fr : Int)) rfl rfl rfl HB7.out hk6 HS7.out ?_
                                 intro v8 w8 HO8 HG8 HL8
                                 obtain ⟨A8, c8, rfl, hc8⟩ := own_form HO8.out
                                 obtain ⟨x, hx1, hx2, hx3, hx4⟩ := HNEXT.out (by rw [HLZ.out])
                                 rw [HLZ.out] at hx2 hx3
                                 have hrow := HW.out.push HRL.out HO6.out HG6.out HL6.out HO7.out HG7.out HO8.out HG8.out HL8.out
                                 have hlen := (rows3_len hrow).1
                                 simp only at hx2 hx3
                                 rw [HNV.out] at hrow hlen
                                 rw [← hx2, ← hx3, ← hx4] at hrow
                                 rw [← hx2] at hlen
                                 have hrow2 : Rows3 w8 wo.heap.size (.slice A6 (k + 1) c6) (.slice A8 (k + 1) c8) (.slice A7 (k + 1) c7) (rd T (pre ++ [x])).hs (rd T (pre ++ [x])).bs (rd T (pre ++ [x])).rs (rd T (pre ++ [x])).hs.length := by rw [hlen]; exact hrow
                                 have hbe : Below wo.heap.size wo w8 := ((HB.out.grown HG6.out HBS.out (fun i e => (own_low HW.out.h i e).1)).grown HG7.out HS6.out (fun i e => (own_low HR6.out i e).1)).grown HG8.out HS7.out (fun i e => (own_low HB7.out i e).1)
                                 have HROW := Lib.hid hrow2
                                 have HBE := Lib.hid hbe
                                 have HRX := Lib.hid hx1
                                 clear hrow hrow2 hlen hbe hx1 hx2 hx3 hx4)
                              | fail)
                                all_goals
                                  have hg := HGG.out
                                  go_roundg (n + 1 - (fr + c.length + 1))
                                  case measure => omega
                                  case rel => exact ⟨pre ++ [x], fr + c.length + 1, by go_num, Nat.le_refl _, HRX, HROW, HBE⟩
                      · have HF2 := Lib.hid (HL9.out (hb9 hv9))
                        have hv9i : ((v : Int) != 9) = true := by simp; omega
                        have hv9j : ¬ (v : Int) = 9 := by omega
                        have hv9k : ((v : Int) == 9) = false := by simp; omega
                        have hv9l : (v == 9) = false := by simp; omega
                        clear hb9 hb10
                        by_cases hv48 : 48 ≤ v
                        · have hv57 : ¬ v ≤ 57 := fun h => hbd ⟨hv48, h⟩
                          clear hbd
                          go_wp2_with fail
                          all_goals exact bodyPost_ret (results_par rfl rfl rfl rfl) rfl (rparsed_bad HF2.out (by decide) HB.out)
                        · clear hbd
                          go_wp2_with fail
                          all_goals exact bodyPost_ret (results_par rfl rfl rfl rfl) rfl (rparsed_bad HF2.out (by decide) HB.out)
    · have hfL : s.data.toList.length ≤ fr := by rw [HN.out.2]; omega
      have hlin := HR.out.fin hfL
      have hsz : ((s.size : Nat) : Int) = (n : Int) := by rw [HN.out.1]
      have hlr := rows3_len (by rw [hk] at HW; exact HW.out)
      rw [hk] at HW ⊢
      have htx : textE T s.data.toList = if (rd T pre).hs.length < T then ((n : Int), 15) else if (checkH (rd T pre).hs).2 = 0 then (0, 0) else (((rd T pre).bs.getD (checkH (rd T pre).hs).1.toNat 0 : Nat), (checkH (rd T pre).hs).2) := by
        unfold textE
        rw [hlin, HR.out.err, HN.out.2]
      have hfn : ¬ (fr : Int) < (s.size : Int) := by omega
      have hfn2 : ¬ fr < s.size := by have := HN.out.1; omega
      rw [hk] at htx
      by_cases hkT2 : k < T
      · rw [if_pos hkT2] at htx
        have hkk : (k : Int) < (T : Int) := by omega
        have HF2 := Lib.hid htx
        clear htx hlin hok hlr
        go_wp2_with fail
        first
          | exact bodyPost_ret (results_par rfl rfl rfl rfl) rfl (rparsed_bad HF2.out (by decide) HB.out)
          | (rw [hsz]; exact bodyPost_ret (results_par rfl rfl rfl rfl) rfl (rparsed_bad HF2.out (by decide) HB.out))
      · rw [if_neg hkT2] at htx
        have hkk : ¬ (k : Int) < (T : Int) := by omega
        obtain ⟨hs2, hhs2⟩ : ∃ l, (rd T pre).hs = l := ⟨_, rfl⟩
        obtain ⟨bs2, hbs2⟩ : ∃ l, (rd T pre).bs = l := ⟨_, rfl⟩
        have hrows : Rows 1 EInt wr (.slice Ah k ch) hs2 := by
          rw [← hhs2]
          refine own_rows (base := wo.heap.size) ?_
          rw [hk]
          exact HW.out.h
        have hrowb : Rows 1 EInt wr (.slice Ab k cb) (intsN bs2) := by
          rw [← hbs2]
          exact own_rowsN hlr.2.1 HW.out.b
        have hck := refCheck_any hrows (by rw [← hhs2, hk]; unfold maxLen; omega)
        obtain ⟨⟨c1, c2⟩, hcc⟩ : ∃ r, checkH hs2 = r := ⟨_, rfl⟩
        rw [hhs2, hbs2, hcc] at htx
        rw [hcc] at hck
        simp only at htx hck
        have HCK := Lib.hid hck
        by_cases h0 : c2 = 0
        · subst h0
          rw [if_pos rfl] at htx
          have HF2 := Lib.hid htx
          have HLIN := Lib.hid hlin
          have HK := Lib.hid hk
          have HLR2 := Lib.hid hlr
          clear htx hlin hok hlr hrows hrowb hck hhs2 hbs2 hcc hk
          go_wp2_with fail
          refine HCK.out.mono ?_
          rintro e w5 ⟨rfl, hb5⟩
          have HB5 := Lib.hid (HB.out.trans (hb5.mono HB.out.size))
          have HO5 := Lib.hid (And.intro (own_after HW.out.h hb5) (own_after HW.out.r hb5))
          clear hb5
          go_wp2_with fail
          exact bodyPost_ret (results_par rfl rfl rfl rfl) rfl (rparsed_good HF2.out (by rw [HLIN.out, HK.out]; exact HO5.out.1) (by rw [HLIN.out, HLR2.out.2.2]; exact HO5.out.2) HB5.out)
        · rw [if_neg h0] at htx
          have h0b : (c2 != 0) = true := by simp [h0]
          have hcl : 0 ≤ c1 ∧ c1.toNat < k := by
            have hkl : hs2.length = k := by rw [← hhs2]; exact hk
            rcases checkH_cases hs2 with ⟨q1, q2⟩ | ⟨q1, q2, q3⟩ | ⟨q1, q2, q3, ⟨q4, q5⟩ | ⟨q4, q5⟩⟩
            · omega
            · rw [hcc] at q3
              have h1 : c1 = findZ (outH hs2.length) hs2 := congrArg Prod.fst q3
              have h2 := findZ_lt (p := outH hs2.length) (l := hs2)
              omega
            · rw [hcc] at q5
              have h1 : c1 = findZ (cyc hs2) (List.range hs2.length) := congrArg Prod.fst q5
              have h2 := findZ_lt (p := cyc hs2) (l := List.range hs2.length)
              rw [List.length_range] at h2
              omega
            · rw [hcc] at q5
              exact absurd (congrArg Prod.snd q5) h0
          obtain ⟨t, rfl⟩ : ∃ t : Nat, c1 = (t : Int) := ⟨c1.toNat, by omega⟩
          rw [Int.toNat_natCast] at htx hcl
          have htk : t < k := hcl.2
          have hti : (t : Int) < (k : Int) := by omega
          have hbl : bs2.length = k := by rw [← hbs2]; exact hlr.2.1
          obtain ⟨g, hg⟩ : ∃ g, bs2[t]? = some g := ⟨_, List.getElem?_eq_getElem (by omega)⟩
          rw [getD_ofN hg] at htx
          have HF2 := Lib.hid htx
          have HG := Lib.hid hg
          have HBL := Lib.hid hbl
          have HRB := Lib.hid (fun W (hb : Below wr.heap.size wr W) => hrowb.below stays_int hb)
          have hk0 : 0 < k := by omega
          clear htx hlin hok hlr hrows hrowb hck hhs2 hbs2 hcc hk hcl hbl hg
          go_wp2_with fail
          refine HCK.out.mono ?_
          rintro e w5 ⟨rfl, hb5⟩
          have HB5 := Lib.hid (HB.out.trans (hb5.mono HB.out.size))
          obtain ⟨bl, ol, rfl, -, hcell⟩ := at_int (HRB.out w5 hb5) (by rw [intsN_len, HBL.out]; exact hk0)
          have u0 := hcell t (g : Int) (by unfold intsN; rw [List.getElem?_map, HG.out]; rfl)
          have ht0 : (0 : Int) ≤ (t : Int) := by omega
          clear hcell hb5
          go_wp2_with fail
          go_quiet (fail)
          go_wp2_with fail
          exact bodyPost_ret (results_par rfl rfl rfl rfl) rfl (rparsed_bad HF2.out h0 (below_drewN HB5.out _))
end Go.Proofs.YtjialelklnjcfaaDoor
