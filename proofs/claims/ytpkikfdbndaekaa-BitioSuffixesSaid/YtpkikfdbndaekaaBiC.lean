/-
  WALKS over package bitio, third part: byte strings that are seen; Clone, Bytes, Gamma, Delta; the law's 'same' and 'awake' need them.
-/
import Derived.Test.YtpkikfdbndaekaaBiB
import Derived.Laws.BytesArg
import Derived.Laws.AppendOwnNone
import Derived.Lib.SliceRun
namespace Go.Proofs.Ytpkikfdbndaekaa
open Go.RowKit Go.Shelf Go.Lib

/-- A value that reads as a byte string; its cells lie below block B. -/
def Sees (w : World) (B : Nat) (v : Value) (L : List UInt8) : Prop :=
  (L = [] ∧ v = .slice none 0 0) ∨ ∃ ad cap, v = .slice (some ad) L.length cap ∧ L.length ≤ cap ∧ (0 < L.length → ad.block < B) ∧ ∀ j (hj : j < L.length), w.cell? (ad.add j) = some (.int .u8 (L[j].toNat : Int))
theorem block_add (a : Addr) (n : Nat) : (a.add n).block = a.block := by unfold Addr.add; split <;> rfl
theorem Sees.nil (w : World) (B : Nat) : Sees w B (.slice none 0 0) [] := .inl ⟨rfl, rfl⟩
theorem Sees.keep {w w' : World} {B : Nat} {v : Value} {L : List UInt8} (h : Sees w B v L) (hk : ∀ p : Addr, p.block < B → w'.cell? p = w.cell? p) : Sees w' B v L := by
  rcases h with h | ⟨ad, cap, hv, hc, hb, hj⟩
  · exact .inl h
  · exact .inr ⟨ad, cap, hv, hc, hb, fun j h => (hk _ (by rw [block_add]; exact hb (by omega))).trans (hj j h)⟩
theorem Sees.below {w w' : World} {B : Nat} {v : Value} {L : List UInt8} (h : Sees w B v L) (hb : Below B w w') : Sees w' B v L := h.keep fun _ hp => hb.cell hp
theorem Sees.mono {w : World} {B B' : Nat} {v : Value} {L : List UInt8} (h : Sees w B v L) (hb : B ≤ B') : Sees w B' v L := by
  rcases h with h | ⟨ad, cap, hv, hc, h0, hj⟩
  · exact .inl h
  · exact .inr ⟨ad, cap, hv, hc, fun h => Nat.lt_of_lt_of_le (h0 h) hb, hj⟩
theorem sees_own {w : World} {base : Nat} {v : Value} {L : List UInt8} (h : w.ownsRow base 5 1 v L.length (byteCells L)) : Sees w w.heap.size v L := by
  rcases h.2 with ⟨rfl, h0⟩ | ⟨g, cap, cur, hv, hb, hh, hc, _⟩
  · exact .inl ⟨List.length_eq_zero_iff.1 h0, rfl⟩
  · refine .inr ⟨⟨g, 0, none⟩, cap, hv, hc, fun _ => (Array.getElem?_eq_some_iff.1 hh).1, fun j hj => ?_⟩
    subst hv
    have ha : (⟨g, 0, none⟩ : Addr).add j = ⟨g, j, none⟩ := by unfold Addr.add; split <;> simp_all
    rw [ha, h.cellAt j (by omega)]
    simp [byteCells, hj]
theorem Sees.convert {w : World} {B : Nat} {v : Value} {L : List UInt8} (h : Sees w B v L) : (convert 22 9 v).run Try.prog w = .ok (.string ⟨L.toArray⟩) w := by
  rcases h with ⟨rfl, rfl⟩ | ⟨ad, cap, rfl, _, _, hj⟩
  · exact run_convert_bytes_nil w 22 5 Try.underlying22 Try.underlying5 0 0 9 Try.underlying9
  · exact run_convert_bytes_back w 22 9 5 ad cap L Try.underlying22 Try.underlying5 Try.underlying9 hj

set_option maxHeartbeats 400000 in
theorem same_any {w : World} {B B' : Nat} {v v' : Value} {L L' : List UInt8} (h : Sees w B v L) (h' : Sees w B' v' L') :
    Calls Try.prog 13 #[v, v'] w fun e w' => e = .returned (.bool (decide (L = L'))) ∧ w = w' := by
  have c1 := h.convert
  have c2 := h'.convert
  have e3 : ((⟨L.toArray⟩ : ByteArray).toList == (⟨L'.toArray⟩ : ByteArray).toList) = decide (L = L') := by
    rw [Lib.toList_data, Lib.toList_data, Bool.eq_iff_iff]
    simp
  obtain ⟨x, hx⟩ : ∃ x, (⟨L.toArray⟩ : ByteArray) = x := ⟨_, rfl⟩
  obtain ⟨y, hy⟩ : ∃ y, (⟨L'.toArray⟩ : ByteArray) = y := ⟨_, rfl⟩
  rw [hx] at c1 e3
  rw [hy] at c2 e3
  have H := Lib.hid e3
  clear e3 hx hy h h'
  go_enter Try.func13, Try.ntmps13
  go_wp2
  go_ret
  rw [H.out]
  exact ⟨rfl, rfl⟩

/-- An empty row of the call's own. -/
theorem own_empty (w : World) (t : TypeId) : (w.alloc (.cells #[] t)).ownsRow w.heap.size t 1 (.slice (some ⟨w.heap.size, 0, none⟩) 0 0) 0 [] :=
  ⟨rfl, .inr ⟨w.heap.size, 0, #[], rfl, Nat.le_refl _, block_new w _, Nat.le_refl _, by unfold maxLen; omega, rfl, rfl⟩⟩
theorem bytes_one (L : List UInt8) : ∀ u ∈ byteCells L, u.oneCell' = true := by
  intro u hu
  unfold byteCells at hu
  obtain ⟨b, _, rfl⟩ := List.mem_map.1 hu
  rfl

set_option maxHeartbeats 1000000 in
theorem clone_any {w : World} {v : Value} {L : List UInt8} (h : Sees w w.heap.size v L) (hL : L.length ≤ 10000000) :
    Calls Try.prog 38 #[v] w fun e w' => ∃ v', e = .returned v' ∧ w'.ownsRow w.heap.size 5 1 v' L.length (byteCells L) ∧ Below w.heap.size w w' := by
  rcases h with ⟨rfl, rfl⟩ | ⟨ad, cap, rfl, hc, hb, hj⟩
  · have hn : (binOp .eql 22 (.slice none 0 0) (.slice none 0 0)).run Try.prog w = .ok (.bool true) w := run_eql_slice_nil w _ _ none 0 0 0 0 Try.underlying22
    go_enter Try.func38, Try.ntmps38
    go_wp2
    go_ret
    exact ⟨_, rfl, World.ownsRow_nil _ _ _ _, Below.refl _ _⟩
  · obtain ⟨i0, hi, hz0, hz1, hz2⟩ := info_parts' Try.infoByte
    have hnews : ∀ (j : Nat) (u : Value), (byteCells L)[j]? = some u → (w.alloc (.cells #[] 5)).cell? (ad.add j) = some u := by
      intro j u hu
      have hjl : j < L.length := by
        have := (List.getElem?_eq_some_iff.1 hu).1
        rw [byteCells_length] at this
        exact this
      have hu2 : u = .int .u8 (L[j].toNat : Int) := by
        simp only [byteCells, List.getElem?_map, List.getElem?_eq_getElem hjl, Option.map_some, Option.some.injEq] at hu
        exact hu.symm
      rw [hu2, World.cell?_alloc_lt w _ _ (by rw [block_add]; exact hb (by omega))]
      exact hj j hjl
    have HN := Lib.hid hnews
    clear hnews hj
    obtain ⟨n, hn⟩ : ∃ n, L.length = n := ⟨_, rfl⟩
    rw [hn] at hL
    have hlen : (byteCells L).length = n * 1 := by rw [byteCells_length, hn, Nat.mul_one]
    have HL := Lib.hid hlen
    have HB1 := Lib.hid (bytes_one L)
    rw [hn]
    clear hn hlen hb hc
    have hn : (binOp .eql 22 (.slice (some ad) n cap) (.slice none 0 0)).run Try.prog w = .ok (.bool false) w := run_eql_slice_nil w _ _ (some ad) n cap 0 0 Try.underlying22
    go_enter Try.func38, Try.ntmps38
    go_wp2_with (at_builtin; (refine wpList_append_own _ rfl (.tmp 5) (.tmp 6) 22 rfl w.heap.size 5 i0 _ 1 1 Try.underlying22 hi hz0 hz1 hz2 rfl (by decide) _ 0 _ rfl (own_empty w 5) ad n _ (byteCells L) rfl HL.out HN.out HB1.out (by unfold maxLen; omega) (by omega) (by simp) ?_))
    intro v' w' hown hgrow _
    have hbl : Below w.heap.size w w' := ((Below.refl w.heap.size w).alloc (Nat.le_refl _) _).grown hgrow (by simp) (fun k e => by simp only [Value.ownBlock, Option.some.injEq] at e; omega)
    have HO := Lib.hid hown
    have HBL := Lib.hid hbl
    clear hown hgrow hbl
    go_wp2
    go_ret
    refine ⟨_, rfl, ?_, HBL.out⟩
    exact HO.out

set_option maxHeartbeats 400000 in
theorem bytes_any {w : World} {B g : Nat} {v : Value} {l : List Bool} (hw : WAt w B g v l) (hl : l.length ≤ 10000000) :
    Calls Try.prog 23 #[.pointer (some ⟨g, 0, none⟩)] w fun e w' => ∃ v', e = .returned v' ∧ w'.ownsRow w.heap.size 5 1 v' (pack l).length (byteCells (pack l)) ∧ Below w.heap.size w w' := by
  have c0 : w.cell? ⟨g, 0, none⟩ = some v := cell_of (i := 0) hw.2.1 rfl
  have hs := sees_own hw.2.2
  have hc := clone_any hs (by rw [pack_len]; omega)
  have HC := Lib.hid hc
  clear hw hs hc
  go_enter Try.func23, Try.ntmps23
  go_wp2_with (go_at_call 38; refine HC.out.mono ?_)
  rintro e w' ⟨v', rfl, hown, hb⟩
  have HO := Lib.hid hown
  have HB := Lib.hid hb
  clear hown hb
  go_wp2
  go_ret
  exact ⟨_, rfl, HO.out, HB.out⟩

theorem push_of {w : World} {B g : Nat} {v : Value} {l : List Bool} (hw : WAt w B g v l) (hB : B ≤ w.heap.size) (x n : Nat) (X N : Int) (hX : X = x) (hN : N = n) (hx : x < 18446744073709551616) (hn : n ≤ 64) (hl : l.length ≤ 1000000) :
    Calls Try.prog 47 #[.pointer (some ⟨g, 0, none⟩), .int .u64 X, .int .i64 N] w fun e w' => ∃ v', e = .returned (.tuple #[]) ∧ WAt w' B g v' (l ++ low x n) ∧ Stepped g v w v' w' := by
  subst hX hN
  exact push_any hw hB x n hx hn hl

set_option maxHeartbeats 400000 in
theorem gamma_any {w : World} {B g : Nat} {v : Value} {l : List Bool} (hw : WAt w B g v l) (hB : B ≤ w.heap.size) (x : Nat) (hx : x < 18446744073709551616) (h0 : x ≠ 0) (hl : l.length ≤ 900000) :
    Calls Try.prog 31 #[.pointer (some ⟨g, 0, none⟩), .int .u64 x] w fun e w' => ∃ v', e = .returned (.int .i64 0) ∧ WAt w' B g v' (l ++ gam x) ∧ Stepped g v w v' w' := by
  have hn := log_lt x hx
  have h64 := fun w => len64_log x hx h0 w
  have hg : l ++ low 0 (Nat.log2 x) ++ low x (Nat.log2 x + 1) = l ++ gam x := by rw [low_zero, List.append_assoc]; rfl
  obtain ⟨n, hn'⟩ : ∃ n, Nat.log2 x = n := ⟨_, rfl⟩
  rw [hn'] at hn h64 hg
  have HG := Lib.hid hg
  have H64 := Lib.hid h64
  have HW := Lib.hid hw
  have hx0 : ((x : Int) == 0) = false := by simp; omega
  clear hn' hg h64 hw
  go_enter Try.func31, Try.ntmps31
  go_wp2_with (go_at_call 46; refine (H64.out _).mono ?_; rintro e w' ⟨rfl, rfl⟩)
  refine (push_of HW.out hB 0 n _ _ rfl (by omega) (by omega) (by omega) (by omega)).mono ?_
  rintro e w2 ⟨v2, rfl, hw2, hs2⟩
  have HW2 := Lib.hid hw2
  have HS2 := Lib.hid hs2
  clear hw2 hs2
  go_wp2_with fail
  refine (push_of HW2.out (by have := HS2.out.size; omega) x (n + 1) _ _ rfl (by omega) hx (by omega) (by rw [List.length_append, low_len]; omega)).mono ?_
  rintro e w3 ⟨v3, rfl, hw3, hs3⟩
  have HW3 := Lib.hid hw3
  have HS3 := Lib.hid hs3
  clear hw3 hs3
  go_wp2_with fail
  go_ret
  refine ⟨v3, rfl, ?_, HS2.out.trans HS3.out⟩
  rw [← HG.out]
  exact HW3.out
set_option maxHeartbeats 400000 in
theorem gamma_zero (p : Value) (w : World) :
    Calls Try.prog 31 #[p, .int .u64 0] w fun e w' => e = .returned (.int .i64 1) ∧ w = w' := by
  go_enter Try.func31, Try.ntmps31
  go_wp2
  go_ret
  exact ⟨rfl, rfl⟩
theorem gamma_of {w : World} {B g : Nat} {v : Value} {l : List Bool} (hw : WAt w B g v l) (hB : B ≤ w.heap.size) (x : Nat) (X : Int) (hX : X = x) (hx : x < 18446744073709551616) (h0 : x ≠ 0) (hl : l.length ≤ 900000) :
    Calls Try.prog 31 #[.pointer (some ⟨g, 0, none⟩), .int .u64 X] w fun e w' => ∃ v', e = .returned (.int .i64 0) ∧ WAt w' B g v' (l ++ gam x) ∧ Stepped g v w v' w' := by
  subst hX
  exact gamma_any hw hB x hx h0 hl

set_option maxHeartbeats 400000 in
theorem delta_any {w : World} {B g : Nat} {v : Value} {l : List Bool} (hw : WAt w B g v l) (hB : B ≤ w.heap.size) (x : Nat) (hx : x < 18446744073709551616) (h0 : x ≠ 0) (hl : l.length ≤ 800000) :
    Calls Try.prog 32 #[.pointer (some ⟨g, 0, none⟩), .int .u64 x] w fun e w' => ∃ v', e = .returned (.int .i64 0) ∧ WAt w' B g v' (l ++ del x) ∧ Stepped g v w v' w' := by
  have hn := log_lt x hx
  have h64 := fun w => len64_log x hx h0 w
  have hg : l ++ gam (Nat.log2 x + 1) ++ low x (Nat.log2 x) = l ++ del x := by rw [List.append_assoc]; rfl
  have hn2 := log_lt (Nat.log2 x + 1) (by omega)
  have hgl := gam_len (Nat.log2 x + 1)
  obtain ⟨n, hn'⟩ : ∃ n, Nat.log2 x = n := ⟨_, rfl⟩
  rw [hn'] at hn h64 hg hgl hn2
  have HG := Lib.hid hg
  have H64 := Lib.hid h64
  have HW := Lib.hid hw
  have HGL := Lib.hid hgl
  have hx0 : ((x : Int) == 0) = false := by simp; omega
  clear hn' hg h64 hw hgl
  go_enter Try.func32, Try.ntmps32
  go_wp2_with (go_at_call 46; refine (H64.out _).mono ?_; rintro e w' ⟨rfl, rfl⟩)
  refine (gamma_of HW.out hB (n + 1) _ (by omega) (by omega) (by omega) (by omega)).mono ?_
  rintro e w2 ⟨v2, rfl, hw2, hs2⟩
  have HW2 := Lib.hid hw2
  have HS2 := Lib.hid hs2
  clear hw2 hs2
  go_wp2_with fail
  refine (push_of HW2.out (by have := HS2.out.size; omega) x n _ _ rfl (by omega) hx (by omega) (by rw [List.length_append, HGL.out]; omega)).mono ?_
  rintro e w3 ⟨v3, rfl, hw3, hs3⟩
  have HW3 := Lib.hid hw3
  have HS3 := Lib.hid hs3
  clear hw3 hs3
  go_wp2_with fail
  go_ret
  refine ⟨v3, rfl, ?_, HS2.out.trans HS3.out⟩
  rw [← HG.out]
  exact HW3.out
set_option maxHeartbeats 400000 in
theorem delta_zero (p : Value) (w : World) :
    Calls Try.prog 32 #[p, .int .u64 0] w fun e w' => e = .returned (.int .i64 1) ∧ w = w' := by
  go_enter Try.func32, Try.ntmps32
  go_wp2
  go_ret
  exact ⟨rfl, rfl⟩
end Go.Proofs.Ytpkikfdbndaekaa
