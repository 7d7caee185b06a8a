/-
  WALKS over package stab: visit hands over the nodes that end behind a token.
-/
import Derived.Test.YtifdencdbpdbfaaDoorYaV
import Derived.RangeFuncNested
import Derived.RangeFuncBound
import Derived.RangeFuncCalls
import Derived.RangeFuncLeaves
import Derived.OwnWalkIn
import Derived.TacticsInMore
import Derived.LoopNIn
import Derived.LoopIn
namespace Go.Proofs.YtifdencdbpdbfaaDoor
open Go Go.RowKit Go.Shelf Go.Lib
set_option linter.unusedVariables false
set_option linter.unusedSimpArgs false

theorem round_wide {n m : Nat} {P : Program} {l : Nat} {f : FuncId} {tmps : Array Value} {assign body : Code} {w : World} {R : Ending → World → Prop} (h : RoundIn Fence.wide n P l f tmps assign body w R) : RoundIn Fence.wide m P l f tmps assign body w R :=
  ⟨h.1, fun c cs _ => h.2 c cs (room_wide _)⟩
def ndA (x : Nd) : Array Value := #[.agg #[.int .i64 x.1.1, .int .i64 x.1.2, .int .i64 x.2.1, .int .i64 x.2.2]]
def VisV (J Jx : List Nd → World → Prop) (pre ys : List Nd) (n0 : Nat) (W : World) (e : Ending) (W' : World) : Prop :=
  (e = .returned (.bool true) ∧ J (pre ++ ys) W' ∧ Below n0 W W') ∨ (e = .returned (.bool false) ∧ ∃ pre', pre' <+: pre ++ ys ∧ Jx pre' W')
def YldV (J Jx : List Nd → World → Prop) (pre : List Nd) (x : Nd) (n0 : Nat) (W : World) (e : Ending) (W' : World) : Prop :=
  (e = .returned (.bool true) ∧ J (pre ++ [x]) W' ∧ Below n0 W W') ∨ (e = .returned (.bool false) ∧ Jx (pre ++ [x]) W')
theorem vis_nil {J Jx : List Nd → World → Prop} {pre : List Nd} {n0 : Nat} {W W' : World} (h : J pre W') (hb : Below n0 W W') : VisV J Jx pre [] n0 W (.returned (.bool true)) W' := .inl ⟨rfl, by rw [List.append_nil]; exact h, hb⟩

set_option maxRecDepth 100000 in
set_option maxHeartbeats 4000000 in
theorem visit_any {g n0 N l m0 : Nat} {L : List Nd} {tok : Int} {J Jx : List Nd → World → Prop} (hg : g < n0) (hmax : L.length ≤ 1000000) (hJd : ∀ pre W q, J pre W → J pre (W.drewN q))
    (hY : ∀ pre x W1, J pre W1 → pre.length < N → YieldAt Fence.wide m0 Tryd.prog l (ndA x) W1 (YldV J Jx pre x n0 W1)) :
    ∀ (k lo hi : Nat) (v : Value) (pre : List Nd) (W : World), hi - lo ≤ k → lo ≤ hi → hi ≤ L.length → Msr L k lo hi → Seg g lo hi v → NdAt W g L → pre.length + (hi - lo) ≤ N → J pre W →
    Calls Tryd.prog 54 #[v, .int .i64 tok, .func (.yield l) #[] #[]] W (VisV J Jx pre (segF L tok lo hi) n0 W) := by
  intro k
  induction k with
  | zero =>
    intro lo hi v pre W hk hlh hhi hm hv hN hlen hJ
    obtain ⟨A, cap, rfl, hc, -⟩ := hv
    obtain rfl : lo = hi := by omega
    rw [segF_nil]
    rw [Nat.sub_self] at hc ⊢
    have HE := Lib.hid (vis_nil (Jx := Jx) hJ (Below.refl n0 W))
    clear hN hk hlh hhi hm hc hJ hlen hY hJd
    go_enter Tryd.func54, Tryd.ntmps54
    go_wp2_with fail
    go_ret
    exact HE.out
  | succ k ih =>
    intro lo hi v pre W hk hlh hhi hm hv hN hlen hJ
    rcases Nat.eq_or_lt_of_le hlh with he | hlt
    · subst he
      obtain ⟨A, cap, rfl, hc, -⟩ := hv
      rw [segF_nil]
      rw [Nat.sub_self] at hc ⊢
      have HE := Lib.hid (vis_nil (Jx := Jx) hJ (Below.refl n0 W))
      clear hN hk hlh hhi hm hc hJ hlen hY hJd ih
      go_enter Tryd.func54, Tryd.ntmps54
      go_wp2_with fail
      go_ret
      exact HE.out
    · obtain ⟨x, hx, hmx, hm1, hm2⟩ := hm hlt
      have HP := Lib.hid (parts_any hv hlt (by omega) W)
      obtain ⟨A, cap, rfl, hc, -⟩ := hv
      obtain ⟨r, hr⟩ : ∃ r, lo + (hi - lo) / 2 = r := ⟨_, rfl⟩
      unfold PartsV at HP
      rw [hr] at HP hx hm1 hm2
      obtain ⟨n, hn⟩ : ∃ n, hi - lo = n := ⟨_, rfl⟩
      have hnp : 0 < n := by omega
      have hnz : ((n : Int) == 0) = false := by simp; omega
      have HS := Lib.hid (segF_split (tok := tok) (show lo ≤ r by omega) (show r < hi by omega) hx)
      have HCUT : Hid (x.2.2 ≤ tok → segF L tok lo hi = []) := Lib.hid (fun h => segF_cut fun j y a b c => Int.le_trans (hmx j y a b c) h)
      have hl1 := segF_len L tok lo r (by omega)
      have HI1 := Lib.hid (fun (W : World) (v1 : Value) (h1 : Seg g lo r v1) (h : NdAt W g L) (hJ : J pre W) => ih lo r v1 pre W (by omega) (by omega) (by omega) hm1 h1 h (by omega) hJ)
      have HI2 := Lib.hid (fun (W : World) (v2 : Value) (pre2 : List Nd) (h2 : Seg g (r + 1) hi v2) (h : NdAt W g L) (hl : pre2.length ≤ pre.length + (r - lo) + 1) (hJ : J pre2 W) => ih (r + 1) hi v2 pre2 W (by omega) (by omega) (by omega) hm2 h2 h (by omega) hJ)
      have HY := Lib.hid (fun (pre2 : List Nd) W1 (h : J pre2 W1) (hl : pre2.length ≤ pre.length + (r - lo)) => hY pre2 x W1 h (by omega))
      have HN := Lib.hid hN
      have HX := Lib.hid hx
      have HJ := Lib.hid hJ
      have HL1 := Lib.hid hl1
      rw [hn] at hc HP ⊢
      clear hN hk hlh hhi ih hr hx hn hlt hm hmx hm1 hm2 hl1 hlen hJ hY
      refine (callsIn_wide (n := 5)).1 ?_
      refine callsIn_of_wp Tryd.func54 rfl trivial ?_ rfl
      simp only [Tryd.ntmps54, List.size_toArray, List.length_cons, List.length_nil, Nat.reduceAdd, Nat.reduceSub, Array.replicate_succ, Array.replicate_zero, List.push_toArray, List.append_toArray, List.nil_append, List.cons_append]
      gi_wp2
      refine ⟨trivial, (callsIn_wide.2 HP.out).mono ?_⟩
      rintro e w1 ⟨v1, v2, rfl, hs1, hs2, q, rfl⟩
      have hJ1 := hJd _ _ q HJ.out
      have hb1 := below_drewN (Below.refl n0 W) q
      obtain ⟨w1, hw1⟩ : ∃ X, W.drewN q = X := ⟨_, rfl⟩
      rw [hw1] at hJ1 hb1 ⊢
      have hN1 := HN.out.below hb1 hg
      have HB1 := Lib.hid hb1
      have HJ1 := Lib.hid hJ1
      have HN1 := Lib.hid hN1
      have HC1 := Lib.hid (HI1.out w1 v1 hs1 hN1 hJ1)
      have HC2 := Lib.hid (fun W pre2 h hl hJ => HI2.out W v2 pre2 hs2 h hl hJ)
      have c3 := (hN1.cell HX.out).2.2.2
      obtain ⟨A1, cp1, rfl, -, -⟩ := hs1
      obtain ⟨A2, cp2, rfl, -, -⟩ := hs2
      obtain ⟨⟨xb, xe⟩, xn, xr⟩ := x
      simp only at c3
      clear hw1 hJ1 hb1 hN1 HI1 HI2 HP
      by_cases hxr : xr ≤ tok
      · have HE : Hid (VisV J Jx pre (segF L tok lo hi) n0 W (.returned (.bool true)) w1) := Lib.hid (by rw [HCUT.out hxr]; exact vis_nil HJ1.out HB1.out)
        clear HC1 HC2
        gi_wp2
        go_ret
        exact HE.out
      · clear HCUT
        gi_wp2
        refine ⟨trivial, (callsIn_wide.2 HC1.out).mono ?_⟩
        rintro e w2 (⟨rfl, hJ2, hb2⟩ | ⟨rfl, pre', hp', hJx⟩)
        · have hN2 := HN1.out.below hb2 hg
          have HB2 := Lib.hid (HB1.out.trans hb2)
          obtain ⟨c0, c1, c2, c4⟩ := hN2.cell HX.out
          simp only at c0 c1 c2 c4
          have HN2 := Lib.hid hN2
          have HJ2 := Lib.hid hJ2
          clear hJ2 hb2 hN2 c3
          by_cases hend : xe ≤ tok
          · have HS2 : Hid (segF L tok lo hi = segF L tok lo r ++ segF L tok (r + 1) hi) := Lib.hid (by rw [HS.out, if_neg (by show ¬ tok < xe; omega), List.append_nil])
            have HC3 := Lib.hid (HC2.out w2 (pre ++ segF L tok lo r) HN2.out (by rw [List.length_append]; have := HL1.out; omega) HJ2.out)
            clear HC1 HC2
            gi_wp2
            refine ⟨fun _ h => (by cases h), ?_⟩
            gi_wp2
            refine ⟨trivial, (callsIn_wide.2 HC3.out).mono ?_⟩
            rintro e w3 (⟨rfl, hJ3, hb3⟩ | ⟨rfl, pre', hp', hJx⟩)
            · have HE : Hid (VisV J Jx pre (segF L tok lo hi) n0 W (.returned (.bool true)) w3) := Lib.hid (.inl ⟨rfl, by rw [HS2.out, ← List.append_assoc]; exact hJ3, HB2.out.trans hb3⟩)
              clear hJ3 hb3
              gi_wp2
              go_ret
              exact HE.out
            · have HE : Hid (VisV J Jx pre (segF L tok lo hi) n0 W (.returned (.bool false)) w3) := Lib.hid (.inr ⟨rfl, pre', by rw [HS2.out, ← List.append_assoc]; exact hp', hJx⟩)
              clear hp' hJx
              gi_wp2
              go_ret
              exact HE.out
          · have HS2 : Hid (segF L tok lo hi = segF L tok lo r ++ [((xb, xe), xn, xr)] ++ segF L tok (r + 1) hi) := Lib.hid (by rw [HS.out, if_pos (by show tok < xe; omega)])
            have hy2 := HY.out (pre ++ segF L tok lo r) w2 HJ2.out (by rw [List.length_append]; have := HL1.out; omega)
            obtain ⟨fn, tmps, assign, body, hy, hR⟩ := hy2
            unfold ndA at hy
            simp only at hy
            have HR := Lib.hid (round_wide (m := 4) hR)
            clear hR HC1
            gi_wp2
            refine HR.out.mono ?_
            rintro e w3 (⟨rfl, hJ3, hb3⟩ | ⟨rfl, hJx⟩)
            · have hN3 := HN2.out.below hb3 hg
              have HB3 := Lib.hid (HB2.out.trans hb3)
              have HC3 := Lib.hid (HC2.out w3 (pre ++ segF L tok lo r ++ [((xb, xe), xn, xr)]) hN3 (by rw [List.length_append, List.length_append]; have := HL1.out; simp; omega) hJ3)
              clear hJ3 hb3 hN3 hy HR HC2 c0 c1 c2 c4
              gi_wp2
              refine ⟨trivial, (callsIn_wide.2 HC3.out).mono ?_⟩
              rintro e w4 (⟨rfl, hJ4, hb4⟩ | ⟨rfl, pre', hp', hJx⟩)
              · have HE : Hid (VisV J Jx pre (segF L tok lo hi) n0 W (.returned (.bool true)) w4) := Lib.hid (.inl ⟨rfl, by rw [HS2.out, ← List.append_assoc, ← List.append_assoc]; exact hJ4, HB3.out.trans hb4⟩)
                clear hJ4 hb4
                gi_wp2
                go_ret
                exact HE.out
              · have HE : Hid (VisV J Jx pre (segF L tok lo hi) n0 W (.returned (.bool false)) w4) := Lib.hid (.inr ⟨rfl, pre', by rw [HS2.out, ← List.append_assoc, ← List.append_assoc]; exact hp', hJx⟩)
                clear hp' hJx
                gi_wp2
                go_ret
                exact HE.out
            · have HE : Hid (VisV J Jx pre (segF L tok lo hi) n0 W (.returned (.bool false)) w3) := Lib.hid (.inr ⟨rfl, _, by rw [HS2.out, ← List.append_assoc, ← List.append_assoc]; exact List.prefix_append _ _, hJx⟩)
              clear hJx hy HR HC2
              gi_wp2
              refine ⟨trivial, ?_⟩
              gi_wp2
              go_ret
              exact HE.out
        · have HE : Hid (VisV J Jx pre (segF L tok lo hi) n0 W (.returned (.bool false)) w2) := Lib.hid (.inr ⟨rfl, pre', by rw [HS.out, ← List.append_assoc, ← List.append_assoc]; exact hp'.trans ((List.prefix_append _ _).trans (List.prefix_append _ _)), hJx⟩)
          clear hJx hp' HC1 HC2
          gi_wp2
          all_goals first
            | (have hh := ‹some undef = some (Value.bool _)›; cases hh; done)
            | skip
          refine ⟨fun _ h => (by cases h), ?_⟩
          gi_wp2
          refine ⟨trivial, ?_⟩
          gi_wp2
          go_ret
          exact HE.out
end Go.Proofs.YtifdencdbpdbfaaDoor
