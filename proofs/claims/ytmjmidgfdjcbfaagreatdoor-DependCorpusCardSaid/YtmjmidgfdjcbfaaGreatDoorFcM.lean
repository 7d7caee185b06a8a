/-
  WALKS over package feature: strings.Cut at one byte, split.
-/
import Derived.Test.YtmjmidgfdjcbfaaGreatDoorFaM
import Derived.Test.YtmjmidgfdjcbfaaGreatDoorMkM
import Derived.Test.YtmjmidgfdjcbfaaGreatDoorShf
import Derived.RegionTactic
namespace Go.Proofs.YtmjmidgfdjcbfaaGreatDoor
open Go.RowKit Go.Shelf Go.Lib

theorem index_upto : ∀ (l : Bs) (c : UInt8), indexByte l c = if c ∈ l then ((upto c l).length : Int) else -1
  | [], c => by simp [indexByte]
  | x :: r, c => by
    unfold indexByte
    by_cases hx : x = c
    · subst hx; simp [upto]
    · have hm : c ∈ x :: r ↔ c ∈ r := by simp [Ne.symm hx]
      have hu : upto c (x :: r) = x :: upto c r := by simp [upto, hx]
      rw [index_upto r c, hu]
      by_cases hr : c ∈ r
      · rw [if_pos hr, if_pos (hm.2 hr)]
        simp [hx]
        try omega
      · rw [if_neg hr, if_neg (fun h => hr (hm.1 h))]
        simp [hx]
theorem results_three {fn : Func} {t u v : Tmp} (h : fn.results = #[.tmp t, .tmp u, .tmp v]) (tmps : Array Value) (P : Program) (w : World) :
    (results fn tmps).run P w = .ok (.tuple #[tmps.getD t undef, tmps.getD u undef, tmps.getD v undef]) w := by
  simp [results, h]
/-- What strings.Cut answers at one byte. -/
def cutV (c : UInt8) (l : Bs) : Value :=
  if c ∈ l then .tuple #[.string ⟨(upto c l).toArray⟩, .string ⟨(l.drop ((upto c l).length + 1)).toArray⟩, .bool true] else .tuple #[.string ⟨l.toArray⟩, .string ⟨#[]⟩, .bool false]

set_option maxHeartbeats 1000000 in
theorem sl_cut (s : ByteArray) (hs : s.size ≤ 100000000) (c : UInt8) (w : World) :
    Calls Tryz.prog 148 #[.string s, .string ⟨#[c]⟩] w fun e w' => e = .returned (cutV c s.data.toList) ∧ Below w.heap.size w w' := by
  have hi := Tryz.stringslite_Index_one s c w
  rw [index_upto] at hi
  have hul := upto_le c s.data.toList
  rw [← Lib.size_eq] at hul
  have hex : s.extract 0 (upto c s.data.toList).length = ⟨(upto c s.data.toList).toArray⟩ := by
    rw [Lib.extract_upto, ← upto_take]
  have hexf := Lib.extract_from s ((upto c s.data.toList).length + 1)
  unfold cutV
  by_cases hm : c ∈ s.data.toList
  · have hlt : (upto c s.data.toList).length + 1 ≤ s.size := by
      obtain ⟨h, _⟩ := List.getElem?_eq_some_iff.1 (upto_get c _ hm)
      rw [← Lib.size_eq] at h
      omega
    rw [if_pos hm] at hi ⊢
    obtain ⟨T, hT⟩ : ∃ T : ByteArray, (⟨(upto c s.data.toList).toArray⟩ : ByteArray) = T := ⟨_, rfl⟩
    obtain ⟨T2, hT2⟩ : ∃ T : ByteArray, (⟨(s.data.toList.drop ((upto c s.data.toList).length + 1)).toArray⟩ : ByteArray) = T := ⟨_, rfl⟩
    rw [hT] at hex ⊢
    rw [hT2] at hexf ⊢
    obtain ⟨k, hk⟩ : ∃ k, (upto c s.data.toList).length = k := ⟨_, rfl⟩
    rw [hk] at hi hex hexf hlt hul
    have HI := Lib.hid hi
    clear hi hm hT hT2 hk
    go_enter Tryz.func148, Tryz.ntmps148
    go_wp2_with fail
    refine HI.out.mono ?_
    rintro e w1 ⟨rfl, rfl⟩
    go_wp2_with fail
    have hmx : Tryz.prog.follows .mixedOrders = true := by kernel_rfl
    go_region
    go_wp2
    (try simp only [Exit.inBlock, Exit.then]); refine bodyPost_ret (results_three rfl _ _ _) rfl ?_
    exact ⟨rfl, (Below.refl _ _).drew⟩
  · rw [if_neg hm] at hi ⊢
    rw [Lib.mk_data]
    have HI := Lib.hid hi
    clear hi hm hex hul
    go_enter Tryz.func148, Tryz.ntmps148
    go_wp2_with fail
    refine HI.out.mono ?_
    rintro e w1 ⟨rfl, rfl⟩
    go_wp2_with fail
    (try simp only [Exit.inBlock, Exit.then]); refine bodyPost_ret (results_three rfl _ _ _) rfl ?_
    exact ⟨rfl, Below.refl _ _⟩
set_option maxHeartbeats 1000000 in
theorem cut_any (s : ByteArray) (hs : s.size ≤ 100000000) (c : UInt8) (w : World) :
    Calls Tryz.prog 132 #[.string s, .string ⟨#[c]⟩] w fun e w' => e = .returned (cutV c s.data.toList) ∧ Below w.heap.size w w' := by
  have HC := Lib.hid (sl_cut s hs c w)
  obtain ⟨T1, T2, b, hV⟩ : ∃ (T1 T2 : ByteArray) (b : Bool), cutV c s.data.toList = .tuple #[.string T1, .string T2, .bool b] := by
    unfold cutV
    split
    · exact ⟨_, _, _, rfl⟩
    · exact ⟨_, _, _, rfl⟩
  rw [hV] at HC ⊢
  clear hV
  go_enter Tryz.func132, Tryz.ntmps132
  go_wp2_with fail
  refine HC.out.mono ?_
  rintro e w1 ⟨rfl, hb1⟩
  go_wp2_with fail
  (try simp only [Exit.inBlock, Exit.then]); refine bodyPost_ret (results_three rfl _ _ _) rfl ?_
  exact ⟨rfl, hb1⟩
theorem upto_cut (l : Bs) : (124 : UInt8) ∈ l → l = upto 124 l ++ 124 :: l.drop ((upto 124 l).length + 1) ∧ (124 : UInt8) ∉ upto 124 l := by
  intro h
  refine ⟨?_, fun hm => ?_⟩
  · have h1 := List.take_append_drop (upto 124 l).length l
    rw [← upto_take] at h1
    obtain ⟨hk, hg⟩ := List.getElem?_eq_some_iff.1 (upto_get 124 l h)
    rw [List.drop_eq_getElem_cons hk, hg] at h1
    exact h1.symm
  · unfold upto at hm
    have := List.all_takeWhile (p := fun x : UInt8 => x != 124) (l := l)
    rw [List.all_eq_true] at this
    have := this 124 hm
    simp at this
/-- A string's length. -/
def strN : Value → Nat
  | .string b => b.size
  | _ => 0
/-- Between two rounds of split. -/
def SplI (w : World) (o : Option Fs) (fv rv : Value) (wr : World) : Prop :=
  ∃ (l : Fs) (rest : Bs), rv = .string ⟨rest.toArray⟩ ∧ wr.ownsRow w.heap.size 9 1 fv l.length (strs l) ∧ o = (goF [] rest).map (l ++ ·) ∧ l.length + rest.length ≤ 120 ∧ Below w.heap.size w wr
/-- What split answers. -/
def SplV (w : World) (o : Option Fs) (e : Ending) (w' : World) : Prop :=
  (match o with | none => e = .returned (.tuple #[.slice none 0 0, .bool false]) | some l => ∃ v, e = .returned (.tuple #[v, .bool true]) ∧ w'.ownsRow w.heap.size 9 1 v l.length (strs l)) ∧ Below w.heap.size w w'

set_option maxRecDepth 100000 in
set_option maxHeartbeats 2000000 in
theorem split_any (s : ByteArray) (hs : s.size ≤ 120) (w : World) :
    Calls Tryz.prog 109 #[.string s] w (SplV w (featsO s.data.toList)) := by
  have hp := Tryz.strings_CutPrefix s ⟨#[124]⟩
  obtain ⟨o, ho⟩ : ∃ o, featsO s.data.toList = o := ⟨_, rfl⟩
  rw [ho]
  by_cases hb : ∃ r, s.data.toList = 124 :: r
  · obtain ⟨r, hr⟩ := hb
    have e1 : hasPrefix s.data.toList (⟨#[124]⟩ : ByteArray).data.toList = true := by rw [hr]; rfl
    have e2 : trimPrefix s.data.toList (⟨#[124]⟩ : ByteArray).data.toList = r := by rw [hr]; rfl
    rw [e1, e2] at hp
    have hrl : r.length ≤ 120 := by
      have := congrArg List.length hr
      rw [← Lib.size_eq] at this
      simp at this
      omega
    have ho2 : o = (goF [] r).map (([] : Fs) ++ ·) := by
      rw [← ho, hr, featsO, if_pos rfl]
      cases goF [] r <;> rfl
    have HST : Hid (SplI w o (.slice none 0 0) (.string ⟨r.toArray⟩) w) := Lib.hid ⟨[], r, rfl, World.ownsRow_nil _ _ _ _, ho2, by simpa using hrl, Below.refl _ _⟩
    obtain ⟨R, hR⟩ : ∃ R : ByteArray, (⟨r.toArray⟩ : ByteArray) = R := ⟨_, rfl⟩
    rw [hR] at hp HST
    have HP := Lib.hid hp
    clear hp e1 e2 hr ho ho2 hR hrl
    go_enter Tryz.func109, Tryz.ntmps109
    go_wp2_with fail
    refine (HP.out _).mono ?_
    rintro e w1 ⟨rfl, rfl⟩
    obtain ⟨w, rfl⟩ : ∃ x, x = w1 := ⟨_, rfl⟩
    go_wp2_with fail
    go_loopw [4, 6] (fun rv fv wr => SplI w o fv rv wr) (fun rv _ _ => strN rv)
    case atStart => exact HST.out
    case round =>
      obtain ⟨l, rest, rfl, hown, hgo, hlen, hb⟩ := hrel
      have HO := Lib.hid hown
      have HG := Lib.hid hgo
      have HB := Lib.hid hb
      clear hown hgo hb
      by_cases hr0 : rest = []
      · subst hr0
        go_wp2_with fail
        go_ret2
        have hg := HG.out
        rw [goF, if_pos rfl] at hg
        rw [hg]
        refine ⟨⟨_, rfl, ?_⟩, HB.out⟩
        simp only [List.append_nil]
        exact HO.out
      · obtain ⟨R, hR⟩ : ∃ R : ByteArray, (⟨rest.toArray⟩ : ByteArray) = R := ⟨_, rfl⟩
        have hRl : R.data.toList = rest := by rw [← hR]
        have hRs : R.size = rest.length := by rw [Lib.size_eq, hRl]
        have hcut := cut_any R (by omega) 124
        have hne : R.toList.isEmpty = false := by
          rw [Lib.toList_data, hRl]
          cases rest with
          | nil => exact absurd rfl hr0
          | cons a b => rfl
        unfold cutV at hcut
        rw [hRl] at hcut
        rw [hR]
        by_cases hm : (124 : UInt8) ∈ rest
        · obtain ⟨h1, h2⟩ := upto_cut rest hm
          rw [if_pos hm] at hcut
          obtain ⟨f, hf⟩ : ∃ f, upto 124 rest = f := ⟨_, rfl⟩
          rw [hf] at hcut h1 h2
          obtain ⟨q, hq⟩ : ∃ q, rest.drop (f.length + 1) = q := ⟨_, rfl⟩
          rw [hq] at hcut h1
          obtain ⟨F, hF⟩ : ∃ F : ByteArray, (⟨f.toArray⟩ : ByteArray) = F := ⟨_, rfl⟩
          have hFl : F.data.toList = f := by rw [← hF]
          have hgf := HG.out
          rw [h1, goF_cut f q h2] at hgf
          have hlq := congrArg List.length h1
          rw [List.length_append, List.length_cons] at hlq
          rw [hF] at hcut
          have HC := Lib.hid hcut
          by_cases hf0 : f = []
          · rw [if_pos hf0] at hgf
            have hFe : F.toList.isEmpty = true := by rw [Lib.toList_data, hFl, hf0]; rfl
            have HGF := Lib.hid hgf
            clear hcut hgf hR hRl hRs hm h1 h2 hf hq hF hFl hlq hf0 hr0 HG HST HP
            go_wp2_with fail
            refine (HC.out _).mono ?_
            rintro e w2 ⟨rfl, hb2⟩
            have HB2 := Lib.hid hb2
            clear hb2
            go_wp2_with fail
            go_ret2
            refine ⟨?_, HB.out.trans (HB2.out.mono HB.out.size)⟩
            rw [HGF.out]
            rfl
          · rw [if_neg hf0] at hgf
            have hFe : F.toList.isEmpty = false := by
              rw [Lib.toList_data, hFl]
              cases f with
              | nil => exact absurd rfl hf0
              | cons a b => rfl
            have HGF := Lib.hid hgf
            have HFL := Lib.hid hFl
            have hll : l.length + 1 + q.length ≤ 120 := by omega
            have hql : q.length < R.size := by omega
            have HLL := Lib.hid hll
            have HQL := Lib.hid hql
            clear hcut hgf hR hRl hRs hm h1 h2 hf hq hF hFl hlq hf0 hr0 HG HST HP hlen hll hql
            go_wp2_with fail
            refine (HC.out _).mono ?_
            rintro e w2 ⟨rfl, hb2⟩
            have HO2 := Lib.hid (own_after HO.out hb2)
            have HB2 := Lib.hid (HB.out.trans (hb2.mono HB.out.size))
            clear hb2
            go_wp2_with (at_builtin; refine wpList_push rfl (.tmp 31) (.tmp 33) rfl w.heap.size _ l.length l F rfl rfl HO2.out (by have := HLL.out; omega) HB2.out.size ?_)
            intro v' w3 h1 h2 _
            go_wp2_with fail
            go_roundw
            case rel =>
              refine ⟨l ++ [f], q, rfl, ?_, ?_, ?_, h2.out _ _ HB2.out (Nat.le_refl _)⟩
              · rw [List.length_append, List.length_singleton, ← HFL.out]
                exact h1.out
              · rw [HGF.out]
                cases goF [] q with
                | none => rfl
                | some m => simp
              · rw [List.length_append, List.length_singleton]
                exact HLL.out
            case measure =>
              have := HQL.out
              simp only [strN]
              rw [Lib.size_eq]
              simpa using this
        · rw [if_neg hm] at hcut
          have hgf := HG.out
          rw [goF_open rest hm hr0] at hgf
          rw [hR] at hcut
          have HC := Lib.hid hcut
          have HGF := Lib.hid hgf
          clear hcut hgf hR hRl hRs hm hr0 HG HST HP
          go_wp2_with fail
          refine (HC.out _).mono ?_
          rintro e w2 ⟨rfl, hb2⟩
          have HB2 := Lib.hid hb2
          clear hb2
          go_wp2_with fail
          go_ret2
          refine ⟨?_, HB.out.trans (HB2.out.mono HB.out.size)⟩
          rw [HGF.out]
          rfl
  · have e1 : hasPrefix s.data.toList (⟨#[124]⟩ : ByteArray).data.toList = false := by
      cases hl : s.data.toList with
      | nil => rfl
      | cons a r =>
        have : a ≠ 124 := fun e => hb ⟨r, by rw [hl, e]⟩
        simp [hasPrefix, List.isPrefixOf, Ne.symm this]
    rw [e1] at hp
    obtain ⟨T, hT⟩ : ∃ T : ByteArray, (⟨(trimPrefix s.data.toList (⟨#[124]⟩ : ByteArray).data.toList).toArray⟩ : ByteArray) = T := ⟨_, rfl⟩
    rw [hT] at hp
    have ho2 : o = none := by
      rw [← ho]
      cases hl : s.data.toList with
      | nil => rfl
      | cons a r => rw [featsO, if_neg (fun e => hb ⟨r, by rw [hl, e]⟩)]
    subst ho2
    have HP := Lib.hid hp
    clear hp e1 ho hT hb
    go_enter Tryz.func109, Tryz.ntmps109
    go_wp2_with fail
    refine (HP.out _).mono ?_
    rintro e w1 ⟨rfl, rfl⟩
    go_wp2_with fail
    go_ret2
    exact ⟨rfl, Below.refl _ _⟩
end Go.Proofs.YtmjmidgfdjcbfaaGreatDoor
