/-
  WALKS over the library: slices.Clone at pairs, attributes, strings.
-/
import Derived.Test.YtglafkonpbcegaaGreatQeA
import Derived.Test.YtglafkonpbcegaaGreatShf
namespace Go.Proofs.YtglafkonpbcegaaGreat
open Go.RowKit Go.Shelf Go.Lib

theorem own_emptyS (w : World) (t : TypeId) (sz : Nat) : (w.alloc (.cells #[] t)).ownsRow w.heap.size t sz (.slice (some ⟨w.heap.size, 0, none⟩) 0 0) 0 [] :=
  ⟨by simp, .inr ⟨w.heap.size, 0, #[], rfl, Nat.le_refl _, block_new w _, Nat.le_refl _, by unfold maxLen; omega, by simp, by simp⟩⟩
/-- The cells of a row of flat elements, one by one. -/
theorem flatE_get {β : Type} {sz : Nat} {enc : β → List Value} (he : ∀ x, (enc x).length = sz) (hsz : 0 < sz) {w : World} {b off : Nat} {xs : List β}
    (hj : ∀ (j : Nat) (x : β), xs[j]? = some x → ∃ cs : List Value, cs.length = sz ∧ cs = enc x ∧ ∀ (i : Nat) (u : Value), cs[i]? = some u → w.cell? ⟨b, off + j * sz + i, none⟩ = some u) :
    ∀ (j : Nat) (u : Value), (xs.flatMap enc)[j]? = some u → w.cell? ⟨b, off + j, none⟩ = some u := by
  intro j u hu
  have hjl : j < xs.length * sz := by rw [← flatM_len he]; exact (List.getElem?_eq_some_iff.1 hu).1
  have hq : j / sz < xs.length := Nat.div_lt_of_lt_mul (by rw [Nat.mul_comm]; exact hjl)
  have hm : j % sz < sz := Nat.mod_lt _ hsz
  have e : j / sz * sz + j % sz = j := by rw [Nat.mul_comm]; exact Nat.div_add_mod j sz
  have hx : xs[j / sz]? = some (xs[j / sz]'hq) := List.getElem?_eq_getElem hq
  obtain ⟨cs, -, rfl, h3⟩ := hj _ _ hx
  have h4 := flatM_get he xs (j / sz) _ (j % sz) hx hm
  rw [e, hu] at h4
  have h5 := h3 (j % sz) u h4.symm
  rw [Nat.add_assoc, e] at h5
  exact h5
/-- What Clone answers. -/
def ClV {β : Type} (T : TypeId) (sz : Nat) (E : World → List Value → β → Prop) (w : World) (ys : List β) (e : Ending) (w' : World) : Prop :=
  ∃ (A : Option Addr) (c : Nat), e = .returned (.slice A ys.length c) ∧ OwnF w.heap.size T sz E w' (.slice A ys.length c) ys ∧ Below w.heap.size w w'
def encS (s : Bs) : List Value := [.string ⟨s.toArray⟩]
def encA (a : Bs × Bool) : List Value := [.string ⟨a.1.toArray⟩, .bool a.2]
def encQ (p : Bs × Bs) : List Value := [.string ⟨p.1.toArray⟩, .string ⟨p.2.toArray⟩]

theorem Tryz.infoC_pair : (Tryz.prog.info? 79).map (fun i => (i.zero, i.size, i.bytes)) = some (some (.agg #[.string ⟨#[]⟩, .string ⟨#[]⟩]), 2, 32) := by kernel_rfl
set_option maxRecDepth 100000 in
set_option maxHeartbeats 1000000 in
theorem clone_pair {w : World} {v : Value} {xs : List (Bs × Bs)} (hv : Rows 2 EPair w v xs) (hl : xs.length ≤ 100000) :
    Calls Tryz.prog 51 #[v] w (ClV 79 2 EPair w xs) := by
  obtain ⟨A, cap, rfl, hc⟩ := hv.form
  have he : ∀ x : Bs × Bs, (encQ x).length = 2 := fun _ => rfl
  have hE : ∀ (w : World) (x : Bs × Bs), EPair w (encQ x) x := fun _ _ => rfl
  unfold ClV
  cases A with
  | none =>
    have h0 : xs = [] := by
      by_cases h : 0 < xs.length
      · obtain ⟨b, off, hA, _⟩ := hv.at' h
        cases hA
      · exact List.length_eq_zero_iff.1 (by omega)
    subst h0
    refine (AnyE.slices_Clone_nil Tryz.laysClone 0 cap w).mono ?_
    rintro e w' ⟨rfl, rfl⟩
    exact ⟨none, 0, rfl, own_enc he hE (World.ownsRow_nil _ _ _ _), Below.refl _ _⟩
  | some ad =>
    obtain ⟨i0, hi, hz0, hz1, hz2⟩ := info_parts' Tryz.infoC_pair
    have hnews : ∀ (j : Nat) (u : Value), (xs.flatMap encQ)[j]? = some u → (w.alloc (.cells #[] 79)).cell? (ad.add j) = some u := by
      intro j u hu
      have h0 : 0 < xs.length := by
        have := (List.getElem?_eq_some_iff.1 hu).1
        rw [flatM_len he] at this
        omega
      obtain ⟨b, off, hA, hb, hj⟩ := hv.at' h0
      cases hA
      rw [add_plain]
      have := flatE_get he (by decide) hj j u hu
      exact (((Below.refl w.heap.size w).alloc (Nat.le_refl _) (.cells #[] 79)).cell (p := ⟨b, off + j, none⟩) hb).trans this
    have hlen := flatM_len he xs
    have h1 : ∀ u ∈ xs.flatMap encQ, u.oneCell' = true := by
      intro u hu
      obtain ⟨p, _, hp⟩ := List.mem_flatMap.1 hu
      simp [encQ] at hp
      first | (subst hp; rfl) | (rcases hp with rfl | rfl <;> rfl)
    have hback := fun (w' : World) (v' : Value) (h : w'.ownsRow w.heap.size 79 2 v' xs.length (xs.flatMap encQ)) => own_enc (E := EPair) he hE h
    have HBK := Lib.hid hback
    obtain ⟨n, hn⟩ : ∃ n, xs.length = n := ⟨_, rfl⟩
    rw [hn] at hlen hl hc HBK ⊢
    obtain ⟨F, hF⟩ : ∃ F, xs.flatMap encQ = F := ⟨_, rfl⟩
    rw [hF] at hlen hnews h1 HBK
    have HN := Lib.hid (And.intro hnews (And.intro h1 hlen))
    clear hn hF hnews h1 hlen hc hv hback he hE
    have hnn : (binOp BinOp.eql 37 (Value.slice (some ad) n cap) (Value.slice none 0 0)).run Tryz.prog w = .ok (.bool false) w := by kernel_rfl
    go_enter Tryz.func51, Tryz.ntmps51
    go_wp2_with (at_builtin; (refine wpList_append_own _ rfl (.tmp 5) (.tmp 6) 37 rfl w.heap.size 79 i0 _ 2 32 Tryz.underlying37 hi hz0 hz1 hz2 rfl (by decide) _ 0 _ rfl (own_emptyS w 79 2) ad n cap _ rfl HN.out.2.2 HN.out.1 HN.out.2.1 (by unfold maxLen; omega) (by omega) (by simp) ?_))
    intro v' w' hown hg _
    try simp only [Nat.zero_add, List.nil_append] at hown
    obtain ⟨A', c', rfl, -⟩ := own_form hown
    have HO := Lib.hid (And.intro hown hg)
    clear hown hg
    go_wp2_with fail
    go_ret
    exact ⟨_, _, rfl, HBK.out _ _ HO.out.1, ((Below.refl _ w).alloc (Nat.le_refl _) _).grown HO.out.2 (by simp) (fun k e => by simp [Value.ownBlock] at e; omega)⟩

theorem Tryz.infoC_attr : (Tryz.prog.info? 71).map (fun i => (i.zero, i.size, i.bytes)) = some (some (.agg #[.string ⟨#[]⟩, .bool false]), 2, 24) := by kernel_rfl
set_option maxRecDepth 100000 in
set_option maxHeartbeats 1000000 in
theorem clone_attr {w : World} {v : Value} {xs : List (Bs × Bool)} (hv : Rows 2 EAttr w v xs) (hl : xs.length ≤ 100000) :
    Calls Tryz.prog 98 #[v] w (ClV 71 2 EAttr w xs) := by
  obtain ⟨A, cap, rfl, hc⟩ := hv.form
  have he : ∀ x : Bs × Bool, (encA x).length = 2 := fun _ => rfl
  have hE : ∀ (w : World) (x : Bs × Bool), EAttr w (encA x) x := fun _ _ => rfl
  unfold ClV
  cases A with
  | none =>
    have h0 : xs = [] := by
      by_cases h : 0 < xs.length
      · obtain ⟨b, off, hA, _⟩ := hv.at' h
        cases hA
      · exact List.length_eq_zero_iff.1 (by omega)
    subst h0
    refine (AnyE.slices_Clone_nil Tryz.laysCloneAttr 0 cap w).mono ?_
    rintro e w' ⟨rfl, rfl⟩
    exact ⟨none, 0, rfl, own_enc he hE (World.ownsRow_nil _ _ _ _), Below.refl _ _⟩
  | some ad =>
    obtain ⟨i0, hi, hz0, hz1, hz2⟩ := info_parts' Tryz.infoC_attr
    have hnews : ∀ (j : Nat) (u : Value), (xs.flatMap encA)[j]? = some u → (w.alloc (.cells #[] 71)).cell? (ad.add j) = some u := by
      intro j u hu
      have h0 : 0 < xs.length := by
        have := (List.getElem?_eq_some_iff.1 hu).1
        rw [flatM_len he] at this
        omega
      obtain ⟨b, off, hA, hb, hj⟩ := hv.at' h0
      cases hA
      rw [add_plain]
      have := flatE_get he (by decide) hj j u hu
      exact (((Below.refl w.heap.size w).alloc (Nat.le_refl _) (.cells #[] 71)).cell (p := ⟨b, off + j, none⟩) hb).trans this
    have hlen := flatM_len he xs
    have h1 : ∀ u ∈ xs.flatMap encA, u.oneCell' = true := by
      intro u hu
      obtain ⟨p, _, hp⟩ := List.mem_flatMap.1 hu
      simp [encA] at hp
      first | (subst hp; rfl) | (rcases hp with rfl | rfl <;> rfl)
    have hback := fun (w' : World) (v' : Value) (h : w'.ownsRow w.heap.size 71 2 v' xs.length (xs.flatMap encA)) => own_enc (E := EAttr) he hE h
    have HBK := Lib.hid hback
    obtain ⟨n, hn⟩ : ∃ n, xs.length = n := ⟨_, rfl⟩
    rw [hn] at hlen hl hc HBK ⊢
    obtain ⟨F, hF⟩ : ∃ F, xs.flatMap encA = F := ⟨_, rfl⟩
    rw [hF] at hlen hnews h1 HBK
    have HN := Lib.hid (And.intro hnews (And.intro h1 hlen))
    clear hn hF hnews h1 hlen hc hv hback he hE
    have hnn : (binOp BinOp.eql 22 (Value.slice (some ad) n cap) (Value.slice none 0 0)).run Tryz.prog w = .ok (.bool false) w := by kernel_rfl
    go_enter Tryz.func98, Tryz.ntmps98
    go_wp2_with (at_builtin; (refine wpList_append_own _ rfl (.tmp 5) (.tmp 6) 22 rfl w.heap.size 71 i0 _ 2 24 Tryz.underlying22 hi hz0 hz1 hz2 rfl (by decide) _ 0 _ rfl (own_emptyS w 71 2) ad n cap _ rfl HN.out.2.2 HN.out.1 HN.out.2.1 (by unfold maxLen; omega) (by omega) (by simp) ?_))
    intro v' w' hown hg _
    try simp only [Nat.zero_add, List.nil_append] at hown
    obtain ⟨A', c', rfl, -⟩ := own_form hown
    have HO := Lib.hid (And.intro hown hg)
    clear hown hg
    go_wp2_with fail
    go_ret
    exact ⟨_, _, rfl, HBK.out _ _ HO.out.1, ((Below.refl _ w).alloc (Nat.le_refl _) _).grown HO.out.2 (by simp) (fun k e => by simp [Value.ownBlock] at e; omega)⟩

theorem Tryz.infoC_str : (Tryz.prog.info? 9).map (fun i => (i.zero, i.size, i.bytes)) = some (some (.string ⟨#[]⟩), 1, 16) := by kernel_rfl
set_option maxRecDepth 100000 in
set_option maxHeartbeats 1000000 in
theorem clone_str {w : World} {v : Value} {xs : List (Bs)} (hv : Rows 1 EStr w v xs) (hl : xs.length ≤ 100000) :
    Calls Tryz.prog 100 #[v] w (ClV 9 1 EStr w xs) := by
  obtain ⟨A, cap, rfl, hc⟩ := hv.form
  have he : ∀ x : Bs, (encS x).length = 1 := fun _ => rfl
  have hE : ∀ (w : World) (x : Bs), EStr w (encS x) x := fun _ _ => rfl
  unfold ClV
  cases A with
  | none =>
    have h0 : xs = [] := by
      by_cases h : 0 < xs.length
      · obtain ⟨b, off, hA, _⟩ := hv.at' h
        cases hA
      · exact List.length_eq_zero_iff.1 (by omega)
    subst h0
    refine (AnyE.slices_Clone_nil Tryz.laysCloneStr 0 cap w).mono ?_
    rintro e w' ⟨rfl, rfl⟩
    exact ⟨none, 0, rfl, own_enc he hE (World.ownsRow_nil _ _ _ _), Below.refl _ _⟩
  | some ad =>
    obtain ⟨i0, hi, hz0, hz1, hz2⟩ := info_parts' Tryz.infoC_str
    have hnews : ∀ (j : Nat) (u : Value), (xs.flatMap encS)[j]? = some u → (w.alloc (.cells #[] 9)).cell? (ad.add j) = some u := by
      intro j u hu
      have h0 : 0 < xs.length := by
        have := (List.getElem?_eq_some_iff.1 hu).1
        rw [flatM_len he] at this
        omega
      obtain ⟨b, off, hA, hb, hj⟩ := hv.at' h0
      cases hA
      rw [add_plain]
      have := flatE_get he (by decide) hj j u hu
      exact (((Below.refl w.heap.size w).alloc (Nat.le_refl _) (.cells #[] 9)).cell (p := ⟨b, off + j, none⟩) hb).trans this
    have hlen := flatM_len he xs
    have h1 : ∀ u ∈ xs.flatMap encS, u.oneCell' = true := by
      intro u hu
      obtain ⟨p, _, hp⟩ := List.mem_flatMap.1 hu
      simp [encS] at hp
      first | (subst hp; rfl) | (rcases hp with rfl | rfl <;> rfl)
    have hback := fun (w' : World) (v' : Value) (h : w'.ownsRow w.heap.size 9 1 v' xs.length (xs.flatMap encS)) => own_enc (E := EStr) he hE h
    have HBK := Lib.hid hback
    obtain ⟨n, hn⟩ : ∃ n, xs.length = n := ⟨_, rfl⟩
    rw [hn] at hlen hl hc HBK ⊢
    obtain ⟨F, hF⟩ : ∃ F, xs.flatMap encS = F := ⟨_, rfl⟩
    rw [hF] at hlen hnews h1 HBK
    have HN := Lib.hid (And.intro hnews (And.intro h1 hlen))
    clear hn hF hnews h1 hlen hc hv hback he hE
    have hnn : (binOp BinOp.eql 28 (Value.slice (some ad) n cap) (Value.slice none 0 0)).run Tryz.prog w = .ok (.bool false) w := by kernel_rfl
    go_enter Tryz.func100, Tryz.ntmps100
    go_wp2_with (at_builtin; (refine wpList_append_own _ rfl (.tmp 5) (.tmp 6) 28 rfl w.heap.size 9 i0 _ 1 16 Tryz.underlying28 hi hz0 hz1 hz2 rfl (by decide) _ 0 _ rfl (own_emptyS w 9 1) ad n cap _ rfl HN.out.2.2 HN.out.1 HN.out.2.1 (by unfold maxLen; omega) (by omega) (by simp) ?_))
    intro v' w' hown hg _
    try simp only [Nat.zero_add, List.nil_append] at hown
    obtain ⟨A', c', rfl, -⟩ := own_form hown
    have HO := Lib.hid (And.intro hown hg)
    clear hown hg
    go_wp2_with fail
    go_ret
    exact ⟨_, _, rfl, HBK.out _ _ HO.out.1, ((Below.refl _ w).alloc (Nat.le_refl _) _).grown HO.out.2 (by simp) (fun k e => by simp [Value.ownBlock] at e; omega)⟩
end Go.Proofs.YtglafkonpbcegaaGreat
