/-
  WALKS over package depend, eighth part: the reader reads a text.
-/
import Derived.Test.YtmjmidgfdjcbfaaGreatDoorDbF
namespace Go.Proofs.YtmjmidgfdjcbfaaGreatDoor.Dep
open Go Go.RowKit Go.Shelf Go.Lib
set_option linter.unusedVariables false
attribute [local go_sem] Oper.semAt_some

theorem RdAt.drew {W : World} {R base T : Nat} {bs : List Nat} {hs : List Int} {rs : Fs} (h : RdAt W R base T bs hs rs) : RdAt W.drew R base T bs hs rs := by
  obtain ⟨⟨vb, vh, vr, hblk, ob, oh, orr, hd⟩, hlt, hle⟩ := h
  exact ⟨⟨vb, vh, vr, hblk, ob, oh, orr, hd⟩, hlt, hle⟩
theorem Fr.drew {R base : Nat} (W : World) : Fr R base W W.drew := ⟨(Below.refl 0 W).drew, fun _ _ _ => rfl, fun _ _ h _ => h⟩
theorem RdAt.below {W W' : World} {R base T : Nat} {bs : List Nat} {hs : List Int} {rs : Fs} (h : RdAt W R base T bs hs rs) (hb : Below W.heap.size W W') : RdAt W' R base T bs hs rs := by
  obtain ⟨⟨vb, vh, vr, hblk, ob, oh, orr, hd⟩, hlt, hle⟩ := h
  exact ⟨⟨vb, vh, vr, block_below hblk hb (Array.getElem?_eq_some_iff.1 hblk).1, own_after ob hb, own_after oh hb, own_after orr hb, hd⟩, hlt, Nat.le_trans hle hb.size⟩
theorem RdAt.other {W : World} {R base T k i : Nat} {u : Value} {bs : List Nat} {hs : List Int} {rs : Fs} (h : RdAt W R base T bs hs rs) (hk : k < base) (hR : R ≠ k) : RdAt (W.setCell ⟨k, i, none⟩ u) R base T bs hs rs := by
  obtain ⟨⟨vb, vh, vr, hblk, ob, oh, orr, hd⟩, hlt, hle⟩ := h
  exact ⟨⟨vb, vh, vr, block_other _ hblk hR, own_set ob hk, own_set oh hk, own_set orr hk, hd⟩, hlt, by rw [setCell_sz]; exact hle⟩
theorem rd_err (T : Nat) (pre : List Bs) {e1 e2 : Int} (h : (rd T pre).err = some (e1, e2)) : e2 ≠ 0 := by
  induction hn : pre.length generalizing pre with
  | zero =>
    have := List.length_eq_zero_iff.1 hn
    subst this
    cases h
  | succ n ih =>
    rcases List.eq_nil_or_concat pre with rfl | ⟨q, x, rfl⟩
    · simp at hn
    · rw [List.concat_eq_append] at hn h
      rw [rd_snoc] at h
      cases hq : (rd T q).err with
      | some e =>
        have : stepL T (rd T q) x = rd T q := by unfold stepL; rw [hq]
        rw [this] at h
        exact ih q h (by simp at hn; omega)
      | none =>
        unfold stepL at h
        rw [hq] at h
        simp only at h
        by_cases hz : (lineR T (rd T q).hs.length (trimNL x)).2.1 = 0
        · rw [if_pos hz] at h; cases h
        · rw [if_neg hz] at h
          cases h
          exact hz
theorem mem_len {x : Bs} : ∀ {l : List Bs}, x ∈ l → x.length ≤ l.flatten.length
  | [], h => by cases h
  | a :: l, h => by
    rw [List.flatten_cons, List.length_append]
    rcases List.mem_cons.1 h with rfl | h
    · omega
    · have := mem_len h; omega
theorem lineR_bound (T k : Nat) (l : Bs) : 0 ≤ (lineR T k l).1 ∧ (lineR T k l).1 ≤ (l.length : Int) + 1 := by
  have h1 := twd_len l
  unfold lineR
  split
  · exact ⟨by decide, by simp only; omega⟩
  · split
    · exact ⟨by decide, by simp only; omega⟩
    · split
      · exact ⟨by decide, by simp only; omega⟩
      · split
        · simp only; omega
        · split
          · exact ⟨by decide, by simp only; omega⟩
          · split
            · simp only [List.length_drop]; omega
            · exact ⟨Int.le_refl 0, by simp only; omega⟩
theorem pre_flat {pre : List Bs} {x : Bs} {l : List Bs} (h : pre ++ [x] <+: l) : pre.flatten.length + x.length ≤ l.flatten.length := by
  obtain ⟨r, rfl⟩ := h
  simp
theorem checkH_range (h : List Int) : 0 ≤ (checkH h).1 ∧ ((checkH h).2 ≠ 0 → (checkH h).1 < (h.length : Int)) ∨ (4096 < h.length) := by
  rcases checkH_cases h with ⟨h1, e⟩ | ⟨_, h2, e⟩ | ⟨_, _, _, ⟨h3, e⟩ | ⟨_, e⟩⟩
  · exact .inr h1
  · left; rw [e]; exact ⟨h2, fun _ => (findZ_range _ _).2⟩
  · left; rw [e]
    refine ⟨h3, fun _ => ?_⟩
    have := (findZ_range (cyc h) (List.range h.length)).2
    rw [List.length_range] at this
    exact this
  · left; rw [e]; exact ⟨Int.le_refl 0, fun h => absurd rfl h⟩
theorem trimNL_len (x : Bs) : (trimNL x).length ≤ x.length := by
  unfold trimNL trimSuffix
  split
  · rw [List.length_take]; omega
  · exact Nat.le_refl _

set_option maxRecDepth 100000 in
set_option maxHeartbeats 8000000 in
theorem text_any {w : World} {R T : Nat} (hR : w.heap[R]? = some (.cells #[.int .i64 (T : Int), .slice none 0 0, .slice none 0 0, .slice none 0 0] 89 (0, 0))) (hE : ErrAt w) (hER : 5 ≠ R) (hT : T ≤ 4096) (s : ByteArray) (hs : s.size ≤ 1048576) :
    Calls Tryz.prog 45 #[.pointer (some ⟨R, 0, none⟩), .string s] w fun e W' => e = .returned (.tuple #[.int .i64 (textE T s.data.toList).1, .int .i64 (textE T s.data.toList).2]) ∧ Below 0 w W' ∧ (∀ k, k < w.heap.size → k ≠ R → W'.heap[k]? = w.heap[k]?) ∧
      ((textE T s.data.toList).2 = 0 → RdAt W' R (w.heap.size + 5) T (rd T (linesL s.data.toList)).bs (rd T (linesL s.data.toList)).hs (rd T (linesL s.data.toList)).rs) := by
  have hRl := (Array.getElem?_eq_some_iff.1 hR).1
  refine (callsIn_wide (n := 3)).1 ?_
  refine callsIn_of_wp_marks Tryz.func45 rfl trivial ?_ rfl
  simp only [Tryz.ntmps45, List.size_toArray, List.length_cons, List.length_nil, Nat.reduceAdd, Nat.reduceSub, Array.replicate_succ, Array.replicate_zero, List.push_toArray, List.append_toArray, List.nil_append, List.cons_append]
  gi_wp2_with (refine ⟨trivial, ?_⟩; gi_at_call 74; refine (callsIn_wide.2 (lines_fn s _)).mono ?_; rintro e w' ⟨rfl, rfl⟩)
  obtain ⟨W0, hW0⟩ : ∃ W0, (((((w.alloc (.cells #[.pointer (some ⟨R, 0, none⟩)] 119)).alloc (.cells #[.int .i64 0] 3)).alloc (.cells #[.int .i64 0] 36)).alloc (.cells #[.int .i64 0] 3)).alloc (.cells #[.string s] 9)) = W0 := ⟨_, rfl⟩
  have hsz : W0.heap.size = w.heap.size + 5 := by rw [← hW0]; simp
  have b0 : W0.heap[w.heap.size]? = some (.cells #[.pointer (some ⟨R, 0, none⟩)] 119 (0, 0)) := by rw [← hW0]; exact block_alloc _ (block_alloc _ (block_alloc _ (block_alloc _ (block_new w _))))
  have b1 : W0.heap[w.heap.size + 1]? = some (.cells #[.int .i64 0] 3 (0, 0)) := by
    rw [← hW0]
    have := block_new (w.alloc (.cells #[.pointer (some ⟨R, 0, none⟩)] 119)) (.cells #[.int .i64 0] 3)
    rw [alloc_sz] at this
    exact block_alloc _ (block_alloc _ (block_alloc _ this))
  have b2 : W0.heap[w.heap.size + 2]? = some (.cells #[.int .i64 0] 36 (0, 0)) := by
    rw [← hW0]
    have := block_new ((w.alloc (.cells #[.pointer (some ⟨R, 0, none⟩)] 119)).alloc (.cells #[.int .i64 0] 3)) (.cells #[.int .i64 0] 36)
    rw [alloc_sz, alloc_sz] at this
    exact block_alloc _ (block_alloc _ this)
  have b3 : W0.heap[w.heap.size + 3]? = some (.cells #[.int .i64 0] 3 (0, 0)) := by
    rw [← hW0]
    have := block_new (((w.alloc (.cells #[.pointer (some ⟨R, 0, none⟩)] 119)).alloc (.cells #[.int .i64 0] 3)).alloc (.cells #[.int .i64 0] 36)) (.cells #[.int .i64 0] 3)
    rw [alloc_sz, alloc_sz, alloc_sz] at this
    exact block_alloc _ this
  have b4 : W0.heap[w.heap.size + 4]? = some (.cells #[.string s] 9 (0, 0)) := by
    rw [← hW0]
    have := block_new ((((w.alloc (.cells #[.pointer (some ⟨R, 0, none⟩)] 119)).alloc (.cells #[.int .i64 0] 3)).alloc (.cells #[.int .i64 0] 36)).alloc (.cells #[.int .i64 0] 3)) (.cells #[.string s] 9)
    rw [alloc_sz, alloc_sz, alloc_sz, alloc_sz] at this
    exact this
  have hB0 : Below w.heap.size w W0 := by
    rw [← hW0]
    exact (((((Below.refl _ w).alloc (Nat.le_refl _) _).alloc (by simp) _).alloc (by simp; omega) _).alloc (by simp; omega) _).alloc (by simp; omega) _
  rw [hW0]
  clear hW0
  have hss : s = ⟨s.data.toList.toArray⟩ := by cases s; simp
  have b4' : W0.heap[w.heap.size + 4]? = some (.cells #[.string ⟨s.data.toList.toArray⟩] 9 (0, 0)) := by rw [← hss]; exact b4
  clear hss
  have hslen : s.data.toList.length ≤ 1048576 := by rw [← Lib.size_eq]; exact hs
  refine range_over (n := 3) (by omega) (gf := 99) (lb := #[.pointer (some ⟨w.heap.size + 1 + 1 + 1 + 1, 0, none⟩)]) rfl (enters_of Tryz.func99 (by kernel_rfl) rfl) (Bv := w.heap.size + 4) (by omega)
    (lines_seq 2 (by omega) (w.heap.size + 4) s.data.toList (by omega) W0 b4') (fun _ => rfl)
    (TxI T R w) (TxX T R w) (txI_own T R w hRl _ (by omega)) (txX_own T R w _ (by omega))
    ⟨rfl, ⟨⟨.slice none 0 0, .slice none 0 0, .slice none 0 0, (hB0.block R hRl).trans hR, World.ownsRow_nil _ _ _ 1, World.ownsRow_nil _ _ _ 1, World.ownsRow_nil _ _ _ 1, fun k e => by simp [Value.ownBlock] at e⟩, by omega, by omega⟩, hB0.mono (Nat.zero_le _), fun k hk _ => hB0.block k hk, b0, b1, b2, b3⟩
    (fun x a' => a' = { tmps := #[.pointer (some ⟨R, 0, none⟩), .string s, .pointer (some ⟨w.heap.size, 0, none⟩), undef, .pointer (some ⟨w.heap.size + 1, 0, none⟩), .pointer (some ⟨w.heap.size + 1 + 1, 0, none⟩), .pointer (some ⟨w.heap.size + 1 + 1 + 1, 0, none⟩), .string ⟨x.toArray⟩, undef, undef, undef, undef, .string s, .func (.func 99) #[] #[.pointer (some ⟨w.heap.size + 1 + 1 + 1 + 1, 0, none⟩)], .string ⟨x.toArray⟩, undef, undef, undef, undef, undef, undef, undef, undef, undef, undef, undef, undef, undef, undef, undef, undef, undef, undef, undef, undef, undef, undef, undef, undef, undef, undef, undef, undef, undef, undef, undef, undef, undef, undef, undef, undef, undef, undef, undef, undef, undef, undef, undef, undef, undef, undef, undef, undef, undef, undef, undef, undef, undef, undef, undef, undef, undef], defers := [] }) ?assign ?body ?done ?stop
  case assign =>
    intro l x W K hK
    have HK := Lib.hid (hK _ rfl)
    clear hK
    unfold lineV
    gi_wp2
    exact HK.out
  case body =>
    rintro l pre x a' W ⟨h1, h2, h3, h4, h5, h6, h7, h8⟩ rfl hlen hx
    have hok := rd_ok T pre h1
    have hsn := rd_snoc T pre x
    obtain ⟨⟨er, off, bs, hs', rs⟩, hst⟩ : ∃ st, rd T pre = st := ⟨_, rfl⟩
    rw [hst] at h1 h2 h8 hok hsn
    simp only at h1 h2 h8
    subst h1
    have hxl := pre_flat hx
    rw [lines_flat] at hxl
    have htl := trimNL_len x
    have hEW : ErrAt W.drew := ErrAt.same (w := w) hE (h4 _ hE.lt hER)
    have hln := line_any h2.drew hEW ⟨hER, by have := hE.lt; omega⟩ hT hok.le (hok.lr.trans hok.len.symm) ⟨(trimNL x).toArray⟩ (by rw [Lib.size_mk]; omega)
    have hts := fun W => Tryz.strings_TrimSuffix ⟨x.toArray⟩ ⟨#[10]⟩ W (by rw [Lib.size_mk]; omega)
    have hlb := lineR_bound T hs'.length (trimNL x)
    have hts2 : ∀ W, Calls Tryz.prog 76 #[.string ⟨x.toArray⟩, .string ⟨#[10]⟩] W fun e w' => e = .returned (.string ⟨(trimNL x).toArray⟩) ∧ w' = W := hts
    have hln2 : Calls Tryz.prog 75 #[.pointer (some ⟨R, 0, none⟩), .string ⟨(trimNL x).toArray⟩] W.drew fun e W' => e = .returned (.tuple #[.int .i64 (lineR T hs'.length (trimNL x)).1, .int .i64 (lineR T hs'.length (trimNL x)).2.1]) ∧ Fr R (w.heap.size + 5) W.drew W' ∧
      ((lineR T hs'.length (trimNL x)).2.1 = 0 → RdAt W' R (w.heap.size + 5) T bs (hs' ++ [(lineR T hs'.length (trimNL x)).2.2.1]) (rs ++ [(lineR T hs'.length (trimNL x)).2.2.2])) := hln
    unfold stepL at hsn
    simp only at hsn
    obtain ⟨⟨r1, r2, r3, r4⟩, hr⟩ : ∃ r, lineR T hs'.length (trimNL x) = r := ⟨_, rfl⟩
    rw [hr] at hln2 hsn hlb
    simp only at hln2 hsn hlb
    obtain ⟨XB, hXB⟩ : ∃ XB : ByteArray, (⟨x.toArray⟩ : ByteArray) = XB := ⟨_, rfl⟩
    have hXs : XB.size = x.length := by rw [← hXB, Lib.size_mk]
    obtain ⟨TB, hTB⟩ : ∃ TB : ByteArray, (⟨(trimNL x).toArray⟩ : ByteArray) = TB := ⟨_, rfl⟩
    rw [hXB, hTB] at hts2
    rw [hTB] at hln2
    rw [hXB]
    have hlow : ∀ w2, Fr R (w.heap.size + 5) W.drew w2 → ∀ k, w.heap.size ≤ k → k < w.heap.size + 5 → w2.heap[k]? = W.heap[k]? := fun w2 hf k hk hk2 => hf.lo k hk2 (by omega)
    have HTS := Lib.hid hts2
    have HLN := Lib.hid hln2
    have HCN := Lib.hid (show (W.drew).cell? ⟨w.heap.size, 0, none⟩ = some (.pointer (some ⟨R, 0, none⟩)) from cell_of (W := W) h5 rfl)
    have HKF := Lib.hid (fun (w2 : World) (hf : Fr R (w.heap.size + 5) W.drew w2) => show w2.cell? ⟨w.heap.size, 0, none⟩ = some (.pointer (some ⟨R, 0, none⟩)) from cell_of ((hlow w2 hf _ (by omega) (by omega)).trans h5) rfl)
    have HLOW := Lib.hid hlow
    have HH := Lib.hid (And.intro h3 (And.intro h4 (And.intro h5 (And.intro h6 (And.intro h7 h8)))))
    have HSN := Lib.hid hsn
    have HOK := Lib.hid hok
    have HXS := Lib.hid (And.intro hXs hxl)
    have HLB := Lib.hid hlb
    have HTL := Lib.hid htl
    have HBASE := Lib.hid (And.intro hsz hRl)
    have HSL := Lib.hid hslen
    clear hln hts hts2 hln2 hr hXB hTB hlow h2 h3 h4 h5 h6 h7 h8 hsn hok hst hxl hXs hlb htl hEW hx hlen b0 b1 b2 b3 b4 b4' hB0 hslen hE hER hR hRl hsz
    gi_wp2
    refine wpIn_round_held (fun w' => w'.cell? ⟨w.heap.size, 0, none⟩ = some (.pointer (some ⟨R, 0, none⟩))) (by kernel_rfl) (by kernel_rfl) (by rintro ⟨a, w, h⟩; exact h) ?_
    have hHeld : (fun w' => w'.cell? ⟨w.heap.size, 0, none⟩ = some (.pointer (some ⟨R, 0, none⟩))) (World.drew W) := HCN.out
    refine wpAnyH_take (i := 0) (oi := ?oi1) (v := ?v1) ?hi1 (by kernel_rfl) (by kernel_rfl) (by kernel_rfl) ?hq1 ?hy1 (by assumption) ?hr1
    case hi1 => (simp only [List.getElem?_toArray, List.getElem?_cons_zero]; rfl)
    case hq1 => exact fun _ _ _ h => h
    case hy1 => exact Or.inl ⟨by rfl, by intro whSw hSw'; (try dsimp only at hSw'); (first | (go_simp; done) | (go_simp; with_reducible rfl))⟩
    try simp only [Act.put, List.setIfInBounds_toArray, List.set_cons_zero, List.set_cons_succ]
    refine wpAnyH_take (i := 1) (oi := ?oi2) (v := ?v2) ?hi2 (by kernel_rfl) (by kernel_rfl) (by kernel_rfl) ?hq2 ?hy2 (by assumption) ?hr2
    case hi2 => (simp only [List.getElem?_toArray, List.getElem?_cons_succ, List.getElem?_cons_zero]; rfl)
    case hq2 => exact fun _ _ _ h => h
    case hy2 => exact Or.inl ⟨by rfl, by intro whSw hSw'; (try dsimp only at hSw'); (first | (go_simp; done) | (go_simp; with_reducible rfl))⟩
    try simp only [Act.put, List.setIfInBounds_toArray, List.set_cons_zero, List.set_cons_succ]
    refine wpAnyH_ready (rs := [2]) (by kernel_rfl) (by simp) ?_
    refine AllReadyH.cons (o := ?oo3) ?hi3 (fun K hK => ?hs3) ?hm3
    case hi3 => (simp only [List.getElem?_toArray, List.getElem?_cons_succ, List.getElem?_cons_zero]; rfl)
    go_simp
    (refine (HTS.out _).mono ?_); rintro e w1 ⟨rfl, rfl⟩
    (try go_wp2_with fail)
    refine hK.out _ _ ?_ (fun hHeld => ?_)
    · (try dsimp only); (first | (exact HKN.out) | (exact HCN.out) | go_keep | fail)
    clear hK K
    try simp only [Act.put, List.setIfInBounds_toArray, List.set_cons_zero, List.set_cons_succ]
    refine wpAnyH_ready (rs := [3]) (by kernel_rfl) (by simp) ?_
    refine AllReadyH.cons (o := ?oo4) ?hi4 (fun K hK => ?hs4) ?hm4
    case hi4 => (simp only [List.getElem?_toArray, List.getElem?_cons_succ, List.getElem?_cons_zero]; rfl)
    go_simp
    (refine HLN.out.mono ?_); rintro e w2 ⟨rfl, hfr, hrd⟩; have HFR := Lib.hid hfr; have HRD := Lib.hid hrd; have HKN := Lib.hid (HKF.out w2 hfr); clear hfr hrd
    (try go_wp2_with fail)
    refine hK.out _ _ ?_ (fun hHeld => ?_)
    · (try dsimp only); (first | (exact HKN.out) | (exact HCN.out) | go_keep | fail)
    clear hK K
    try simp only [Act.put, List.setIfInBounds_toArray, List.set_cons_zero, List.set_cons_succ]
    refine wpAnyH_take (i := 4) (oi := ?oi5) (v := ?v5) ?hi5 (by kernel_rfl) (by kernel_rfl) (by kernel_rfl) ?hq5 ?hy5 (by assumption) ?hr5
    case hi5 => (simp only [List.getElem?_toArray, List.getElem?_cons_succ, List.getElem?_cons_zero]; rfl)
    case hq5 => exact fun _ _ _ h => h
    case hy5 => exact Or.inl ⟨by rfl, by intro whSw hSw'; (try dsimp only at hSw'); (first | (go_simp; done) | (go_simp; with_reducible rfl))⟩
    try simp only [Act.put, List.setIfInBounds_toArray, List.set_cons_zero, List.set_cons_succ]
    refine wpAnyH_take (i := 5) (oi := ?oi6) (v := ?v6) ?hi6 (by kernel_rfl) (by kernel_rfl) (by kernel_rfl) ?hq6 ?hy6 (by assumption) ?hr6
    case hi6 => (simp only [List.getElem?_toArray, List.getElem?_cons_succ, List.getElem?_cons_zero]; rfl)
    case hq6 => exact fun _ _ _ h => h
    case hy6 => exact Or.inl ⟨by rfl, by intro whSw hSw'; (try dsimp only at hSw'); (first | (go_simp; done) | (go_simp; with_reducible rfl))⟩
    try simp only [Act.put, List.setIfInBounds_toArray, List.set_cons_zero, List.set_cons_succ]
    refine wpAnyH_take (i := 6) (oi := ?oi7) (v := ?v7) ?hi7 (by kernel_rfl) (by kernel_rfl) (by kernel_rfl) ?hq7 ?hy7 (by assumption) ?hr7
    case hi7 => (simp only [List.getElem?_toArray, List.getElem?_cons_succ, List.getElem?_cons_zero]; rfl)
    case hq7 => exact fun _ _ _ h => h
    case hy7 => exact Or.inl ⟨by rfl, by intro whSw hSw'; (try dsimp only at hSw'); (first | (go_simp; done) | (go_simp; with_reducible rfl))⟩
    try simp only [Act.put, List.setIfInBounds_toArray, List.set_cons_zero, List.set_cons_succ]
    refine wpAnyH_take (i := 7) (oi := ?oi8) (v := ?v8) ?hi8 (by kernel_rfl) (by kernel_rfl) (by kernel_rfl) ?hq8 ?hy8 (by assumption) ?hr8
    case hi8 => (simp only [List.getElem?_toArray, List.getElem?_cons_succ, List.getElem?_cons_zero]; rfl)
    case hq8 => exact fun _ _ _ h => h
    case hy8 => exact Or.inl ⟨by rfl, by intro whSw hSw'; (try dsimp only at hSw'); (first | (go_simp; done) | (go_simp; with_reducible rfl))⟩
    try simp only [Act.put, List.setIfInBounds_toArray, List.set_cons_zero, List.set_cons_succ]
    refine wpAnyH_take (i := 8) (oi := ?oi9) (v := ?v9) ?hi9 (by kernel_rfl) (by kernel_rfl) (by kernel_rfl) ?hq9 ?hy9 (by assumption) ?hr9
    case hi9 => (simp only [List.getElem?_toArray, List.getElem?_cons_succ, List.getElem?_cons_zero]; rfl)
    case hq9 => exact fun _ _ _ h => h
    case hy9 => exact Or.inl ⟨by rfl, by intro whSw hSw'; (try dsimp only at hSw'); (first | (go_simp; done) | (go_simp; with_reducible rfl))⟩
    try simp only [Act.put, List.setIfInBounds_toArray, List.set_cons_zero, List.set_cons_succ]
    refine wpAnyH_done (by kernel_rfl) ?_ _
    rotate_left
    exact AllReadyH.nil
    exact AllReadyH.nil
    by_cases hr2 : r2 = 0
    · have hsn2 := HSN.out
      rw [if_pos hr2] at hsn2
      subst hr2
      have HSN2 := Lib.hid hsn2
      obtain ⟨⟨vb, vh, vr, hblk, ob, oh, orr, hd⟩, hlt, hle⟩ : RdAt w2 R (w.heap.size + 5) T bs (hs' ++ [r3]) (rs ++ [r4]) := by first | exact HRD.out rfl | exact HRD.out trivial | exact HRD.out
      obtain ⟨Ab, cb, rfl, hcb⟩ := own_form ob
      have hnb4 : bs.length ≤ 4096 := by
        have h1 := HOK.out.lb
        have h2 := HOK.out.len
        have h3 := HOK.out.le
        simp only at h1 h2 h3
        omega
      have hof := HXS.out.2
      rw [← HOK.out.off] at hof
      simp only at hof
      have hsl := HSL.out
      have hofx : (off : Int) + (XB.size : Int) ≤ 1048576 := by have := HXS.out.1; omega
      obtain ⟨nb, hnb⟩ : ∃ n, bs.length = n := ⟨_, rfl⟩
      rw [hnb] at ob hblk hcb hd hnb4
      have e0 : w2.heap[w.heap.size]? = some (.cells #[.pointer (some ⟨R, 0, none⟩)] 119 (0, 0)) := (HLOW.out w2 HFR.out _ (by omega) (by omega)).trans HH.out.2.2.1
      have e1 : w2.heap[w.heap.size + 1]? = some (.cells #[.int .i64 0] 3 (0, 0)) := (HLOW.out w2 HFR.out _ (by omega) (by omega)).trans HH.out.2.2.2.1
      have e2 : w2.heap[w.heap.size + 2]? = some (.cells #[.int .i64 0] 36 (0, 0)) := (HLOW.out w2 HFR.out _ (by omega) (by omega)).trans HH.out.2.2.2.2.1
      have e3 : w2.heap[w.heap.size + 3]? = some (.cells #[.int .i64 (off : Int)] 3 (0, 0)) := (HLOW.out w2 HFR.out _ (by omega) (by omega)).trans HH.out.2.2.2.2.2
      have hRl2 := HBASE.out.2
      obtain ⟨i1, hi1, hy0, hy1, hy2⟩ := info_parts' Tryz.infoInt2
      have hgb : ∀ (w6 : World), w2.drew.grownBy w6 (Value.slice Ab nb cb).ownBlock → ∀ (k : Nat) (o : Obj), k < w.heap.size + 5 → w2.heap[k]? = some o → w6.heap[k]? = some o := fun w6 hg k o hk hko =>
        (hg.block k (Array.getElem?_eq_some_iff.1 hko).1 (fun e => by have := (own_low ob k e.symm).1; omega)).trans hko
      have HB6F := Lib.hid (fun (w6 : World) (hg : w2.drew.grownBy w6 (Value.slice Ab nb cb).ownBlock) => show w6.heap[R]? = some (.cells #[.int .i64 (T : Int), .slice Ab nb cb, vh, vr] 89 (0, 0)) ∧ (w6.cell? ⟨w.heap.size, 0, none⟩ = some (.pointer (some ⟨R, 0, none⟩)) ∧ w6.cell? ⟨w.heap.size + 3, 0, none⟩ = some (.int .i64 (off : Int))) ∧
          ∀ A c, ((w6.setCell ⟨R, 1, none⟩ (.slice A (nb + 1) c)).cell? ⟨w.heap.size, 0, none⟩ = some (.pointer (some ⟨R, 0, none⟩)) ∧ (w6.setCell ⟨R, 1, none⟩ (.slice A (nb + 1) c)).cell? ⟨w.heap.size + 3, 0, none⟩ = some (.int .i64 (off : Int))) from
        ⟨hgb w6 hg R _ (by omega) hblk, ⟨cell_of (hgb w6 hg _ _ (by omega) e0) rfl, cell_of (hgb w6 hg _ _ (by omega) e3) rfl⟩, fun A c => ⟨cell_of (block_other _ (hgb w6 hg _ _ (by omega) e0) (by omega)) rfl, cell_of (block_other _ (hgb w6 hg _ _ (by omega) e3) (by omega)) rfl⟩⟩)
      have HK0 := Lib.hid (show w2.drew.cell? ⟨w.heap.size, 0, none⟩ = some (.pointer (some ⟨R, 0, none⟩)) ∧ w2.drew.cell? ⟨w.heap.size + 3, 0, none⟩ = some (.int .i64 (off : Int)) from ⟨cell_of (W := w2) e0 rfl, cell_of (W := w2) e3 rfl⟩)
      have HK1 := Lib.hid (show (w2.drew.alloc (.cells #[.int .i64 (off : Int)] 3)).cell? ⟨w.heap.size, 0, none⟩ = some (.pointer (some ⟨R, 0, none⟩)) ∧ (w2.drew.alloc (.cells #[.int .i64 (off : Int)] 3)).cell? ⟨w.heap.size + 3, 0, none⟩ = some (.int .i64 (off : Int)) from ⟨cell_of (block_alloc (W := w2.drew) _ e0) rfl, cell_of (block_alloc (W := w2.drew) _ e3) rfl⟩)
      have c1 : w2.drew.cell? ⟨R, 1, none⟩ = some (.slice Ab nb cb) := cell_of (W := w2) hblk rfl
      have c1' : (w2.drew.alloc (.cells #[.int .i64 (off : Int)] 3)).cell? ⟨R, 1, none⟩ = some (.slice Ab nb cb) := cell_of (block_alloc (W := w2.drew) _ hblk) rfl
      have c1a : w2.cell? ⟨R, 1, none⟩ = some (.slice Ab nb cb) := cell_of (W := w2) hblk rfl
      have c1b : (w2.alloc (.cells #[.int .i64 (off : Int)] 3)).cell? ⟨R, 1, none⟩ = some (.slice Ab nb cb) := cell_of (block_alloc (W := w2) _ hblk) rfl
      have HK1a := Lib.hid (show (w2.alloc (.cells #[.int .i64 (off : Int)] 3)).cell? ⟨w.heap.size, 0, none⟩ = some (.pointer (some ⟨R, 0, none⟩)) ∧ (w2.alloc (.cells #[.int .i64 (off : Int)] 3)).cell? ⟨w.heap.size + 3, 0, none⟩ = some (.int .i64 (off : Int)) from ⟨cell_of (block_alloc (W := w2) _ e0) rfl, cell_of (block_alloc (W := w2) _ e3) rfl⟩)
      have HOW := Lib.hid (show w2.drew.ownsRow (w.heap.size + 5) 3 1 (.slice Ab nb cb) nb (natV bs) ∧ w2.drew.ownsRow (w.heap.size + 5) 3 1 vh (hs' ++ [r3]).length (intV (hs' ++ [r3])) ∧ w2.drew.ownsRow (w.heap.size + 5) 9 1 vr (rs ++ [r4]).length (strsV (rs ++ [r4])) from ⟨ob, oh, orr⟩)
      have HNB := Lib.hid hnb4
      have HNBL := Lib.hid hnb
      have HBS := Lib.hid (show w.heap.size + 5 ≤ w2.drew.heap.size from hle)
      have HD := Lib.hid hd
      have HE123 := Lib.hid (And.intro hblk (And.intro e0 (And.intro e1 (And.intro e2 e3))))
      have HGB := Lib.hid hgb
      have hwo : IntKind.i64.wrap ((off : Int) + (XB.size : Int)) = (off : Int) + (XB.size : Int) := by rw [IntKind.wrap_i64]; omega
      clear hsn2 hblk ob oh orr hd hlt hle hcb hnb4 hof hsl hofx hnb e0 e1 e2 e3 hRl2 hgb
      gi_wp2
      refine wpIn_round_held (fun w' => w'.cell? ⟨w.heap.size, 0, none⟩ = some (.pointer (some ⟨R, 0, none⟩)) ∧ w'.cell? ⟨w.heap.size + 3, 0, none⟩ = some (.int .i64 (off : Int))) (by kernel_rfl) (by kernel_rfl) (by rintro ⟨a, w, h⟩; exact h) ?_
      have hHeld : (fun w' => w'.cell? ⟨w.heap.size, 0, none⟩ = some (.pointer (some ⟨R, 0, none⟩)) ∧ w'.cell? ⟨w.heap.size + 3, 0, none⟩ = some (.int .i64 (off : Int))) (World.drew w2) := HK0.out
      refine wpAnyH_take (i := 0) (oi := ?oi1001) (v := ?v1001) ?hi1001 (by kernel_rfl) (by kernel_rfl) (by kernel_rfl) ?hq1001 ?hy1001 (by assumption) ?hr1001
      case hi1001 => (simp only [List.getElem?_toArray, List.getElem?_cons_zero]; rfl)
      case hq1001 => exact fun _ _ _ h => h
      case hy1001 => exact Or.inl ⟨by rfl, by intro whSw hSw'; (try dsimp only at hSw'); (first | (go_simp; done) | (go_simp; with_reducible rfl))⟩
      try simp only [Act.put, List.setIfInBounds_toArray, List.set_cons_zero, List.set_cons_succ]
      refine wpAnyH_take (i := 1) (oi := ?oi1002) (v := ?v1002) ?hi1002 (by kernel_rfl) (by kernel_rfl) (by kernel_rfl) ?hq1002 ?hy1002 (by assumption) ?hr1002
      case hi1002 => (simp only [List.getElem?_toArray, List.getElem?_cons_succ, List.getElem?_cons_zero]; rfl)
      case hq1002 => exact fun _ _ _ h => h
      case hy1002 => exact Or.inl ⟨by rfl, by intro whSw hSw'; (try dsimp only at hSw'); (first | (go_simp; done) | (go_simp; with_reducible rfl))⟩
      try simp only [Act.put, List.setIfInBounds_toArray, List.set_cons_zero, List.set_cons_succ]
      refine wpAnyH_take (i := 2) (oi := ?oi1003) (v := ?v1003) ?hi1003 (by kernel_rfl) (by kernel_rfl) (by kernel_rfl) ?hq1003 ?hy1003 (by assumption) ?hr1003
      case hi1003 => (simp only [List.getElem?_toArray, List.getElem?_cons_succ, List.getElem?_cons_zero]; rfl)
      case hq1003 => exact fun _ _ _ h => h
      case hy1003 => exact Or.inl ⟨by rfl, by intro whSw hSw'; (try dsimp only at hSw'); (first | (go_simp; done) | (go_simp; with_reducible rfl))⟩
      try simp only [Act.put, List.setIfInBounds_toArray, List.set_cons_zero, List.set_cons_succ]
      refine wpAnyH_take (i := 3) (oi := ?oi1004) (v := ?v1004) ?hi1004 (by kernel_rfl) (by kernel_rfl) (by kernel_rfl) ?hq1004 ?hy1004 (by assumption) ?hr1004
      case hi1004 => (simp only [List.getElem?_toArray, List.getElem?_cons_succ, List.getElem?_cons_zero]; rfl)
      case hq1004 => exact fun _ _ _ h => h
      case hy1004 => exact Or.inl ⟨by rfl, by intro whSw hSw'; (try dsimp only at hSw'); (first | (go_simp; done) | (go_simp; with_reducible rfl))⟩
      try simp only [Act.put, List.setIfInBounds_toArray, List.set_cons_zero, List.set_cons_succ]
      refine wpAnyH_take (i := 5) (oi := ?oi1005) (v := ?v1005) ?hi1005 (by kernel_rfl) (by kernel_rfl) (by kernel_rfl) ?hq1005 ?hy1005 (by assumption) ?hr1005
      case hi1005 => (simp only [List.getElem?_toArray, List.getElem?_cons_succ, List.getElem?_cons_zero]; rfl)
      case hq1005 => exact fun _ _ _ h => h
      case hy1005 => exact Or.inl ⟨by rfl, by intro whSw hSw'; (try dsimp only at hSw'); (first | (go_simp; done) | (go_simp; with_reducible rfl))⟩
      try simp only [Act.put, List.setIfInBounds_toArray, List.set_cons_zero, List.set_cons_succ]
      refine wpAnyH_ready (rs := [4, 6]) (by kernel_rfl) (by simp) ?_
      refine AllReadyH.cons (o := ?oo1006) ?hi1006 (fun K hK => ?hs1006) ?hm1006
      case hi1006 => (simp only [List.getElem?_toArray, List.getElem?_cons_succ, List.getElem?_cons_zero]; rfl)
      go_simp
      refine hK.out _ _ ?_ (fun hHeld => ?_)
      · (try dsimp only); (first | (with_reducible exact HK0.out) | (with_reducible exact HK1.out) | (with_reducible exact HK6.out) | (with_reducible exact HK7.out) | (exact HK1a.out) | (exact HK1.out) | go_keep | fail)
      clear hK K
      try simp only [Act.put, List.setIfInBounds_toArray, List.set_cons_zero, List.set_cons_succ]
      refine wpAnyH_ready (rs := [6]) (by kernel_rfl) (by simp) ?_
      refine AllReadyH.cons (o := ?oo1007) ?hi1007 (fun K hK => ?hs1007) ?hm1007
      case hi1007 => (simp only [List.getElem?_toArray, List.getElem?_cons_succ, List.getElem?_cons_zero]; rfl)
      go_simp
      refine hK.out _ _ ?_ (fun hHeld => ?_)
      · (try dsimp only); (first | (with_reducible exact HK0.out) | (with_reducible exact HK1.out) | (with_reducible exact HK6.out) | (with_reducible exact HK7.out) | (exact HK1a.out) | (exact HK1.out) | go_keep | fail)
      clear hK K
      try simp only [Act.put, List.setIfInBounds_toArray, List.set_cons_zero, List.set_cons_succ]
      refine wpAnyH_ready (rs := [7]) (by kernel_rfl) (by simp) ?_
      refine AllReadyH.cons (o := ?oo1008) ?hi1008 (fun K hK => ?hs1008) ?hm1008
      case hi1008 => (simp only [List.getElem?_toArray, List.getElem?_cons_succ, List.getElem?_cons_zero]; rfl)
      refine step_push1 rfl (.tmp 32) (.tmp 34) 22 3 i1 _ 8 rfl Tryz.underlying22 hi1 hy0 hy1 hy2 rfl (by decide) (w.heap.size + 5) _ nb (natV bs) (.int .i64 (off : Int)) rfl rfl rfl HOW.out.1 (by have := HNB.out; omega) HBS.out ?_
      intro v6 w6 HO6 HG6 HL6
      obtain ⟨A6, c6, rfl, hc6⟩ := own_form HO6.out
      have hbk6 := HB6F.out w6 HG6.out
      have HBK6 := Lib.hid hbk6.1
      have HK6 := Lib.hid hbk6.2.1
      have HK7 := Lib.hid (hbk6.2.2 A6 c6)
      have g0 : w6.cell? ⟨R, 1, none⟩ = some (.slice Ab nb cb) := cell_of hbk6.1 rfl
      have g1 : w6.frozen? ⟨R, 1, none⟩ = false := frozen_of hbk6.1
      clear hbk6
      refine hK.out _ _ ?_ (fun hHeld => ?_)
      · (try dsimp only); (first | (with_reducible exact HK0.out) | (with_reducible exact HK1.out) | (with_reducible exact HK6.out) | (with_reducible exact HK7.out) | (exact HK1a.out) | (exact HK1.out) | go_keep | fail)
      clear hK K
      try simp only [Act.put, List.setIfInBounds_toArray, List.set_cons_zero, List.set_cons_succ]
      refine wpAnyH_take (i := 8) (oi := ?oi1009) (v := ?v1009) ?hi1009 (by kernel_rfl) (by kernel_rfl) (by kernel_rfl) ?hq1009 ?hy1009 (by assumption) ?hr1009
      case hi1009 => (simp only [List.getElem?_toArray, List.getElem?_cons_succ, List.getElem?_cons_zero]; rfl)
      case hq1009 => exact fun _ _ _ h => h
      case hy1009 => exact Or.inl ⟨by rfl, by intro whSw hSw'; (try dsimp only at hSw'); (first | (go_simp; done) | (go_simp; with_reducible rfl))⟩
      try simp only [Act.put, List.setIfInBounds_toArray, List.set_cons_zero, List.set_cons_succ]
      refine wpAnyH_take (i := 9) (oi := ?oi1010) (v := ?v1010) ?hi1010 (by kernel_rfl) (by kernel_rfl) (by kernel_rfl) ?hq1010 ?hy1010 (by assumption) ?hr1010
      case hi1010 => (simp only [List.getElem?_toArray, List.getElem?_cons_succ, List.getElem?_cons_zero]; rfl)
      case hq1010 => exact fun _ _ _ h => h
      case hy1010 => exact Or.inl ⟨by rfl, by intro whSw hSw'; (try dsimp only at hSw'); (first | (go_simp; done) | (go_simp; with_reducible rfl))⟩
      try simp only [Act.put, List.setIfInBounds_toArray, List.set_cons_zero, List.set_cons_succ]
      refine wpAnyH_ready (rs := [10]) (by kernel_rfl) (by simp) ?_
      refine AllReadyH.cons (o := ?oo1011) ?hi1011 (fun K hK => ?hs1011) ?hm1011
      case hi1011 => (simp only [List.getElem?_toArray, List.getElem?_cons_succ, List.getElem?_cons_zero]; rfl)
      go_simp
      refine hK.out _ _ ?_ (fun hHeld => ?_)
      · (try dsimp only); (first | (with_reducible exact HK0.out) | (with_reducible exact HK1.out) | (with_reducible exact HK6.out) | (with_reducible exact HK7.out) | (exact HK1a.out) | (exact HK1.out) | go_keep | fail)
      clear hK K
      try simp only [Act.put, List.setIfInBounds_toArray, List.set_cons_zero, List.set_cons_succ]
      refine wpAnyH_done (by kernel_rfl) ?_ _
      rotate_left
      exact AllReadyH.nil
      exact AllReadyH.nil
      exact AllReadyH.nil
      refine AllReadyH.cons (o := ?oo1012) ?hi1012 (fun K hK => ?hs1012) ?hm1012
      case hi1012 => (simp only [List.getElem?_toArray, List.getElem?_cons_succ, List.getElem?_cons_zero]; rfl)
      go_simp
      refine hK.out _ _ ?_ (fun hHeld => ?_)
      · (try dsimp only); (first | (with_reducible exact HK0.out) | (with_reducible exact HK1.out) | (with_reducible exact HK6.out) | (with_reducible exact HK7.out) | (exact HK1a.out) | (exact HK1.out) | go_keep | fail)
      clear hK K
      try simp only [Act.put, List.setIfInBounds_toArray, List.set_cons_zero, List.set_cons_succ]
      refine wpAnyH_ready (rs := [4]) (by kernel_rfl) (by simp) ?_
      refine AllReadyH.cons (o := ?oo1013) ?hi1013 (fun K hK => ?hs1013) ?hm1013
      case hi1013 => (simp only [List.getElem?_toArray, List.getElem?_cons_succ, List.getElem?_cons_zero]; rfl)
      go_simp
      refine hK.out _ _ ?_ (fun hHeld => ?_)
      · (try dsimp only); (first | (with_reducible exact HK0.out) | (with_reducible exact HK1.out) | (with_reducible exact HK6.out) | (with_reducible exact HK7.out) | (exact HK1a.out) | (exact HK1.out) | go_keep | fail)
      clear hK K
      try simp only [Act.put, List.setIfInBounds_toArray, List.set_cons_zero, List.set_cons_succ]
      refine wpAnyH_ready (rs := [7]) (by kernel_rfl) (by simp) ?_
      refine AllReadyH.cons (o := ?oo1014) ?hi1014 (fun K hK => ?hs1014) ?hm1014
      case hi1014 => (simp only [List.getElem?_toArray, List.getElem?_cons_succ, List.getElem?_cons_zero]; rfl)
      refine step_push1 rfl (.tmp 32) (.tmp 34) 22 3 i1 _ 8 rfl Tryz.underlying22 hi1 hy0 hy1 hy2 rfl (by decide) (w.heap.size + 5) _ nb (natV bs) (.int .i64 (off : Int)) rfl rfl rfl HOW.out.1 (by have := HNB.out; omega) HBS.out ?_
      intro v6 w6 HO6 HG6 HL6
      obtain ⟨A6, c6, rfl, hc6⟩ := own_form HO6.out
      have hbk6 := HB6F.out w6 HG6.out
      have HBK6 := Lib.hid hbk6.1
      have HK6 := Lib.hid hbk6.2.1
      have HK7 := Lib.hid (hbk6.2.2 A6 c6)
      have g0 : w6.cell? ⟨R, 1, none⟩ = some (.slice Ab nb cb) := cell_of hbk6.1 rfl
      have g1 : w6.frozen? ⟨R, 1, none⟩ = false := frozen_of hbk6.1
      clear hbk6
      refine hK.out _ _ ?_ (fun hHeld => ?_)
      · (try dsimp only); (first | (with_reducible exact HK0.out) | (with_reducible exact HK1.out) | (with_reducible exact HK6.out) | (with_reducible exact HK7.out) | (exact HK1a.out) | (exact HK1.out) | go_keep | fail)
      clear hK K
      try simp only [Act.put, List.setIfInBounds_toArray, List.set_cons_zero, List.set_cons_succ]
      refine wpAnyH_take (i := 8) (oi := ?oi1015) (v := ?v1015) ?hi1015 (by kernel_rfl) (by kernel_rfl) (by kernel_rfl) ?hq1015 ?hy1015 (by assumption) ?hr1015
      case hi1015 => (simp only [List.getElem?_toArray, List.getElem?_cons_succ, List.getElem?_cons_zero]; rfl)
      case hq1015 => exact fun _ _ _ h => h
      case hy1015 => exact Or.inl ⟨by rfl, by intro whSw hSw'; (try dsimp only at hSw'); (first | (go_simp; done) | (go_simp; with_reducible rfl))⟩
      try simp only [Act.put, List.setIfInBounds_toArray, List.set_cons_zero, List.set_cons_succ]
      refine wpAnyH_take (i := 9) (oi := ?oi1016) (v := ?v1016) ?hi1016 (by kernel_rfl) (by kernel_rfl) (by kernel_rfl) ?hq1016 ?hy1016 (by assumption) ?hr1016
      case hi1016 => (simp only [List.getElem?_toArray, List.getElem?_cons_succ, List.getElem?_cons_zero]; rfl)
      case hq1016 => exact fun _ _ _ h => h
      case hy1016 => exact Or.inl ⟨by rfl, by intro whSw hSw'; (try dsimp only at hSw'); (first | (go_simp; done) | (go_simp; with_reducible rfl))⟩
      try simp only [Act.put, List.setIfInBounds_toArray, List.set_cons_zero, List.set_cons_succ]
      refine wpAnyH_ready (rs := [10]) (by kernel_rfl) (by simp) ?_
      refine AllReadyH.cons (o := ?oo1017) ?hi1017 (fun K hK => ?hs1017) ?hm1017
      case hi1017 => (simp only [List.getElem?_toArray, List.getElem?_cons_succ, List.getElem?_cons_zero]; rfl)
      go_simp
      refine hK.out _ _ ?_ (fun hHeld => ?_)
      · (try dsimp only); (first | (with_reducible exact HK0.out) | (with_reducible exact HK1.out) | (with_reducible exact HK6.out) | (with_reducible exact HK7.out) | (exact HK1a.out) | (exact HK1.out) | go_keep | fail)
      clear hK K
      try simp only [Act.put, List.setIfInBounds_toArray, List.set_cons_zero, List.set_cons_succ]
      refine wpAnyH_done (by kernel_rfl) ?_ _
      rotate_left
      exact AllReadyH.nil
      exact AllReadyH.nil
      exact AllReadyH.nil
      exact AllReadyH.nil
      all_goals
        have hb6 := HB6F.out w6 HG6.out
        have hRl := HBASE.out.2
        have hsz5 := HBASE.out.1
        obtain ⟨w7, hw7⟩ : ∃ X, w6.setCell ⟨R, 1, none⟩ (.slice A6 (nb + 1) c6) = X := ⟨_, rfl⟩
        rw [hw7]
        have hfr7 : Fr R (w.heap.size + 5) W.drew w7 := by
          rw [← hw7]
          refine ((HFR.out.trans (Fr.drew w2)).trans ?_).trans (Fr.of_set hb6.1)
          exact Fr.of_grown (W := w2.drew) HG6.out HBS.out (fun k e => by obtain ⟨q1, q2, q3⟩ := own_cells HOW.out.1 k e; exact ⟨q1, _, _, _, q3⟩)
        have hgo : ∀ (k : Nat) (o : Obj), k < w.heap.size + 5 → k ≠ R → w2.heap[k]? = some o → w7.heap[k]? = some o := fun k o hk hk2 ho => by
          rw [← hw7]
          exact block_other _ (HGB.out w6 HG6.out k o hk ho) hk2
        have hg0 := hgo _ _ (by omega) (by omega) HE123.out.2.1
        have hg1 := hgo _ _ (by omega) (by omega) HE123.out.2.2.1
        have hg2 := hgo _ _ (by omega) (by omega) HE123.out.2.2.2.1
        have hg3 := hgo _ _ (by omega) (by omega) HE123.out.2.2.2.2
        have hgR : w7.heap[R]? = some (.cells #[.int .i64 (T : Int), .slice A6 (nb + 1) c6, vh, vr] 89 (0, 0)) := by
          rw [← hw7]
          exact set_of hb6.1 _
        have ho6 : w7.ownsRow (w.heap.size + 5) 3 1 (.slice A6 (nb + 1) c6) (nb + 1) (natV bs ++ [.int .i64 (off : Int)]) := by
          rw [← hw7]
          exact own_set HO6.out (by omega)
        have hoh : w7.ownsRow (w.heap.size + 5) 3 1 vh (hs' ++ [r3]).length (intV (hs' ++ [r3])) := by
          rw [← hw7]
          exact own_set (own_grown HOW.out.2.1 HG6.out (fun k e e2 => HD.out k e2 e)) (by omega)
        have hor : w7.ownsRow (w.heap.size + 5) 9 1 vr (rs ++ [r4]).length (strsV (rs ++ [r4])) := by
          rw [← hw7]
          exact own_set (own_grown HOW.out.2.2 HG6.out (fun k e e2 => own_types HOW.out.1 HOW.out.2.2 (by decide) k e2 e)) (by omega)
        have hdd : ∀ k, (Value.slice A6 (nb + 1) c6).ownBlock = some k → vh.ownBlock ≠ some k := fun k e e2 => by
          rcases HL6.out with h | ⟨k2, h, hk2⟩
          · rw [h] at e; exact HD.out k e e2
          · rw [h] at e
            have h5 := (own_low HOW.out.2.1 k e2).2
            cases e
            omega
        have c3 := cell_of (i := 0) (v := .int .i64 (off : Int)) hg3 rfl
        have f3 := frozen_of (i := 0) hg3
        have hle7 : w.heap.size + 5 ≤ w7.heap.size := by
          rw [← hw7, setCell_sz]
          exact Nat.le_trans HBS.out HG6.out.size
        have HLE7 := Lib.hid hle7
        have H7 := Lib.hid (And.intro hfr7 (And.intro hg0 (And.intro hg1 (And.intro hg2 (And.intro hg3 (And.intro hgR (And.intro ho6 (And.intro hoh (And.intro hor hdd)))))))))
        clear hb6 hw7 hfr7 hgo hg0 hg1 hg2 hg3 hgR ho6 hoh hor hdd hle7 g0 g1 c1 c1' c1a c1b
        gi_wp2
        obtain ⟨hfr7, hg0, hg1, hg2, hg3, hgR, ho6, hoh, hor, hdd⟩ := H7.out
        have hB7 : Below 0 W w7 := ⟨hfr7.b.os, hfr7.b.tape, hfr7.b.output, hfr7.b.size, fun k hk => absurd hk (by omega)⟩
        refine ⟨⟨by rw [setCell_sz]; exact hfr7.b.size, fun k o hk1 hk2 hk3 => ?_⟩, ⟨?_, by rw [setCell_sz]; exact hfr7.b.size⟩, by rw [HSN2.out], ?_, (HH.out.1.trans hB7).setCell (p := ⟨w.heap.size + 3, 0, none⟩) (Nat.zero_le _) _, fun k hk hk2 => ?_, ?_, ?_, ?_, ?_⟩
        · rw [Below.heap_setCell _ ⟨w.heap.size + 3, 0, none⟩ _ k (by show k ≠ w.heap.size + 3; omega)]
          exact hfr7.nc k o hk2 hk3
        · rw [Below.heap_setCell _ ⟨w.heap.size + 3, 0, none⟩ _ (w.heap.size + 4) (by show w.heap.size + 4 ≠ w.heap.size + 3; omega)]
          exact hfr7.lo _ (by omega) (by omega)
        · rw [HSN2.out]
          refine ⟨⟨.slice A6 (nb + 1) c6, vh, vr, block_other _ hgR (by omega), ?_, own_set hoh (by omega), own_set hor (by omega), hdd⟩, by omega, by rw [setCell_sz]; exact HLE7.out⟩
          have h1 := own_set (i := 0) (u := .int .i64 ((off : Int) + (XB.size : Int))) (R := w.heap.size + 3) ho6 (by omega)
          rw [List.length_append, HNBL.out, natV_app]
          exact h1
        · rw [Below.heap_setCell _ ⟨w.heap.size + 3, 0, none⟩ _ k (by show k ≠ w.heap.size + 3; omega)]
          exact (hfr7.lo k (by omega) hk2).trans (HH.out.2.1 k hk hk2)
        · exact block_other _ hg0 (by omega)
        · exact block_other _ hg1 (by omega)
        · exact block_other _ hg2 (by omega)
        · rw [HSN2.out, ← HXS.out.1]
          have h1 := set_of (i := 0) hg3 (.int .i64 ((off : Int) + (XB.size : Int)))
          have e : (((off + XB.size : Nat) : Nat) : Int) = (off : Int) + (XB.size : Int) := by omega
          simp only [e]
          exact h1
    · have hsn2 := HSN.out
      rw [if_neg hr2] at hsn2
      have HSN2 := Lib.hid hsn2
      have hb := HLB.out
      have hof := HXS.out.2
      rw [← HOK.out.off] at hof
      simp only at hof
      have htl := HTL.out
      have hsl := HSL.out
      have e1 : w2.heap[w.heap.size + 1]? = some (.cells #[.int .i64 0] 3 (0, 0)) := (HLOW.out w2 HFR.out _ (by omega) (by omega)).trans HH.out.2.2.2.1
      have e2 : w2.heap[w.heap.size + 2]? = some (.cells #[.int .i64 0] 36 (0, 0)) := (HLOW.out w2 HFR.out _ (by omega) (by omega)).trans HH.out.2.2.2.2.1
      have e3 : w2.heap[w.heap.size + 3]? = some (.cells #[.int .i64 (off : Int)] 3 (0, 0)) := (HLOW.out w2 HFR.out _ (by omega) (by omega)).trans HH.out.2.2.2.2.2
      have c1 := cell_of (i := 0) (v := .int .i64 0) e1 rfl
      have c2 := cell_of (i := 0) (v := .int .i64 0) e2 rfl
      have c3 := cell_of (i := 0) (v := .int .i64 (off : Int)) e3 rfl
      have f1 := frozen_of (i := 0) e1
      have f2 := frozen_of (i := 0) e2
      have hrb : (r2 != 0) = true := by simp [hr2]
      have hrb2 : (r2 == 0) = false := by simp [hr2]
      have hwa : IntKind.i64.wrap ((off : Int) + r1) = (off : Int) + r1 := by rw [IntKind.wrap_i64]; omega
      have HE1 := Lib.hid e1
      have HE2 := Lib.hid e2
      clear hsn2 e1 e2 e3 hb hof htl hsl
      gi_wp2
      have hne1 : w.heap.size + 1 ≠ w.heap.size + 2 := by omega
      have hx1 : ((w2.setCell ⟨w.heap.size + 1, 0, none⟩ (.int .i64 ((off : Int) + r1))).setCell ⟨w.heap.size + 2, 0, none⟩ (.int .i64 r2)).heap[w.heap.size + 1]? = some (.cells #[.int .i64 ((off : Int) + r1)] 3 (0, 0)) := block_other _ (set_of HE1.out _) hne1
      have hx2 : ((w2.setCell ⟨w.heap.size + 1, 0, none⟩ (.int .i64 ((off : Int) + r1))).setCell ⟨w.heap.size + 2, 0, none⟩ (.int .i64 r2)).heap[w.heap.size + 2]? = some (.cells #[.int .i64 r2] 36 (0, 0)) := set_of (block_other _ HE2.out (fun e => hne1 e.symm)) _
      have hfr := HFR.out
      refine ⟨⟨by simp only [setCell_sz]; exact hfr.b.size, fun k o hk1 hk2 hk3 => ?_⟩, ⟨_, _, by rw [HSN2.out], rfl, hx1, hx2⟩, ?_, fun k hk hk2 => ?_⟩
      · have hsz5 := HBASE.out.1
        rw [Below.heap_setCell _ ⟨w.heap.size + 2, 0, none⟩ _ k (by show k ≠ w.heap.size + 2; omega), Below.heap_setCell _ ⟨w.heap.size + 1, 0, none⟩ _ k (by show k ≠ w.heap.size + 1; omega)]
        exact hfr.nc k o hk2 hk3
      · have h1 : Below 0 W w2 := ⟨hfr.b.os, hfr.b.tape, hfr.b.output, hfr.b.size, fun k hk => absurd hk (by omega)⟩
        exact ((HH.out.1.trans h1).setCell (p := ⟨w.heap.size + 1, 0, none⟩) (Nat.zero_le _) _).setCell (p := ⟨w.heap.size + 2, 0, none⟩) (Nat.zero_le _) _
      · rw [Below.heap_setCell _ ⟨w.heap.size + 2, 0, none⟩ _ k (by show k ≠ w.heap.size + 2; omega), Below.heap_setCell _ ⟨w.heap.size + 1, 0, none⟩ _ k (by show k ≠ w.heap.size + 1; omega)]
        exact (hfr.lo k (by omega) hk2).trans (HH.out.2.1 k hk hk2)
  case done =>
    rintro D xs W hD hx ⟨h1, h2, h3, h4, h5, h6, h7, h8⟩ hK
    have hok := rd_ok T xs h1
    subst hx
    obtain ⟨⟨er, off, bs, hs', rs⟩, hst⟩ : ∃ st, rd T (linesL s.data.toList) = st := ⟨_, rfl⟩
    obtain ⟨⟨t1, t2⟩, htx⟩ : ∃ r, textE T s.data.toList = r := ⟨_, rfl⟩
    have HTX0 := Lib.hid htx
    have HST := Lib.hid hst
    unfold textE at htx
    rw [hst] at h1 h2 h8 hok htx
    simp only at h1 h2 h8 htx
    subst h1
    simp only at htx
    obtain ⟨⟨vb, vh, vr, hblk, ob, oh, orr, hd⟩, hlt, hle⟩ := id h2
    obtain ⟨Ab, cb, rfl, hcb⟩ := own_form ob
    obtain ⟨Ah, ch, rfl, hch⟩ := own_form oh
    have HRD := Lib.hid h2
    have hle2 := hok.le
    have hlb := hok.lb.trans hok.len.symm
    have hob := hok.ob
    have hof := hok.off
    rw [lines_flat] at hof
    simp only at hle2 hlb hob hof
    rw [hlb] at ob hblk
    have hbd : ∀ b ∈ bs, b ≤ 1048576 := fun b hb => by have := hob b hb; omega
    obtain ⟨nh, hnh⟩ : ∃ n, hs'.length = n := ⟨_, rfl⟩
    rw [hnh] at hblk oh hle2 htx hlb ob hch
    have c0 := cell_of (i := 0) (v := .pointer (some ⟨R, 0, none⟩)) h5 rfl
    have r0 : W.cell? ⟨R, 0, none⟩ = some (.int .i64 (T : Int)) := cell_of hblk rfl
    have r2 : W.cell? ⟨R, 2, none⟩ = some (.slice Ah nh ch) := cell_of hblk rfl
    have HH := Lib.hid (And.intro h3 (And.intro h4 (And.intro h5 (And.intro h6 (And.intro h7 h8)))))
    have HBLK := Lib.hid hblk
    have HK := Lib.hid (And.intro hD hK)
    have HTX := Lib.hid htx
    have HOW := Lib.hid (And.intro ob oh)
    have HLE := Lib.hid (And.intro hle hlt)
    have HNH := Lib.hid (And.intro hnh hlb)
    have HBD := Lib.hid hbd
    have HBASE := Lib.hid (And.intro hsz hRl)
    clear htx hst hok hblk ob oh orr hd hlt hle h2 h3 h4 h5 h6 h7 h8 hK hD hcb hnh hlb hob hof hbd b0 b1 b2 b3 b4 b4' hB0 hslen hE hER hR hRl hsz
    by_cases hlt : nh < T
    · have htx := HTX.out
      rw [if_pos hlt] at htx
      have HT2 := Lib.hid htx
      have e9 : (nh : Int) < (T : Int) := by omega
      clear htx hlt
      gi_wp2
      refine wpIn_wide.2 ?_
      go_quiet (fail)
      obtain ⟨w3, hw3⟩ : ∃ X, W.drewN nq = X := ⟨_, rfl⟩
      rw [hw3]
      have g1 : w3.heap[w.heap.size + 1]? = some (.cells #[.int .i64 0] 3 (0, 0)) := by rw [← hw3]; exact HH.out.2.2.2.1
      have g2 : w3.heap[w.heap.size + 2]? = some (.cells #[.int .i64 0] 36 (0, 0)) := by rw [← hw3]; exact HH.out.2.2.2.2.1
      have c1 := cell_of (i := 0) (v := .int .i64 0) g1 rfl
      have c2 := cell_of (i := 0) (v := .int .i64 0) g2 rfl
      have f1 := frozen_of (i := 0) g1
      have f2 := frozen_of (i := 0) g2
      have HW3 := Lib.hid hw3
      have HG := Lib.hid (And.intro g1 g2)
      clear hw3 g1 g2 c0 r0 r2
      gi_wp2
      obtain ⟨rfl, rfl⟩ : t1 = (s.size : Int) ∧ t2 = 15 := by
        have := HT2.out
        rw [← Lib.size_eq] at this
        cases this
        exact ⟨rfl, rfl⟩
      have hb5 := HBASE.out
      have hDD := HK.out.1
      obtain ⟨t1, ht1⟩ : ∃ t, (s.size : Int) = t := ⟨_, rfl⟩
      obtain ⟨t2, ht2⟩ : ∃ t : Int, (15 : Int) = t := ⟨_, rfl⟩
      have k1 : ((w3.setCell ⟨w.heap.size + 1, 0, none⟩ (.int .i64 (s.size : Int))).setCell ⟨w.heap.size + 1 + 1, 0, none⟩ (.int .i64 15)).heap[w.heap.size + 1]? = some (.cells #[.int .i64 t1] 3 (0, 0)) := by rw [← ht1]; exact block_other _ (set_of HG.out.1 _) (by omega)
      have k2 : ((w3.setCell ⟨w.heap.size + 1, 0, none⟩ (.int .i64 (s.size : Int))).setCell ⟨w.heap.size + 1 + 1, 0, none⟩ (.int .i64 15)).heap[w.heap.size + 2]? = some (.cells #[.int .i64 t2] 36 (0, 0)) := by rw [← ht2]; exact set_of (block_other _ HG.out.2 (by omega)) _
      have kD : ((w3.setCell ⟨w.heap.size + 1, 0, none⟩ (.int .i64 (s.size : Int))).setCell ⟨w.heap.size + 1 + 1, 0, none⟩ (.int .i64 15)).heap[D]? = some (.deferred (some [])) := block_other _ (block_other _ (by rw [← HW3.out]; exact HK.out.2) (by omega)) (by omega)
      have kb : Below 0 w ((w3.setCell ⟨w.heap.size + 1, 0, none⟩ (.int .i64 (s.size : Int))).setCell ⟨w.heap.size + 1 + 1, 0, none⟩ (.int .i64 15)) := by
        have h1 : Below 0 w w3 := by rw [← HW3.out]; exact below_drewN HH.out.1 _
        exact (h1.setCell (p := ⟨w.heap.size + 1, 0, none⟩) (Nat.zero_le _) _).setCell (p := ⟨w.heap.size + 1 + 1, 0, none⟩) (Nat.zero_le _) _
      have kl : ∀ k, k < w.heap.size → k ≠ R → ((w3.setCell ⟨w.heap.size + 1, 0, none⟩ (.int .i64 (s.size : Int))).setCell ⟨w.heap.size + 1 + 1, 0, none⟩ (.int .i64 15)).heap[k]? = w.heap[k]? := fun k hk hk2 => by
        rw [Below.heap_setCell _ ⟨w.heap.size + 1 + 1, 0, none⟩ _ k (by show k ≠ w.heap.size + 1 + 1; omega), Below.heap_setCell _ ⟨w.heap.size + 1, 0, none⟩ _ k (by show k ≠ w.heap.size + 1; omega), ← HW3.out]
        exact HH.out.2.1 k hk hk2
      obtain ⟨Wf, hWf⟩ : ∃ X, (w3.setCell ⟨w.heap.size + 1, 0, none⟩ (.int .i64 (s.size : Int))).setCell ⟨w.heap.size + 1 + 1, 0, none⟩ (.int .i64 15) = X := ⟨_, rfl⟩
      rw [hWf] at k1 k2 kD kb kl ⊢
      have kr : t2 = 0 → RdAt Wf R (w.heap.size + 5) T (rd T (linesL s.data.toList)).bs (rd T (linesL s.data.toList)).hs (rd T (linesL s.data.toList)).rs := fun h => by omega
      replace HTX0 := Lib.hid (show textE T s.data.toList = (t1, t2) by rw [← ht1, ← ht2]; exact HTX0.out)
      clear hWf c1 c2 f1 f2
      refine ⟨by simp, .inl ⟨_, _, rfl, run_takeDeferred kD, ?_⟩⟩
      have q1 := cell_of (i := 0) (v := .int .i64 t1) ((World.putObj_heap_other (o := .deferred none) (show w.heap.size + 1 ≠ D by omega)).trans k1) rfl
      have q2 := cell_of (i := 0) (v := .int .i64 t2) ((World.putObj_heap_other (o := .deferred none) (show w.heap.size + 2 ≠ D by omega)).trans k2) rfl
      refine ⟨.tuple #[.int .i64 t1, .int .i64 t2], ?_, by rw [HTX0.out], ?_, fun k hk hk2 => ?_, fun hz => ?_⟩
      · simp [results, Tryz.f45, go_sem, q1, q2]
      · exact kb.trans ⟨rfl, rfl, rfl, by simp, fun k hk => absurd hk (by omega)⟩
      · exact (World.putObj_heap_other (by omega)).trans (kl k hk hk2)
      · rw [HTX0.out] at hz
        exact (kr hz).kept (Bv := w.heap.size + 4) (B := w.heap.size + 5) (grownBy_putObj' Wf D _) (fun r e => by cases e; exact .inr ⟨by omega, _, kD, rfl⟩) (by omega) (by omega)
    · have htx := HTX.out
      rw [if_neg hlt] at htx
      have HT2 := Lib.hid htx
      have e9 : ¬ ((nh : Int) < (T : Int)) := by omega
      have hck := fun (W' : World) (hb : Below W.heap.size W W') => check_any (w := W') (h := hs') ((own_rows (base := w.heap.size + 5) (by rw [HNH.out.1]; exact own_after HOW.out.2 hb))) (by rw [HNH.out.1]; unfold maxLen; omega)
      obtain ⟨⟨z1, z2⟩, hz⟩ : ∃ z, checkH hs' = z := ⟨_, rfl⟩
      rw [hz] at hck htx HT2
      simp only at hck htx
      have hzr : 0 ≤ z1 ∧ (z2 ≠ 0 → z1 < (nh : Int)) := by
        have h0 := checkH_range hs'
        rw [hz, HNH.out.1] at h0
        rcases h0 with h0 | h0
        · exact h0
        · omega
      have HCK := Lib.hid hck
      have HZ := Lib.hid hzr
      replace HT2 := Lib.hid htx
      clear htx hlt hck hz hzr
      gi_wp2
      refine wpIn_wide.2 ?_
      go_quiet (fail)
      obtain ⟨w3, hw3⟩ : ∃ X, W.drewN nq = X := ⟨_, rfl⟩
      rw [hw3]
      have hbW3 : Below W.heap.size W w3 := hw3 ▸ below_drewN (Below.refl _ _) nq
      have d0 : w3.cell? ⟨w.heap.size, 0, none⟩ = some (.pointer (some ⟨R, 0, none⟩)) := by rw [← hw3]; exact cell_of (W := W) HH.out.2.2.1 rfl
      have d2 : w3.cell? ⟨R, 2, none⟩ = some (.slice Ah nh ch) := by rw [← hw3]; exact cell_of (W := W) HBLK.out rfl
      have HBW3 := Lib.hid hbW3
      clear hw3 hbW3 c0 r0 r2
      by_cases hz2 : z2 = 0
      · have htx := HT2.out
        rw [if_pos hz2] at htx
        obtain ⟨rfl, rfl⟩ : t1 = 0 ∧ t2 = 0 := by
          cases htx
          exact ⟨rfl, rfl⟩
        have hzb : (z2 != 0) = false := by simp [hz2]
        clear htx hz2
        gi_wp2_with (
          refine ⟨trivial, ?_⟩
          gi_at_call 9
          refine (callsIn_wide.2 (HCK.out _ HBW3.out)).mono ?_
          rintro e w4 ⟨rfl, hb4⟩
          have hb44 := HBW3.out.trans (hb4.mono HBW3.out.size)
          have g0 := block_below HH.out.2.2.1 hb44 (Array.getElem?_eq_some_iff.1 HH.out.2.2.1).1
          have g1 := block_below HH.out.2.2.2.1 hb44 (Array.getElem?_eq_some_iff.1 HH.out.2.2.2.1).1
          have g2 := block_below HH.out.2.2.2.2.1 hb44 (Array.getElem?_eq_some_iff.1 HH.out.2.2.2.2.1).1
          have gR := block_below HBLK.out hb44 (Array.getElem?_eq_some_iff.1 HBLK.out).1
          have c0 := cell_of (i := 0) (v := .pointer (some ⟨R, 0, none⟩)) g0 rfl
          have c1 := cell_of (i := 0) (v := .int .i64 0) g1 rfl
          have c2 := cell_of (i := 0) (v := .int .i64 0) g2 rfl
          have f1 := frozen_of (i := 0) g1
          have f2 := frozen_of (i := 0) g2
          have cb1 : w4.cell? ⟨R, 1, none⟩ = some (.slice Ab nh cb) := cell_of gR rfl
          have HB4 := Lib.hid hb44
          have HG := Lib.hid (And.intro g1 g2)
          clear hb4 hb44 g0 g1 g2 gR d0 d2)
        have hb5 := HBASE.out
        have hDD := HK.out.1
        obtain ⟨t1, ht1⟩ : ∃ t : Int, ((0 : Int)) = t := ⟨_, rfl⟩
        obtain ⟨t2, ht2⟩ : ∃ t : Int, ((0 : Int)) = t := ⟨_, rfl⟩
        have k1 : ((w4.setCell ⟨w.heap.size + 1, 0, none⟩ (.int .i64 ((0 : Int)))).setCell ⟨w.heap.size + 1 + 1, 0, none⟩ (.int .i64 ((0 : Int)))).heap[w.heap.size + 1]? = some (.cells #[.int .i64 t1] 3 (0, 0)) := by rw [← ht1]; exact block_other _ (set_of HG.out.1 _) (by omega)
        have k2 : ((w4.setCell ⟨w.heap.size + 1, 0, none⟩ (.int .i64 ((0 : Int)))).setCell ⟨w.heap.size + 1 + 1, 0, none⟩ (.int .i64 ((0 : Int)))).heap[w.heap.size + 2]? = some (.cells #[.int .i64 t2] 36 (0, 0)) := by rw [← ht2]; exact set_of (block_other _ HG.out.2 (by omega)) _
        have kD : ((w4.setCell ⟨w.heap.size + 1, 0, none⟩ (.int .i64 ((0 : Int)))).setCell ⟨w.heap.size + 1 + 1, 0, none⟩ (.int .i64 ((0 : Int)))).heap[D]? = some (.deferred (some [])) := block_other _ (block_other _ ((HB4.out.block D (Array.getElem?_eq_some_iff.1 HK.out.2).1).trans HK.out.2) (by omega)) (by omega)
        have kb : Below 0 w ((w4.setCell ⟨w.heap.size + 1, 0, none⟩ (.int .i64 ((0 : Int)))).setCell ⟨w.heap.size + 1 + 1, 0, none⟩ (.int .i64 ((0 : Int)))) := by
          have h1 : Below 0 w w4 := HH.out.1.trans (HB4.out.mono (Nat.zero_le _))
          exact (h1.setCell (p := ⟨w.heap.size + 1, 0, none⟩) (Nat.zero_le _) _).setCell (p := ⟨w.heap.size + 1 + 1, 0, none⟩) (Nat.zero_le _) _
        have hWl := HH.out.1.size
        have kl : ∀ k, k < w.heap.size → k ≠ R → ((w4.setCell ⟨w.heap.size + 1, 0, none⟩ (.int .i64 ((0 : Int)))).setCell ⟨w.heap.size + 1 + 1, 0, none⟩ (.int .i64 ((0 : Int)))).heap[k]? = w.heap[k]? := fun k hk hk2 => by
          rw [Below.heap_setCell _ ⟨w.heap.size + 1 + 1, 0, none⟩ _ k (by show k ≠ w.heap.size + 1 + 1; omega), Below.heap_setCell _ ⟨w.heap.size + 1, 0, none⟩ _ k (by show k ≠ w.heap.size + 1; omega)]
          exact (HB4.out.block k (by omega)).trans (HH.out.2.1 k hk hk2)
        have kr : t2 = 0 → RdAt ((w4.setCell ⟨w.heap.size + 1, 0, none⟩ (.int .i64 ((0 : Int)))).setCell ⟨w.heap.size + 1 + 1, 0, none⟩ (.int .i64 ((0 : Int)))) R (w.heap.size + 5) T (rd T (linesL s.data.toList)).bs (rd T (linesL s.data.toList)).hs (rd T (linesL s.data.toList)).rs := fun _ => by
          rw [HST.out]
          exact ((HRD.out.below HB4.out).other (by omega) (by omega)).other (by omega) (by omega)
        obtain ⟨Wf, hWf⟩ : ∃ X, ((w4.setCell ⟨w.heap.size + 1, 0, none⟩ (.int .i64 ((0 : Int)))).setCell ⟨w.heap.size + 1 + 1, 0, none⟩ (.int .i64 ((0 : Int)))) = X := ⟨_, rfl⟩
        rw [hWf] at k1 k2 kD kb kl kr ⊢
        replace HTX0 := Lib.hid (show textE T s.data.toList = (t1, t2) by rw [← ht1, ← ht2]; exact HTX0.out)
        clear hWf c1 c2 f1 f2 c0 cb1
        refine ⟨by simp, .inl ⟨_, _, rfl, run_takeDeferred kD, ?_⟩⟩
        have q1 := cell_of (i := 0) (v := .int .i64 t1) ((World.putObj_heap_other (o := .deferred none) (show w.heap.size + 1 ≠ D by omega)).trans k1) rfl
        have q2 := cell_of (i := 0) (v := .int .i64 t2) ((World.putObj_heap_other (o := .deferred none) (show w.heap.size + 2 ≠ D by omega)).trans k2) rfl
        refine ⟨.tuple #[.int .i64 t1, .int .i64 t2], ?_, by rw [HTX0.out], ?_, fun k hk hk2 => ?_, fun hz => ?_⟩
        · simp [results, Tryz.f45, go_sem, q1, q2]
        · exact kb.trans ⟨rfl, rfl, rfl, by simp, fun k hk => absurd hk (by omega)⟩
        · exact (World.putObj_heap_other (by omega)).trans (kl k hk hk2)
        · rw [HTX0.out] at hz
          exact (kr hz).kept (Bv := w.heap.size + 4) (B := w.heap.size + 5) (grownBy_putObj' Wf D _) (fun r e => by cases e; exact .inr ⟨by omega, _, kD, rfl⟩) (by omega) (by omega)
      · have htx := HT2.out
        rw [if_neg hz2] at htx
        obtain ⟨zn, rfl⟩ : ∃ n : Nat, z1 = (n : Int) := ⟨z1.toNat, by have := HZ.out.1; omega⟩
        have hzn := HZ.out.2 hz2
        rw [Int.toNat_natCast] at htx
        obtain ⟨bv, hbv⟩ : ∃ b, bs.getD zn 0 = b := ⟨_, rfl⟩
        rw [hbv] at htx
        obtain ⟨hv1, hv2⟩ : t1 = (bv : Int) ∧ t2 = z2 := by
          injection htx with h1 h2
          exact ⟨h1.symm, h2.symm⟩
        rw [hv1, hv2] at HTX0
        clear hv1 hv2
        have hzb : (z2 != 0) = true := by simp [hz2]
        have hbg : (intsN bs)[zn]? = some (bv : Int) := by
          refine intsN_get ?_
          have hl : zn < bs.length := by rw [HNH.out.2]; omega
          rw [List.getElem?_eq_getElem hl, ← hbv, List.getD_eq_getElem?_getD, List.getElem?_eq_getElem hl]
          rfl
        have hro := fun (W' : World) (hb : Below W.heap.size W W') => at_int (own_rowsN HNH.out.2 (own_after HOW.out.1 hb)) (by rw [intsN_len, HNH.out.2]; omega)
        have HRO := Lib.hid hro
        have HBG := Lib.hid hbg
        have HZ2 := Lib.hid hz2
        obtain ⟨bb, ob, hAb, _, _⟩ := hro W (Below.refl _ _)
        subst hAb
        clear htx hz2 hbv hbg hro
        gi_wp2_with (
          refine ⟨trivial, ?_⟩
          gi_at_call 9
          refine (callsIn_wide.2 (HCK.out _ HBW3.out)).mono ?_
          rintro e w4 ⟨rfl, hb4⟩
          have hb44 := HBW3.out.trans (hb4.mono HBW3.out.size)
          have g0 := block_below HH.out.2.2.1 hb44 (Array.getElem?_eq_some_iff.1 HH.out.2.2.1).1
          have g1 := block_below HH.out.2.2.2.1 hb44 (Array.getElem?_eq_some_iff.1 HH.out.2.2.2.1).1
          have g2 := block_below HH.out.2.2.2.2.1 hb44 (Array.getElem?_eq_some_iff.1 HH.out.2.2.2.2.1).1
          have gR := block_below HBLK.out hb44 (Array.getElem?_eq_some_iff.1 HBLK.out).1
          have c0 := cell_of (i := 0) (v := .pointer (some ⟨R, 0, none⟩)) g0 rfl
          have c1 := cell_of (i := 0) (v := .int .i64 0) g1 rfl
          have c2 := cell_of (i := 0) (v := .int .i64 0) g2 rfl
          have f1 := frozen_of (i := 0) g1
          have f2 := frozen_of (i := 0) g2
          have cb1 : w4.cell? ⟨R, 1, none⟩ = some (.slice (some ⟨bb, ob, none⟩) nh cb) := cell_of gR rfl
          obtain ⟨bb', ob', hA', _, hcl⟩ := HRO.out w4 hb44
          cases hA'
          have cz := hcl zn _ HBG.out
          have HB4 := Lib.hid hb44
          have HG := Lib.hid (And.intro g1 g2)
          clear hcl hb4 hb44 g0 g1 g2 gR d0 d2)
        have hb5 := HBASE.out
        have hDD := HK.out.1
        obtain ⟨t1, ht1⟩ : ∃ t : Int, ((bv : Int)) = t := ⟨_, rfl⟩
        obtain ⟨t2, ht2⟩ : ∃ t : Int, (z2) = t := ⟨_, rfl⟩
        have k1 : ((w4.setCell ⟨w.heap.size + 1, 0, none⟩ (.int .i64 ((bv : Int)))).setCell ⟨w.heap.size + 1 + 1, 0, none⟩ (.int .i64 (z2))).heap[w.heap.size + 1]? = some (.cells #[.int .i64 t1] 3 (0, 0)) := by rw [← ht1]; exact block_other _ (set_of HG.out.1 _) (by omega)
        have k2 : ((w4.setCell ⟨w.heap.size + 1, 0, none⟩ (.int .i64 ((bv : Int)))).setCell ⟨w.heap.size + 1 + 1, 0, none⟩ (.int .i64 (z2))).heap[w.heap.size + 2]? = some (.cells #[.int .i64 t2] 36 (0, 0)) := by rw [← ht2]; exact set_of (block_other _ HG.out.2 (by omega)) _
        have kD : ((w4.setCell ⟨w.heap.size + 1, 0, none⟩ (.int .i64 ((bv : Int)))).setCell ⟨w.heap.size + 1 + 1, 0, none⟩ (.int .i64 (z2))).heap[D]? = some (.deferred (some [])) := block_other _ (block_other _ ((HB4.out.block D (Array.getElem?_eq_some_iff.1 HK.out.2).1).trans HK.out.2) (by omega)) (by omega)
        have kb : Below 0 w ((w4.setCell ⟨w.heap.size + 1, 0, none⟩ (.int .i64 ((bv : Int)))).setCell ⟨w.heap.size + 1 + 1, 0, none⟩ (.int .i64 (z2))) := by
          have h1 : Below 0 w w4 := HH.out.1.trans (HB4.out.mono (Nat.zero_le _))
          exact (h1.setCell (p := ⟨w.heap.size + 1, 0, none⟩) (Nat.zero_le _) _).setCell (p := ⟨w.heap.size + 1 + 1, 0, none⟩) (Nat.zero_le _) _
        have hWl := HH.out.1.size
        have kl : ∀ k, k < w.heap.size → k ≠ R → ((w4.setCell ⟨w.heap.size + 1, 0, none⟩ (.int .i64 ((bv : Int)))).setCell ⟨w.heap.size + 1 + 1, 0, none⟩ (.int .i64 (z2))).heap[k]? = w.heap[k]? := fun k hk hk2 => by
          rw [Below.heap_setCell _ ⟨w.heap.size + 1 + 1, 0, none⟩ _ k (by show k ≠ w.heap.size + 1 + 1; omega), Below.heap_setCell _ ⟨w.heap.size + 1, 0, none⟩ _ k (by show k ≠ w.heap.size + 1; omega)]
          exact (HB4.out.block k (by omega)).trans (HH.out.2.1 k hk hk2)
        have kr : t2 = 0 → RdAt ((w4.setCell ⟨w.heap.size + 1, 0, none⟩ (.int .i64 ((bv : Int)))).setCell ⟨w.heap.size + 1 + 1, 0, none⟩ (.int .i64 (z2))) R (w.heap.size + 5) T (rd T (linesL s.data.toList)).bs (rd T (linesL s.data.toList)).hs (rd T (linesL s.data.toList)).rs := fun h => absurd (ht2.trans h) HZ2.out
        obtain ⟨Wf, hWf⟩ : ∃ X, ((w4.setCell ⟨w.heap.size + 1, 0, none⟩ (.int .i64 ((bv : Int)))).setCell ⟨w.heap.size + 1 + 1, 0, none⟩ (.int .i64 (z2))) = X := ⟨_, rfl⟩
        rw [hWf] at k1 k2 kD kb kl kr ⊢
        replace HTX0 := Lib.hid (show textE T s.data.toList = (t1, t2) by rw [← ht1, ← ht2]; exact HTX0.out)
        clear hWf c1 c2 f1 f2 c0 cb1
        refine ⟨by simp, .inl ⟨_, _, rfl, run_takeDeferred kD, ?_⟩⟩
        have q1 := cell_of (i := 0) (v := .int .i64 t1) ((World.putObj_heap_other (o := .deferred none) (show w.heap.size + 1 ≠ D by omega)).trans k1) rfl
        have q2 := cell_of (i := 0) (v := .int .i64 t2) ((World.putObj_heap_other (o := .deferred none) (show w.heap.size + 2 ≠ D by omega)).trans k2) rfl
        refine ⟨.tuple #[.int .i64 t1, .int .i64 t2], ?_, by rw [HTX0.out], ?_, fun k hk hk2 => ?_, fun hz => ?_⟩
        · simp [results, Tryz.f45, go_sem, q1, q2]
        · exact kb.trans ⟨rfl, rfl, rfl, by simp, fun k hk => absurd hk (by omega)⟩
        · exact (World.putObj_heap_other (by omega)).trans (kl k hk hk2)
        · rw [HTX0.out] at hz
          exact (kr hz).kept (Bv := w.heap.size + 4) (B := w.heap.size + 5) (grownBy_putObj' Wf D _) (fun r e => by cases e; exact .inr ⟨by omega, _, kD, rfl⟩) (by omega) (by omega)
  case stop =>
    rintro D c pre W hD hpre ⟨⟨e1, e2, h1, rfl, h3, h4⟩, h5, h6⟩ hK
    obtain ⟨r, hr⟩ := hpre
    have hst := rd_stuck T pre h1 r
    rw [hr] at hst
    have htx : textE T s.data.toList = (e1, e2) := by
      unfold textE
      rw [hst, h1]
    have he2 : e2 ≠ 0 := rd_err T pre h1
    have hb5 : 0 < 1 := by decide
    refine (?_ : Code.ret.wpIn _ _ _ _ _ _)
    gi_wp2
    refine ⟨by simp, .inl ⟨_, _, rfl, run_takeDeferred hK, ?_⟩⟩
    have q1 := cell_of (i := 0) (v := .int .i64 e1) ((World.putObj_heap_other (o := .deferred none) (show w.heap.size + 1 ≠ D by omega)).trans h3) rfl
    have q2 := cell_of (i := 0) (v := .int .i64 e2) ((World.putObj_heap_other (o := .deferred none) (show w.heap.size + 2 ≠ D by omega)).trans h4) rfl
    refine ⟨.tuple #[.int .i64 e1, .int .i64 e2], ?_, by rw [htx], ?_, fun k hk hk2 => ?_, fun hz => ?_⟩
    · simp [results, Tryz.f45, go_sem, q1, q2]
    · exact h5.trans ⟨rfl, rfl, rfl, by simp, fun k hk => absurd hk (by omega)⟩
    · exact (World.putObj_heap_other (by omega)).trans (h6 k hk hk2)
    · rw [htx] at hz
      exact absurd hz he2
end Go.Proofs.YtmjmidgfdjcbfaaGreatDoor.Dep
