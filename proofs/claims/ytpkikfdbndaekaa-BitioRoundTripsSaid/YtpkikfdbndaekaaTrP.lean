/-
  BitioRoundTrips is proved: for every slice of calls the call of the law returns true, and each argument reads afterwards as it read before. It has no condition.
-/
import Derived.Test.YtpkikfdbndaekaaRows
import Derived.Test.YtpkikfdbndaekaaBjG
import Derived.Test.YtpkikfdbndaekaaBiU
import Derived.Test.YtpkikfdbndaekaaBiE
import Derived.ProofKit
import Derived.OpenShut
import Derived.Carry
namespace Go.Proofs.Ytpkikfdbndaekaa.bitioRoundTrips
open Go.ChangeShapes Go.WideShapes Go.ChangeAt Go.RowKit Go.Shelf Go.Lib
set_option linter.unusedVariables false

theorem wrL_una (c : CallL) (h : c.kind = 1) (bs : List Bool) (hw : wrL c = some bs) : 0 ≤ c.n ∧ c.n ≤ 4096 := by
  unfold wrL at hw
  rw [if_neg (by omega), if_pos h] at hw
  split at hw
  · cases hw
  · omega
/-- Between two rounds of the first loop: k calls have been made, those of ds have appended. -/
def Rel1 (w : World) (n : Nat) (v4 i : Value) (wr : World) : Prop :=
  ∃ (k : Nat) (ds : List CallL) (v : Value), k ≤ n ∧ i = .int .i64 k ∧ ds.length ≤ k ∧ (∀ c ∈ ds, okCall c ∧ ∃ bs, wrL c = some bs) ∧ (bitsC ds).length ≤ 4097 * k ∧
    WAt wr w.heap.size w.heap.size v (bitsC ds) ∧ wr.ownsRow w.heap.size 40 3 v4 ds.length (rowC ds) ∧ Below w.heap.size w wr
/-- Between two rounds of the second loop: k of them have been read back. -/
def Rel2 (w : World) (B g : Nat) (v vb v4 : Value) (bs : List UInt8) (size : Nat) (ds : List CallL) (i : Value) (wr : World) : Prop :=
  ∃ k : Nat, k ≤ ds.length ∧ i = .int .i64 k ∧ RAt wr B g vb bs size (bitsC (ds.take k)).length ∧ WAt wr w.heap.size w.heap.size v (bitsC ds) ∧ wr.ownsRow w.heap.size 40 3 v4 ds.length (rowC ds) ∧ Below w.heap.size w wr


set_option maxRecDepth 100000 in
set_option maxHeartbeats 4000000 in
theorem walk (v : Value) (cs : List CallL) {w : World} (hs : SeesK w w.heap.size v cs) (hm : cs.length ≤ maxLen) :
    Calls Try.prog 9 #[v] w fun e w1 => e = .returned (.bool true) ∧ Below w.heap.size w w1 := by
  unfold maxLen at hm
  obtain ⟨A, cap, hv, hcell⟩ := hs
  obtain ⟨n, hn⟩ : ∃ n, cs.length = n := ⟨_, rfl⟩
  rw [hn] at hv hm
  subst hv
  have HN := Lib.hid hn
  have HCELL := Lib.hid hcell
  clear hn hcell
  by_cases h12 : n ≤ 12
  · go_enter Try.func9, Try.ntmps9
    go_wp2_with fail
    refine (newWriter_any _).mono ?_
    rintro e w1 ⟨rfl, rfl⟩
    go_wp2_with fail
    go_loopw [4, 24] (fun v4 i wr => Rel1 w n v4 i wr) (fun _ i _ => n - (intOf i).toNat)
    case atStart => exact ⟨0, [], _, Nat.zero_le _, rfl, Nat.le_refl _, (fun c h => by cases h), Nat.le_refl _, writer_new w, World.ownsRow_nil _ _ _ _, (Below.refl _ w).alloc (Nat.le_refl _) _⟩
    case round =>
      obtain ⟨k, ds, v, hk, rfl, hdl, hall, hl, hat, hrow, hb⟩ := hrel
      have HALL := Lib.hid hall
      clear hall
      by_cases hlt : k < n
      · obtain ⟨b, off, rfl, hbB, hcl⟩ := HCELL.out (by rw [HN.out]; omega)
        have hkl : k < cs.length := by rw [HN.out]; exact hlt
        obtain ⟨hok, g0, g1, g2⟩ := hcl k hkl
        have c0 := (hb.cell (p := ⟨b, off + k * 3, none⟩) hbB).trans g0
        have c1 := (hb.cell (p := ⟨b, off + k * 3 + 1, none⟩) hbB).trans g1
        have c2 := (hb.cell (p := ⟨b, off + k * 3 + 2, none⟩) hbB).trans g2
        obtain ⟨c, hc⟩ : ∃ c, cs[k]'hkl = c := ⟨_, rfl⟩
        rw [hc] at hok c0 c1 c2
        have hat1 := hat.alloc (.cells #[.int .i64 c.kind, .int .u64 c.v, .int .i64 c.n] 40)
        have hbn := block_new wr (.cells #[.int .i64 c.kind, .int .u64 c.v, .int .i64 c.n] 40)
        have hrow1 := own_below hrow (fun q e => Below.heap_alloc wr (.cells #[.int .i64 c.kind, .int .u64 c.v, .int .i64 c.n] 40) q (own_low hrow q e).2)
        have hbb1 : Below w.heap.size w (wr.alloc (.cells #[.int .i64 c.kind, .int .u64 c.v, .int .i64 c.n] 40)) := hb.alloc hb.size _
        have hgw : wr.heap.size ≠ w.heap.size ∧ v.ownBlock ≠ some wr.heap.size := ⟨fun e => by have := hat.lt; omega, fun e => by have := (own_low hat.2.2 _ e).2; omega⟩
        have hszA : (wr.alloc (.cells #[.int .i64 c.kind, .int .u64 c.v, .int .i64 c.n] 40)).heap.size = wr.heap.size + 1 := by simp
        cases hwr : wrL c with
        | none =>
          have hcall := write_err hat1 c hok hwr
          rw [call_apart] at hcall
          have HC := Lib.hid hcall
          have HAT1 := Lib.hid hat1
          have HROW1 := Lib.hid hrow1
          have HB1 := Lib.hid hbb1
          obtain ⟨ck, hck⟩ : ∃ ck, c.kind = ck := ⟨_, rfl⟩
          obtain ⟨cv, hcv⟩ : ∃ cv, c.v = cv := ⟨_, rfl⟩
          obtain ⟨cn, hcn⟩ : ∃ cn, c.n = cn := ⟨_, rfl⟩
          rw [hck, hcv, hcn] at HC HAT1 HROW1 HB1
          rw [hck] at c0
          rw [hcv] at c1
          rw [hcn] at c2
          clear hcall hat hat1 hbn hrow hrow1 hb hbb1 hgw hszA g0 g1 g2 hcl hok hc hwr hck hcv hcn
          go_wp2_with fail
          refine HC.out.mono ?_
          rintro e w2 ⟨rfl, hat2, hs2⟩
          have hrow2 := calls_aside HAT1.out hs2 HROW1.out
          have hbb2 := HB1.out.trans (HAT1.out.below hs2 HB1.out.size)
          have HAT2 := Lib.hid hat2
          have HROW2 := Lib.hid hrow2
          have HB2 := Lib.hid hbb2
          clear hat2 hs2 hrow2 hbb2 c0 c1 c2
          go_wp2_with fail
          go_roundw
          case rel => exact ⟨k + 1, ds, v, by omega, by go_num, by omega, HALL.out, by omega, HAT2.out, HROW2.out, HB2.out⟩
          case measure => simp [intOf]; omega
        | some bs =>
          have hcall := write_ok hat1 hbb1.size c hok bs hwr (by omega)
          rw [call_apart] at hcall
          have hbl := wrL_len c hok bs hwr
          have hall2 : ∀ c' ∈ ds ++ [c], okCall c' ∧ ∃ bs, wrL c' = some bs := by
            intro c' hc'
            rcases List.mem_append.1 hc' with h | h
            · exact HALL.out c' h
            · rw [List.mem_singleton] at h
              subst h
              exact ⟨hok, bs, hwr⟩
          have hbits : bitsC (ds ++ [c]) = bitsC ds ++ bs := by rw [bitsC_snoc, hwr]; rfl
          have hrc : rowC (ds ++ [c]) = rowC ds ++ [.int .i64 c.kind, .int .u64 c.v, .int .i64 c.n] := rowC_snoc ds c
          have HALL2 := Lib.hid hall2
          have HBITS := Lib.hid hbits
          have HRC := Lib.hid hrc
          have HC := Lib.hid hcall
          have HAT1 := Lib.hid hat1
          have HROW1 := Lib.hid hrow1
          have HB1 := Lib.hid hbb1
          have HBN := Lib.hid hbn
          have HSZA := Lib.hid hszA
          obtain ⟨ck, hck⟩ : ∃ ck, c.kind = ck := ⟨_, rfl⟩
          obtain ⟨cv, hcv⟩ : ∃ cv, c.v = cv := ⟨_, rfl⟩
          obtain ⟨cn, hcn⟩ : ∃ cn, c.n = cn := ⟨_, rfl⟩
          rw [hck, hcv, hcn] at HC HAT1 HROW1 HB1 HBN HRC HSZA
          rw [hck] at c0
          rw [hcv] at c1
          rw [hcn] at c2
          obtain ⟨dl, hdll⟩ : ∃ dl, ds.length = dl := ⟨_, rfl⟩
          rw [hdll] at HROW1 hdl
          have HDL := Lib.hid hdll
          clear hcall hat hat1 hbn hrow hrow1 hb hbb1 hszA g0 g1 g2 hcl hok hc hwr hck hcv hcn hall2 hbits hrc hdll
          go_wp2_with fail
          refine HC.out.mono ?_
          rintro e w2 ⟨v2, rfl, hat2, hs2⟩
          have hrow2 := calls_aside HAT1.out hs2 HROW1.out
          have hbb2 := HB1.out.trans (HAT1.out.below hs2 HB1.out.size)
          have hblk := (hs2.block wr.heap.size (by rw [HSZA.out]; omega) hgw.1 hgw.2).trans HBN.out
          have d0 : w2.cell? ⟨wr.heap.size, 0, none⟩ = some (.int .i64 ck) := cell_of (i := 0) hblk rfl
          have d1 : w2.cell? ⟨wr.heap.size, 1, none⟩ = some (.int .u64 cv) := cell_of (i := 1) hblk rfl
          have d2 : w2.cell? ⟨wr.heap.size, 2, none⟩ = some (.int .i64 cn) := cell_of (i := 2) hblk rfl
          have HAT2 := Lib.hid hat2
          have HROW2 := Lib.hid hrow2
          have HB2 := Lib.hid hbb2
          have hsz2 := hbb2.size
          clear hat2 hs2 hrow2 hbb2 hblk c0 c1 c2 hgw
          obtain ⟨i0, hi, hz0, hz1, hz2⟩ := info_parts' Try.infoCall
          go_wp2_with (at_builtin; refine wpList_append_own _ rfl (.tmp 32) (.tmp 34) 35 rfl w.heap.size 40 i0 _ 3 24 Try.underlying35 hi hz0 hz1 hz2 rfl (by decide) _ dl _ rfl (HROW2.out.alloc _) _ 1 1 [.int .i64 ck, .int .u64 cv, .int .i64 cn] rfl rfl (news_at _ [.int .i64 ck, .int .u64 cv, .int .i64 cn] 40) (by simp [Value.oneCell']) (by unfold maxLen; omega) (by omega) (by simp; omega) ?_)
          intro v4' w4 hown4 hgrow4 _
          have hat3 := HAT2.out.alloc (.cells #[.int .i64 ck, .int .u64 cv, .int .i64 cn] 40)
          have hrow3 := own_below HROW2.out (fun q e => Below.heap_alloc w2 (.cells #[.int .i64 ck, .int .u64 cv, .int .i64 cn] 40) q (own_low HROW2.out q e).2)
          have hat4 := writer_calls hat3 hrow3 hgrow4
          have hbb4 := (HB2.out.alloc HB2.out.size _).grown hgrow4 (by have := HB2.out.size; simp; omega) (fun q e => (own_low HROW2.out q e).1)
          rw [← HRC.out] at hown4
          rw [← HBITS.out] at hat4
          have HAT4 := Lib.hid hat4
          have HOWN4 := Lib.hid hown4
          have HB4 := Lib.hid hbb4
          clear hown4 hgrow4 hat3 hrow3 hat4 hbb4 d0 d1 d2
          go_wp2_with fail
          go_roundw
          case rel => exact ⟨k + 1, ds ++ [c], v2, by omega, by go_num, by rw [List.length_append, HDL.out]; simp; omega, HALL2.out, by rw [HBITS.out, List.length_append]; omega, HAT4.out, by rw [List.length_append, HDL.out]; exact HOWN4.out, HB4.out⟩
          case measure => simp [intOf]; omega
      · have hkn : k = n := by omega
        subst hkn
        clear hk hlt
        obtain ⟨A4, cap4, rfl, _⟩ := own_form hrow
        obtain ⟨N, hN⟩ : ∃ N, (bitsC ds).length = N := ⟨_, rfl⟩
        have hby := bytes_any hat (by omega)
        have hpl := pack_len (bitsC ds)
        have htk : (pack (bitsC ds)).take ((N + 7) / 8) = pack (bitsC ds) := List.take_of_length_le (by rw [hpl, hN]; exact Nat.le_refl _)
        have hup := unpack_pack (bitsC ds)
        rw [hN] at hup hpl hl
        obtain ⟨P, hP⟩ : ∃ P, pack (bitsC ds) = P := ⟨_, rfl⟩
        rw [hP] at hby htk hup hpl
        have HN2 := Lib.hid hN
        have HBY := Lib.hid hby
        have HTK := Lib.hid htk
        have HUP := Lib.hid hup
        have HPL := Lib.hid hpl
        have HAT := Lib.hid hat
        have HROW := Lib.hid hrow
        have HB := Lib.hid hb
        have hN5 : N ≤ 49164 := by omega
        clear hN hby htk hup hpl hP hat hrow hb hl
        go_wp2_with fail
        refine HBY.out.mono ?_
        rintro e w5 ⟨v5, rfl, hown5, hb5⟩
        have hat5 := HAT.out.kept hb5
        have hlen5 := len_any hat5
        rw [HN2.out] at hlen5
        have hnr := newReader_any (sees_own hown5) (by rw [HPL.out]; omega) N (by rw [HPL.out]; omega)
        have hrow5 := own_below HROW.out (fun q e => hb5.block q (own_low HROW.out q e).2)
        have HAT5 := Lib.hid hat5
        have HROW5 := Lib.hid hrow5
        have HB5 := Lib.hid (HB.out.trans (hb5.mono HB.out.size))
        have HLEN5 := Lib.hid hlen5
        have HNR := Lib.hid hnr
        clear hown5 hb5 hat5 hlen5 hnr hrow5
        go_wp2_with fail
        refine HLEN5.out.mono ?_
        rintro e w6 ⟨rfl, rfl⟩
        go_wp2_with fail
        refine HNR.out.mono ?_
        rintro e w6 ⟨g, vb, rfl, hrat, hb6⟩
        rw [HTK.out] at hrat
        have hat6 := HAT5.out.kept hb6
        have hrow6 := own_below HROW5.out (fun q e => hb6.block q (own_low HROW5.out q e).2)
        have HRAT := Lib.hid hrat
        have HAT6 := Lib.hid hat6
        have HROW6 := Lib.hid hrow6
        have HB6 := Lib.hid (HB5.out.trans (hb6.mono HB5.out.size))
        clear hrat hb6 hat6 hrow6
        go_wp2_with fail
        go_loopw [53] (fun i wq => Rel2 w w5.heap.size g v vb (.slice A4 ds.length cap4) P N ds i wq) (fun i _ => ds.length - (intOf i).toNat)
        case atStart => exact ⟨0, Nat.zero_le _, rfl, HRAT.out, HAT6.out, HROW6.out, HB6.out⟩
        case round =>
          obtain ⟨k, hk, rfl, hrat, hat, hrow, hb⟩ := hrel
          by_cases hlt : k < ds.length
          · obtain ⟨gr, capr, hve, _, _⟩ := hrow.form (by omega)
            simp only [Value.slice.injEq, true_and] at hve
            obtain ⟨rfl, rfl⟩ := hve
            obtain ⟨hok, bsc, hwr⟩ := HALL.out _ (List.getElem_mem hlt)
            obtain ⟨c0, c1, c2⟩ := rowC_cells hrow k hlt
            have hsp := bitsC_split ds k hlt
            have htk1 := bitsC_take ds k hlt
            have hle := bitsC_le ds k
            rw [hwr] at hsp htk1
            have hback := rd_back (bitsC ds) (bitsC (ds.take k)).length ds[k] hok bsc _ hle hwr hsp
            have hrat1 := hrat.alloc (.cells #[.int .i64 ds[k].kind, .int .u64 ds[k].v, .int .i64 ds[k].n] 40)
            have hread := read_any hrat1 ds[k] hok
            rw [HUP.out, hback, call_apart] at hread
            have htk2 : (bitsC (ds.take (k + 1))).length = (bitsC (ds.take k)).length + bsc.length := htk1
            rw [← htk2] at hread
            have hwant := hback
            obtain ⟨c, hc⟩ : ∃ c, ds[k] = c := ⟨_, rfl⟩
            rw [hc] at hok hwr c0 c1 c2 hread hrat1
            have hbn := block_new wr (.cells #[.int .i64 c.kind, .int .u64 c.v, .int .i64 c.n] 40)
            have hszA : (wr.alloc (.cells #[.int .i64 c.kind, .int .u64 c.v, .int .i64 c.n] 40)).heap.size = wr.heap.size + 1 := by simp
            have hgl := hrat.lt
            have hwat := hat.alloc (.cells #[.int .i64 c.kind, .int .u64 c.v, .int .i64 c.n] 40)
            have hrow1 := own_below hrow (fun q e => Below.heap_alloc wr (.cells #[.int .i64 c.kind, .int .u64 c.v, .int .i64 c.n] 40) q (own_low hrow q e).2)
            have hbb1 : Below w.heap.size w (wr.alloc (.cells #[.int .i64 c.kind, .int .u64 c.v, .int .i64 c.n] 40)) := hb.alloc hb.size _
            have huna := fun h => wrL_una c h bsc hwr
            have hwc : wantC c = if c.kind = 1 then c.n.toNat else c.v := rfl
            rw [hwc] at hread
            obtain ⟨ck, hck⟩ : ∃ ck, c.kind = ck := ⟨_, rfl⟩
            obtain ⟨cv, hcv⟩ : ∃ cv, c.v = cv := ⟨_, rfl⟩
            obtain ⟨cn, hcn⟩ : ∃ cn, c.n = cn := ⟨_, rfl⟩
            rw [hck] at c0 huna
            rw [hcv] at c1
            rw [hcn] at c2 huna
            rw [hck, hcv, hcn] at hread hrat1 hbn hszA hwat hrow1 hbb1
            have HGL := Lib.hid hgl
            have HSZA := Lib.hid hszA
            have HBN := Lib.hid hbn
            have HWAT := Lib.hid hwat
            have HRAT1 := Lib.hid hrat1
            have HROW1 := Lib.hid hrow1
            have HBB1 := Lib.hid hbb1
            have hlt' : (k : Int) < (ds.length : Int) := by omega
            clear hok hwr hsp htk1 hle hback hwant htk2 hwc hc hck hcv hcn hrat hat hrow hb hbn hszA hgl hwat hrat1 hrow1 hbb1
            by_cases hk1 : ck = 1
            · obtain ⟨hn0, hn4⟩ := huna hk1
              subst hk1
              rw [if_pos rfl] at hread
              obtain ⟨m, rfl⟩ : ∃ m : Nat, cn = m := ⟨cn.toNat, by omega⟩
              rw [Int.toNat_natCast] at hread
              have HREAD := Lib.hid hread
              have hm0 : (0 : Int) ≤ (m : Int) := by omega
              clear hread huna
              go_wp2_with fail
              refine HREAD.out.mono ?_
              rintro e w7 ⟨rfl, hat7, hgr7⟩
              have hblk := (hgr7.block wr.heap.size (by rw [HSZA.out]; omega) (fun e => by injection e with e; have := HGL.out; omega)).trans HBN.out
              have d0 : w7.cell? ⟨wr.heap.size, 0, none⟩ = some (.int .i64 1) := cell_of (i := 0) hblk rfl
              have d1 : w7.cell? ⟨wr.heap.size, 1, none⟩ = some (.int .u64 cv) := cell_of (i := 1) hblk rfl
              have d2 : w7.cell? ⟨wr.heap.size, 2, none⟩ = some (.int .i64 m) := cell_of (i := 2) hblk rfl
              have hwat7 := writer_stay HWAT.out HRAT1.out hgr7
              have hrow7 := calls_stay HRAT1.out hgr7 HROW1.out
              have hbb7 := HBB1.out.trans (grown_below hgr7 (Nat.le_trans HB5.out.size HRAT1.out.1) HBB1.out.size)
              have HR7 := Lib.hid hat7
              have HW7 := Lib.hid hwat7
              have HRW7 := Lib.hid hrow7
              have HBB7 := Lib.hid hbb7
              clear hat7 hgr7 hblk hwat7 hrow7 hbb7 c0 c1 c2
              go_wp2_with fail
              go_roundw
              case rel => exact ⟨k + 1, by omega, by go_num, HR7.out, HW7.out, HRW7.out, HBB7.out⟩
              case measure => simp [intOf]; omega
            · rw [if_neg hk1] at hread
              have HREAD := Lib.hid hread
              have hk1' : (ck == 1) = false := by simp; exact hk1
              clear hread huna hk1
              go_wp2_with fail
              refine HREAD.out.mono ?_
              rintro e w7 ⟨rfl, hat7, hgr7⟩
              have hblk := (hgr7.block wr.heap.size (by rw [HSZA.out]; omega) (fun e => by injection e with e; have := HGL.out; omega)).trans HBN.out
              have d0 : w7.cell? ⟨wr.heap.size, 0, none⟩ = some (.int .i64 ck) := cell_of (i := 0) hblk rfl
              have d1 : w7.cell? ⟨wr.heap.size, 1, none⟩ = some (.int .u64 cv) := cell_of (i := 1) hblk rfl
              have d2 : w7.cell? ⟨wr.heap.size, 2, none⟩ = some (.int .i64 cn) := cell_of (i := 2) hblk rfl
              have hwat7 := writer_stay HWAT.out HRAT1.out hgr7
              have hrow7 := calls_stay HRAT1.out hgr7 HROW1.out
              have hbb7 := HBB1.out.trans (grown_below hgr7 (Nat.le_trans HB5.out.size HRAT1.out.1) HBB1.out.size)
              have HR7 := Lib.hid hat7
              have HW7 := Lib.hid hwat7
              have HRW7 := Lib.hid hrow7
              have HBB7 := Lib.hid hbb7
              clear hat7 hgr7 hblk hwat7 hrow7 hbb7 c0 c1 c2
              go_wp2_with fail
              go_roundw
              case rel => exact ⟨k + 1, by omega, by go_num, HR7.out, HW7.out, HRW7.out, HBB7.out⟩
              case measure => simp [intOf]; omega
          · have hkd : k = ds.length := by omega
            have htl : (bitsC (ds.take k)).length = N := by rw [hkd, List.take_length, HN2.out]
            rw [htl] at hrat
            have hb1 := rbits_of hrat 1 1 rfl (by omega)
            rw [rbits_none _ _ (by rw [unpack_len]; exact Nat.le_refl _)] at hb1
            have HB1 := Lib.hid hb1
            have HRT := Lib.hid hrat
            have HWT := Lib.hid hat
            have HBB := Lib.hid hb
            have hge : (ds.length : Int) ≤ (k : Int) := by omega
            clear hkd htl hrat hb1 hat hrow hb
            go_wp2_with fail
            refine HB1.out.mono ?_
            rintro e w7 ⟨rfl, hat7, hgr7⟩
            have hwat7 := writer_stay HWT.out HRT.out hgr7
            have hlen7 := len_any hwat7
            rw [HN2.out] at hlen7
            have hbb7 := HBB.out.trans (grown_below hgr7 (Nat.le_trans HB5.out.size HRT.out.1) HBB.out.size)
            have HPOS7 := Lib.hid (rpos_any hat7)
            have HLEN7 := Lib.hid hlen7
            have HBB7 := Lib.hid hbb7
            clear hat7 hgr7 hwat7 hlen7 hbb7
            go_wp2_with fail
            refine HPOS7.out.mono ?_
            rintro e w8 ⟨rfl, rfl⟩
            go_wp2_with fail
            refine HLEN7.out.mono ?_
            rintro e w8 ⟨rfl, rfl⟩
            go_wp2_with fail
            refine (awake_any _).mono ?_
            rintro e w8 ⟨rfl, hb8⟩
            have HB8 := Lib.hid hb8
            clear hb8
            go_wp2
            go_ret
            exact ⟨rfl, HBB7.out.trans (HB8.out.mono HBB7.out.size)⟩
  · have h12' : (12 : Int) < n := by omega
    go_enter Try.func9, Try.ntmps9
    go_wp2_with fail
    refine (newWriter_any _).mono ?_
    rintro e w1 ⟨rfl, rfl⟩
    go_wp2_with fail
    go_ret
    exact ⟨rfl, (Below.refl _ w).alloc (Nat.le_refl _) _⟩

theorem own : ownKnob Try.prog.godebug = none := by kernel_rfl

set_option maxRecDepth 100000 in
theorem lifted (os : Os) (started : os.Started) (H : Type) (enc : TypeId × Value → H) :
    ReturnsInHanded {} Try.checked os 9 .any (Rows.bitioRoundTripsSpec.pre6 enc Try.prog Try.f9 Rows.bitioRoundTripsRow.domain false) (Rows.bitioRoundTripsSpec.post enc Try.prog Try.f9 false true false false) := by
  refine returnsInHanded_of_change (C := Try.checked) own started (by kernel_rfl) Try.func9
    (ChangeSpec.witness6 (enc := enc) (C := Try.checked) false ⟨#[], #[.slice none 0 0], []⟩ 8 (by kernel_rfl) (by kernel_rfl) (by kernel_rfl) (by kernel_rfl)) ?_
  intro W base args ds gs before hval0 hW hcnd _
  have hval : ∀ (j : Nat) t v, Try.f9.params[j]? = some t → args[j]? = some v → Value.okWide Try.prog W .any base t v := hval0
  have hW' := hW
  have hplt : ∀ x ∈ before, x.block < W.heap.size := fun x hx => hW.lt x hx
  obtain ⟨p, q, hA0, hV, rfl, hfz, hnd⟩ := hW
  have hA : DataW.TrodAll enc Try.prog W 0 (fun _ => true) true Try.f9.params.toList args.toList ds p := hA0
  rw [Try.params9] at hA hval
  obtain ⟨v0, vs0, d0, ds0, p0, q0, hargs, rfl, rfl, h0, r0⟩ := trodAll_cons hA
  obtain ⟨rfl, rfl, rfl⟩ := trodAll_nil r0
  obtain rfl : args = #[v0] := by cases args; simp_all
  obtain ⟨rfl, rfl⟩ := trodVars_none hV
  obtain ⟨L0, s0, m0⟩ := open_calls (hval 0 35 v0 rfl rfl) h0
  clear hA0 hval0
  refine (walk v0 L0 s0 m0).mono fun e W' ⟨he, bel⟩ => ?_
  subst he
  exact ⟨_, rfl, _, _, _, [], _, [], hW', trodAll_mk1 (shut_bool Try.underlying4 _), (trodAll_cons_mk (Below.trod Try.laidOut (by kernel_rfl) (of_decide_eq_true (by kernel_rfl)) h0 bel (fun x hx => hplt x (by simp [hx]))) trodAll_mk0), rfl, World.keptBut_mono (fun x hx => ⟨hx, Or.inr (by simpa using hx)⟩) (bel.frame (· ∈ _)), fun h => by cases h⟩

theorem over : Rows.bitioRoundTripsRow.holds Try.pinned (OpenSpec.ofChange Rows.bitioRoundTripsSpec) :=
  OpenClaim.holds_of_wide 9 Try.f9 rfl rfl rfl rfl rfl rfl rfl ⟨rfl, rfl, rfl, rfl, rfl⟩ rfl rfl rfl rfl rfl (by kernel_rfl) Try.func9 (by kernel_rfl)
    (of_decide_eq_true (by kernel_rfl)) (by unfold Func.isWrapper; first | (rw [if_pos (by decide +kernel)]; kernel_rfl) | (rw [if_neg (by decide +kernel)]; exact ⟨rfl, rfl⟩))
    (fun os started H enc _ => lifted os started H enc)

/-- THE STATEMENT. -/
theorem proved : Rows.BitioRoundTripsSaid := over
end Go.Proofs.Ytpkikfdbndaekaa.bitioRoundTrips
