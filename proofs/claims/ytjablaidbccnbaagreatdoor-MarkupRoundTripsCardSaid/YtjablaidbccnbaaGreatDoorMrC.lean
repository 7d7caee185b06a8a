/-
  WALKS over the reference of markup: Escape.
-/
import Derived.Test.YtjablaidbccnbaaGreatDoorMrB
import Derived.Test.YtjablaidbccnbaaGreatDoorMkC
namespace Go.Proofs.YtjablaidbccnbaaGreatDoor
open Go.RowKit Go.Shelf Go.Lib

theorem byte_nat {c : UInt8} {d : Nat} (h : c.toNat = d) (n : UInt8) (hn : d = n.toNat) : c = n := UInt8.toNat_inj.1 (h.trans hn)
theorem escB_plain {c : UInt8} (h1 : c ≠ 38) (h2 : c ≠ 60) (h3 : c ≠ 62) (h4 : c ≠ 34) : escB c = [c] := by
  unfold escB
  simp [h1, h2, h3, h4]
theorem nat_ne {c : UInt8} {d : Nat} (h : c.toNat = d) (n : UInt8) (hn : d ≠ n.toNat) : c ≠ n := fun e => hn (by rw [← h, e])

set_option maxRecDepth 100000 in
set_option maxHeartbeats 2000000 in
theorem refEscape_any (s : ByteArray) (hs : s.size ≤ 1000000) (w : World) :
    Calls Tryz.prog 29 #[.string s] w fun e w' => e = .returned (.string ⟨(esc s.data.toList).toArray⟩) ∧ w' = w := by
  have hsz : s.data.toList.length = s.size := (Lib.size_eq s).symm
  go_enter Tryz.func29, Tryz.ntmps29
  go_wp2_with fail
  go_loop [3, 4] (fun a i => ∃ k : Nat, k ≤ s.size ∧ i = .int .i64 k ∧ a = .string ⟨(esc (s.data.toList.take k)).toArray⟩) (fun _ i => s.size - (intOf i).toNat)
  case atStart => exact ⟨0, Nat.zero_le _, rfl, rfl⟩
  case round =>
    obtain ⟨k, hk, rfl, rfl⟩ := hrel
    by_cases hlt : k < s.size
    · have hlt' : k < s.data.toList.length := by rw [hsz]; exact hlt
      have hnx : (⟨(esc (s.data.toList.take (k + 1))).toArray⟩ : ByteArray) = ⟨(esc (s.data.toList.take k)).toArray⟩ ++ ⟨(escB (s.data.toList[k])).toArray⟩ := by
        rw [ByteArray.mk_append_mk, List.take_add_one, List.getElem?_eq_getElem hlt', esc_app]
        simp [esc]
      have hl := esc_len (s.data.toList.take k)
      rw [List.length_take] at hl
      have hex : s.extract k (k + 1) = ⟨#[s.data.toList[k]]⟩ := by
        rw [Lib.extract_eq, List.drop_eq_getElem_cons hlt']
        simp
      have hd : (s[k]'hlt).toNat = (s.data.toList[k]).toNat := rfl
      obtain ⟨c, hc⟩ : ∃ c, s.data.toList[k] = c := ⟨_, rfl⟩
      rw [hc] at hnx hex hd
      obtain ⟨sE, hsE⟩ : ∃ sE : ByteArray, (⟨(esc (s.data.toList.take k)).toArray⟩ : ByteArray) = sE := ⟨_, rfl⟩
      have hzE : sE.size ≤ 6000000 := by
        rw [← hsE]
        show (esc (s.data.toList.take k)).length ≤ _
        omega
      rw [hsE] at hnx ⊢
      obtain ⟨d, hdd⟩ : ∃ d, c.toNat = d := ⟨_, rfl⟩
      rw [hdd] at hd
      have z1 : ¬ (9223372036854775807 < sE.size + 1) := by omega
      have z4 : ¬ (9223372036854775807 < sE.size + 4) := by omega
      have z5 : ¬ (9223372036854775807 < sE.size + 5) := by omega
      have z6 : ¬ (9223372036854775807 < sE.size + 6) := by omega
      have HNX := Lib.hid hnx
      have HDD := Lib.hid hdd
      clear hlt' hnx hl hc hsE hdd hzE
      by_cases h38 : d = 38
      · subst h38
        have e := byte_nat HDD.out 38 rfl
        subst e
        go_wp2_with fail
        go_round
        case rel => exact ⟨k + 1, by omega, by go_num, by rw [HNX.out]; rfl⟩
        case measure => simp [intOf]; omega
      · by_cases h60 : d = 60
        · subst h60
          have e := byte_nat HDD.out 60 rfl
          subst e
          go_wp2_with fail
          go_round
          case rel => exact ⟨k + 1, by omega, by go_num, by rw [HNX.out]; rfl⟩
          case measure => simp [intOf]; omega
        · by_cases h62 : d = 62
          · subst h62
            have e := byte_nat HDD.out 62 rfl
            subst e
            go_wp2_with fail
            go_round
            case rel => exact ⟨k + 1, by omega, by go_num, by rw [HNX.out]; rfl⟩
            case measure => simp [intOf]; omega
          · by_cases h34 : d = 34
            · subst h34
              have e := byte_nat HDD.out 34 rfl
              subst e
              go_wp2_with fail
              go_round
              case rel => exact ⟨k + 1, by omega, by go_num, by rw [HNX.out]; rfl⟩
              case measure => simp [intOf]; omega
            · have e := escB_plain (nat_ne HDD.out 38 h38) (nat_ne HDD.out 60 h60) (nat_ne HDD.out 62 h62) (nat_ne HDD.out 34 h34)
              rw [e] at HNX
              clear e
              have i38 : ¬ ((d : Int) = 38) := by omega
              have i60 : ¬ ((d : Int) = 60) := by omega
              have i62 : ¬ ((d : Int) = 62) := by omega
              have i34 : ¬ ((d : Int) = 34) := by omega
              go_wp2_with fail
              go_round
              case rel => exact ⟨k + 1, by omega, by go_num, by rw [HNX.out]⟩
              case measure => simp [intOf]; omega
    · have hfin : s.data.toList.take k = s.data.toList := List.take_of_length_le (by rw [hsz]; omega)
      rw [hfin]
      clear hfin
      go_wp2_with fail
      go_ret
      exact ⟨rfl, rfl⟩
end Go.Proofs.YtjablaidbccnbaaGreatDoor
