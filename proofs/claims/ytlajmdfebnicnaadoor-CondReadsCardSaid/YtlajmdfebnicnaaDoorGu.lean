/-
  internal/strconv.ParseUint at base 16, of every text: its three ends.
-/
import Derived.Test.YtlajmdfebnicnaaDoorGr
namespace Go.Proofs.YtlajmdfebnicnaaDoor
open Go.RowKit
set_option linter.unusedVariables false

/-- What a byte is worth as a figure of any base. -/
def val16 (c : UInt8) : Nat := if 48 ≤ c.toNat ∧ c.toNat ≤ 57 then c.toNat - 48 else if 97 ≤ (c.toNat ||| 32) ∧ (c.toNat ||| 32) ≤ 122 then (c.toNat ||| 32) - 87 else 99
/-- What ParseUint makes of bytes at base 16, behind a number. -/
def pu16 (a : Nat) : List UInt8 → Lib.NumEnd Nat
  | [] => .ok a
  | c :: cs => if 16 ≤ val16 c then .syntax else if 1152921504606846976 ≤ a then .range else pu16 (a * 16 + val16 c) cs
set_option maxHeartbeats 8000000 in
set_option maxRecDepth 100000 in
theorem iparse16_all (t : ByteArray) (hne : t.size ≠ 0) (hmax : t.size ≤ 9223372036854775806) (w : World) :
    Calls Tryd.prog 23 #[.string t, .int .i64 16, .int .i64 64] w fun e w' => e = .returned (Lib.uintTuple 71 (pu16 0 t.data.toList)) ∧ Below w.heap.size w w' := by
  have hemp : t.toList.isEmpty = false := by
    rw [← decide_eq_emptyBytes]
    exact decide_eq_false (fun h => hne (by rw [h]; rfl))
  have hcv := Lib.run_convert_string_bytes (P := Tryd.prog) w 9 74 5 t (u := .string) Tryd.underlying9 Tryd.underlying74 Tryd.underlying5
  have hB : ∀ j, j < t.size → (Lib.bytesWorld w 5 t).cell? ⟨w.heap.size, j, none⟩ = some (.int .u8 (t.data.toList.getD j 0).toNat) := fun j hj => Lib.bytesWorld_cell w 5 t j hj
  have HL := Lib.hid (below_bytesG w 5 t)
  obtain ⟨W1, hW1⟩ : ∃ W1, W1 = Lib.bytesWorld w 5 t := ⟨_, rfl⟩
  rw [← hW1] at hcv hB HL
  clear hW1
  obtain ⟨bs, hL⟩ : ∃ bs, bs = t.data.toList := ⟨_, rfl⟩
  have hLn : bs.length = t.size := by rw [hL, Lib.size_eq]
  rw [← hL] at hB ⊢
  clear hL
  have hmv : IntKind.u64.wrap (IntKind.u64.wrap 18446744073709551616 - 1) = 18446744073709551615 := by
    rw [IntKind.wrap_u64, IntKind.wrap_u64]
    decide
  go_enter Tryd.func23, Tryd.ntmps23
  go_wp2
  go_loop [12, 13, 101] (fun vu vn vi => ∃ (k acc : Nat) (a : Int), vu = .bool false ∧ vn = .int .u64 a ∧ vi = .int .i64 k ∧ k ≤ t.size ∧ Hid (a = (acc : Int) ∧ acc < 18446744073709551616 ∧ pu16 0 bs = pu16 acc (bs.drop k)))
    (fun _ _ vi => t.size - (intOf vi).toNat)
  case atStart => exact ⟨0, 0, 0, rfl, rfl, rfl, by omega, rfl, by omega, rfl⟩
  case round =>
    obtain ⟨k, acc, a, rfl, rfl, rfl, hk, hh⟩ := hrel
    obtain ⟨ha, hacc, hdec⟩ := hh.out
    clear hh
    have a0 : 0 ≤ a := by omega
    have a1 : a < 18446744073709551616 := by omega
    by_cases hkn : k < t.size
    · have hc := hB k hkn
      have hdrop : bs.drop k = bs[k]'(by omega) :: bs.drop (k + 1) := List.drop_eq_getElem_cons (by omega)
      have hget : bs.getD k 0 = bs[k]'(by omega) := by simp [List.getD, List.getElem?_eq_getElem (show k < bs.length by omega)]
      rw [hdrop] at hdec
      rw [hget] at hc
      generalize bs[k]'(by omega) = c at hc hdec
      have hc256 : c.toNat < 256 := c.toNat_lt
      clear hB hdrop hget
      by_cases hdig : 48 ≤ c.toNat ∧ c.toNat ≤ 57
      · obtain ⟨hd0, hd1⟩ := hdig
        have hv : val16 c = c.toNat - 48 := by unfold val16; rw [if_pos ⟨hd0, hd1⟩]
        by_cases hcut : 1152921504606846976 ≤ acc
        · have hF : pu16 acc (c :: bs.drop (k + 1)) = .range := by rw [pu16, if_neg (by omega), if_pos hcut]
          rw [hF] at hdec
          have icut : 1152921504606846976 ≤ a := by omega
          have HD := Lib.hid hdec
          clear hcut hacc hF ha hv hdec
          go_wp2
          go_ret2
          exact ⟨by rw [HD.out]; rfl, HL.out⟩
        · have hF : pu16 acc (c :: bs.drop (k + 1)) = pu16 (acc * 16 + (c.toNat - 48)) (bs.drop (k + 1)) := by rw [pu16, if_neg (by omega), if_neg hcut, hv]
          have HN : Hid (a * 16 + ((c.toNat : Int) - 48) = ((acc * 16 + (c.toNat - 48) : Nat) : Int) ∧ acc * 16 + (c.toNat - 48) < 18446744073709551616 ∧ pu16 0 bs = pu16 (acc * 16 + (c.toNat - 48)) (bs.drop (k + 1))) := Lib.hid ⟨by omega, by omega, hdec.trans hF⟩
          have icut : a < 1152921504606846976 := by omega
          have iov : a * 16 + ((c.toNat : Int) - 48) < 18446744073709551616 := by omega
          clear hcut hacc hF hdec ha hv
          go_wp2
          exact ⟨⟨k + 1, acc * 16 + (c.toNat - 48), a * 16 + ((c.toNat : Int) - 48), rfl, rfl, by go_num, by omega, HN⟩, by simp [intOf]; omega⟩
      · obtain ⟨l, hl⟩ : ∃ l, c.toNat ||| 32 = l := ⟨_, rfl⟩
        have hor : bits .or .u8 (c.toNat : Int) 32 = (l : Int) := by rw [← hl]; exact u8_or_nat c.toNat 32 hc256 (by decide)
        have hl256 : l < 256 := by rw [← hl]; exact Nat.or_lt_two_pow (n := 8) hc256 (by decide)
        have hvl : val16 c = if 97 ≤ l ∧ l ≤ 122 then l - 87 else 99 := by unfold val16; rw [if_neg hdig, hl]
        have hdi : ¬ (48 ≤ (c.toNat : Int) ∧ (c.toNat : Int) ≤ 57) := by omega
        by_cases hlet : 97 ≤ l ∧ l ≤ 122
        · have h95 : c.toNat ≠ 95 := fun h => by rw [h] at hl; have : l = 127 := hl.symm.trans (by decide); omega
          have h95i : ((c.toNat : Int) == 95) = false := by simp; omega
          have h95j : ¬ (c.toNat : Int) = 95 := by omega
          have hv : val16 c = l - 87 := by rw [hvl, if_pos hlet]
          obtain ⟨l0, l1⟩ := hlet
          by_cases h16 : 103 ≤ l
          · have hF : pu16 acc (c :: bs.drop (k + 1)) = .syntax := by rw [pu16, if_pos (by omega)]
            rw [hF] at hdec
            have HD := Lib.hid hdec
            clear hacc hF ha hv hvl hdec hl
            go_wp2_with (go_at_call 42; refine (lower_any _ _).mono ?_; rw [hor]; rintro e w' ⟨rfl, rfl⟩)
            all_goals go_ret2
            all_goals exact ⟨by rw [HD.out]; rfl, HL.out⟩
          · by_cases hcut : 1152921504606846976 ≤ acc
            · have hF : pu16 acc (c :: bs.drop (k + 1)) = .range := by rw [pu16, if_neg (by omega), if_pos hcut]
              rw [hF] at hdec
              have icut : 1152921504606846976 ≤ a := by omega
              have HD := Lib.hid hdec
              clear hcut hacc hF ha hv hvl hdec hl
              go_wp2_with (go_at_call 42; refine (lower_any _ _).mono ?_; rw [hor]; rintro e w' ⟨rfl, rfl⟩)
              all_goals go_ret2
              all_goals exact ⟨by rw [HD.out]; rfl, HL.out⟩
            · have hF : pu16 acc (c :: bs.drop (k + 1)) = pu16 (acc * 16 + (l - 87)) (bs.drop (k + 1)) := by rw [pu16, if_neg (by omega), if_neg hcut, hv]
              have HN : Hid (a * 16 + ((l : Int) - 87) = ((acc * 16 + (l - 87) : Nat) : Int) ∧ acc * 16 + (l - 87) < 18446744073709551616 ∧ pu16 0 bs = pu16 (acc * 16 + (l - 87)) (bs.drop (k + 1))) := Lib.hid ⟨by omega, by omega, hdec.trans hF⟩
              have icut : a < 1152921504606846976 := by omega
              have iov : a * 16 + ((l : Int) - 87) < 18446744073709551616 := by omega
              clear hcut hacc hF hdec ha hv hvl hl
              go_wp2_with (go_at_call 42; refine (lower_any _ _).mono ?_; rw [hor]; rintro e w' ⟨rfl, rfl⟩)
              all_goals exact ⟨⟨k + 1, acc * 16 + (l - 87), a * 16 + ((l : Int) - 87), rfl, by congr 1; omega, by go_num, by omega, HN⟩, by simp [intOf]; omega⟩
        · have hF : pu16 acc (c :: bs.drop (k + 1)) = .syntax := by rw [pu16, hvl, if_neg hlet, if_pos (by decide)]
          rw [hF] at hdec
          have hli : ¬ (97 ≤ (l : Int) ∧ (l : Int) ≤ 122) := by omega
          have hor95 : bits .or .u8 95 32 = 127 := by decide +kernel
          have HD := Lib.hid hdec
          clear hacc hF ha hvl hdec hl
          go_wp2_with (go_at_call 42; refine (lower_any _ _).mono ?_; (first | rw [hor] | rw [hor95]); rintro e w' ⟨rfl, rfl⟩)
          all_goals go_ret2
          all_goals exact ⟨by rw [HD.out]; rfl, HL.out⟩
    · have hkk : k = t.size := by omega
      subst hkk
      have hF : pu16 acc (bs.drop t.size) = .ok acc := by rw [List.drop_eq_nil_of_le (by omega)]; rfl
      rw [hF] at hdec
      subst ha
      have HD := Lib.hid hdec
      clear hacc hF a0 a1 hdec
      go_wp2
      go_ret2
      exact ⟨by rw [HD.out]; rfl, HL.out⟩
end Go.Proofs.YtlajmdfebnicnaaDoor
