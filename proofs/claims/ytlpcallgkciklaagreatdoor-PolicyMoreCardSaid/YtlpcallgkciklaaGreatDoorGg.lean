/-
  A number's decimal text read: cond.Number; an argument's text: cond.argument.
-/
import Derived.Test.YtlpcallgkciklaaGreatDoorGf
import Derived.Shelf.Strings.SlTrimAscii
import Derived.RegionTactic
namespace Go.Proofs.YtlpcallgkciklaaGreatDoor
open Go.Shelf Go.RowKit Go.Sort Go.Lib
set_option linter.unusedVariables false

theorem dig_nat {u : Nat} (h : u < 10) : (UInt8.ofNat (48 + u)).toNat = 48 + u := by
  rw [UInt8.toNat_ofNat']
  show (48 + u) % 256 = _
  omega
theorem parse_dec : ∀ (u : Nat), u < 18446744073709551616 → ∀ r, Lib.parseUintM 18446744073709551615 0 (Lib.decDigits u ++ r) = Lib.parseUintM 18446744073709551615 u r := by
  intro u
  induction u using Nat.strongRecOn with
  | _ u ih =>
    intro hu r
    by_cases h : u < 10
    · rw [Lib.decDigits_one h, List.singleton_append, Lib.parseUintM, dig_nat h, if_pos (by omega), if_neg (by omega), if_neg (by omega)]
      congr 1
      omega
    · rw [Lib.decDigits, dif_neg h, List.append_assoc, ih (u / 10) (by omega) (by omega), List.singleton_append, Lib.parseUintM, dig_nat (Nat.mod_lt _ (by omega)), if_pos (by omega), if_neg (by omega), if_neg (by omega)]
      congr 1
      omega
theorem decDigits_ne (u : Nat) : Lib.decDigits u ≠ [] := by
  rw [Lib.decDigits]
  split <;> simp
theorem parse_ok (u : Nat) (hu : u < 18446744073709551616) : Lib.parseUintB 64 (dec u).data.toList = .ok u := by
  show Lib.parseUintB 64 (Lib.decDigits u) = .ok u
  rw [Lib.parseUintB, if_neg (decDigits_ne u)]
  have := parse_dec u hu []
  rw [List.append_nil] at this
  exact this
theorem decDigits_dig (u : Nat) : ∀ c ∈ Lib.decDigits u, 48 ≤ c.toNat ∧ c.toNat ≤ 57 := by
  induction u using Nat.strongRecOn with
  | _ u ih =>
    intro c hc
    by_cases h : u < 10
    · rw [Lib.decDigits_one h, List.mem_singleton] at hc
      subst hc
      rw [dig_nat h]; omega
    · rw [Lib.decDigits, dif_neg h, List.mem_append, List.mem_singleton] at hc
      rcases hc with hc | rfl
      · exact ih (u / 10) (by omega) c hc
      · rw [dig_nat (Nat.mod_lt _ (by omega))]; omega
theorem dec_no0x (u : Nat) : Lib.hasPrefix (dec u).data.toList (ByteArray.mk #[48, 120]).data.toList = false := by
  show List.isPrefixOf [48, 120] (Lib.decDigits u) = false
  have h := decDigits_dig u
  match hl : Lib.decDigits u with
  | [] => rfl
  | [a] => simp [List.isPrefixOf]
  | a :: b :: r =>
    rw [hl] at h
    have hb := h b (by simp)
    simp only [List.isPrefixOf, Bool.and_eq_false_iff]
    right; left
    by_cases hq : (120 : UInt8) = b
    · subst hq
      exact absurd hb.2 (by decide)
    · simpa using hq
theorem cut0x (u : Nat) (w : World) : Calls Tryz.prog 177 #[.string (dec u), .string ⟨#[48, 120]⟩] w fun e w' => e = .returned (.tuple #[.string (dec u), .bool false]) ∧ w' = w := by
  have h := Tryz.strings_CutPrefix (dec u) ⟨#[48, 120]⟩ w
  rw [Lib.trimPrefix, dec_no0x u, if_neg (by decide)] at h
  exact h
theorem below_bytes (w : World) (e : TypeId) (s : ByteArray) : Below w.heap.size w (Lib.bytesWorld w e s) := ⟨rfl, rfl, rfl, by rw [Lib.bytesWorld_size]; omega, fun j hj => Lib.bytesWorld_at_old w e s j hj⟩
theorem nDigits_le (u : Nat) (h : u < 18446744073709551616) : Lib.nDigits u ≤ 20 := by
  by_cases h1 : 1 ≤ u
  · have := Lib.numDigits_eq u h1 h; split at this <;> omega
  · obtain rfl : u = 0 := by omega
    rw [Lib.nDigits_small (by omega)]; omega
theorem parseU_ok (u : Nat) (hu : u < 18446744073709551616) (w : World) : Calls Tryz.prog 176 #[.string (dec u), .int .i64 10, .int .i64 64] w fun e w' => e = .returned (.tuple #[.int .u64 u, .nilIface]) ∧ Below w.heap.size w w' := by
  refine (Tryz.strconv_ParseUint_10_at64_ok (dec u) ?_ u (parse_ok u hu) w).mono ?_
  · show (Lib.decDigits u).toArray.size ≤ _
    have h := nDigits_le u hu
    rw [← Lib.decDigits_length] at h
    simp
    omega
  · rintro e w' ⟨he, rfl | rfl⟩
    · exact ⟨he, Below.refl _ _⟩
    · exact ⟨he, below_bytes _ _ _⟩
set_option maxRecDepth 100000 in
set_option maxHeartbeats 4000000 in
theorem number_dec (u : Nat) (hu : u < 18446744073709551616) (w : World) (ht : TabP w) :
    Calls Tryz.prog 146 #[.string (dec u)] w fun e w' => e = .returned (.tuple #[.int .u64 u, .bool true]) ∧ Below w.heap.size w w' := by
  have HC := Lib.hid (fun W => cut0x u W)
  have HP := Lib.hid (parseU_ok u hu w)
  have HT := Lib.hid ht
  have HF := Lib.hid fun W hW => fmtU_any u hu W hW
  clear ht
  generalize dec u = S at HC HP HF ⊢
  have e0 : (S.toList != S.toList) = false := by simp
  have e1 : (S.toList == S.toList) = true := by simp
  go_enter Tryz.func146, Tryz.ntmps146
  go_wp2_with fail
  refine (HC.out _).mono ?_
  rintro e w1 ⟨rfl, rfl⟩
  go_wp2_with fail
  refine HP.out.mono ?_
  rintro e w2 ⟨rfl, hB2⟩
  have HW := Lib.hid (HF.out w2 (tab_on HT.out hB2 (Nat.le_refl _)))
  have HB2 := Lib.hid hB2
  clear hB2
  go_wp2_with (go_at_call 110; refine HW.out.mono ?_; rintro e w3 ⟨rfl, hB3⟩)
  go_ret2
  exact ⟨rfl, HB2.out.trans (hB3.mono HB2.out.size)⟩

/-- An argument's text. -/
abbrev argW (i : Nat) : ByteArray := ⟨#[97, UInt8.ofNat (48 + i)]⟩
theorem trim_dig (c : UInt8) (hc : 48 ≤ c.toNat ∧ c.toNat ≤ 57) (w : World) : Calls Tryz.prog 100 #[.string ⟨#[c]⟩, .string ⟨#[48, 49, 50, 51, 52, 53, 54, 55, 56, 57]⟩] w fun e w' => e = .returned (.string ⟨#[]⟩) ∧ Below w.heap.size w w' := by
  refine (Any.strings_Trim_laid Tryz.lays160 (by kernel_rfl) ⟨#[c]⟩ ⟨#[48, 49, 50, 51, 52, 53, 54, 55, 56, 57]⟩ w (by show (1 : Nat) ≤ _; omega) (by decide) (ascii_of_all (by decide))).mono ?_
  rintro e w' ⟨he, hB⟩
  refine ⟨he.trans ?_, hB⟩
  have hcc : ([48, 49, 50, 51, 52, 53, 54, 55, 56, 57] : List UInt8).contains c = true := by
    have : c = UInt8.ofNat c.toNat := (UInt8.ofNat_toNat).symm
    rw [this]
    have h : c.toNat = 48 ∨ c.toNat = 49 ∨ c.toNat = 50 ∨ c.toNat = 51 ∨ c.toNat = 52 ∨ c.toNat = 53 ∨ c.toNat = 54 ∨ c.toNat = 55 ∨ c.toNat = 56 ∨ c.toNat = 57 := by omega
    rcases h with h | h | h | h | h | h | h | h | h | h <;> rw [h] <;> decide
  show Ending.returned (.string ⟨(Lib.trimS [c] [48, 49, 50, 51, 52, 53, 54, 55, 56, 57]).toArray⟩) = _
  have : Lib.trimS [c] [48, 49, 50, 51, 52, 53, 54, 55, 56, 57] = [] := by
    simp only [Lib.trimS, Lib.trimRightS, Lib.trimLeftS, List.reverse_singleton, List.dropWhile, hcc, List.reverse_nil]
  rw [this]
set_option maxRecDepth 100000 in
set_option maxHeartbeats 4000000 in
theorem argument_ok (i : Nat) (hi : i < 6) (w : World) : Calls Tryz.prog 143 #[.string (argW i)] w fun e w' => e = .returned (.tuple #[.int .i64 i, .int .i64 0]) ∧ Below w.heap.size w w' := by
  have h : i = 0 ∨ i = 1 ∨ i = 2 ∨ i = 3 ∨ i = 4 ∨ i = 5 := by omega
  clear hi
  rcases h with rfl | rfl | rfl | rfl | rfl | rfl
  · show Calls Tryz.prog 143 #[.string ⟨#[97, 48]⟩] w fun e w' => e = .returned (.tuple #[.int .i64 0, .int .i64 0]) ∧ Below w.heap.size w w'
    have hc : Calls Tryz.prog 177 #[.string ⟨#[97, 48]⟩, .string ⟨#[97]⟩] w fun e w' => e = .returned (.tuple #[.string ⟨#[48]⟩, .bool true]) ∧ w' = w := Tryz.strings_CutPrefix ⟨#[97, 48]⟩ ⟨#[97]⟩ w
    have HC := Lib.hid hc
    have HT := Lib.hid (trim_dig 48 (by decide) w)
    clear hc
    go_enter Tryz.func143, Tryz.ntmps143
    go_wp2_with fail
    refine HC.out.mono ?_
    rintro e w1 ⟨rfl, rfl⟩
    go_wp2_with (go_at_call 100; refine HT.out.mono ?_; rintro e w3 ⟨rfl, hB3⟩)
    go_ret2
    exact ⟨rfl, hB3⟩
  · show Calls Tryz.prog 143 #[.string ⟨#[97, 49]⟩] w fun e w' => e = .returned (.tuple #[.int .i64 1, .int .i64 0]) ∧ Below w.heap.size w w'
    have hc : Calls Tryz.prog 177 #[.string ⟨#[97, 49]⟩, .string ⟨#[97]⟩] w fun e w' => e = .returned (.tuple #[.string ⟨#[49]⟩, .bool true]) ∧ w' = w := Tryz.strings_CutPrefix ⟨#[97, 49]⟩ ⟨#[97]⟩ w
    have HC := Lib.hid hc
    have HT := Lib.hid (trim_dig 49 (by decide) w)
    clear hc
    go_enter Tryz.func143, Tryz.ntmps143
    go_wp2_with fail
    refine HC.out.mono ?_
    rintro e w1 ⟨rfl, rfl⟩
    go_wp2_with (go_at_call 100; refine HT.out.mono ?_; rintro e w3 ⟨rfl, hB3⟩)
    go_ret2
    exact ⟨rfl, hB3⟩
  · show Calls Tryz.prog 143 #[.string ⟨#[97, 50]⟩] w fun e w' => e = .returned (.tuple #[.int .i64 2, .int .i64 0]) ∧ Below w.heap.size w w'
    have hc : Calls Tryz.prog 177 #[.string ⟨#[97, 50]⟩, .string ⟨#[97]⟩] w fun e w' => e = .returned (.tuple #[.string ⟨#[50]⟩, .bool true]) ∧ w' = w := Tryz.strings_CutPrefix ⟨#[97, 50]⟩ ⟨#[97]⟩ w
    have HC := Lib.hid hc
    have HT := Lib.hid (trim_dig 50 (by decide) w)
    clear hc
    go_enter Tryz.func143, Tryz.ntmps143
    go_wp2_with fail
    refine HC.out.mono ?_
    rintro e w1 ⟨rfl, rfl⟩
    go_wp2_with (go_at_call 100; refine HT.out.mono ?_; rintro e w3 ⟨rfl, hB3⟩)
    go_ret2
    exact ⟨rfl, hB3⟩
  · show Calls Tryz.prog 143 #[.string ⟨#[97, 51]⟩] w fun e w' => e = .returned (.tuple #[.int .i64 3, .int .i64 0]) ∧ Below w.heap.size w w'
    have hc : Calls Tryz.prog 177 #[.string ⟨#[97, 51]⟩, .string ⟨#[97]⟩] w fun e w' => e = .returned (.tuple #[.string ⟨#[51]⟩, .bool true]) ∧ w' = w := Tryz.strings_CutPrefix ⟨#[97, 51]⟩ ⟨#[97]⟩ w
    have HC := Lib.hid hc
    have HT := Lib.hid (trim_dig 51 (by decide) w)
    clear hc
    go_enter Tryz.func143, Tryz.ntmps143
    go_wp2_with fail
    refine HC.out.mono ?_
    rintro e w1 ⟨rfl, rfl⟩
    go_wp2_with (go_at_call 100; refine HT.out.mono ?_; rintro e w3 ⟨rfl, hB3⟩)
    go_ret2
    exact ⟨rfl, hB3⟩
  · show Calls Tryz.prog 143 #[.string ⟨#[97, 52]⟩] w fun e w' => e = .returned (.tuple #[.int .i64 4, .int .i64 0]) ∧ Below w.heap.size w w'
    have hc : Calls Tryz.prog 177 #[.string ⟨#[97, 52]⟩, .string ⟨#[97]⟩] w fun e w' => e = .returned (.tuple #[.string ⟨#[52]⟩, .bool true]) ∧ w' = w := Tryz.strings_CutPrefix ⟨#[97, 52]⟩ ⟨#[97]⟩ w
    have HC := Lib.hid hc
    have HT := Lib.hid (trim_dig 52 (by decide) w)
    clear hc
    go_enter Tryz.func143, Tryz.ntmps143
    go_wp2_with fail
    refine HC.out.mono ?_
    rintro e w1 ⟨rfl, rfl⟩
    go_wp2_with (go_at_call 100; refine HT.out.mono ?_; rintro e w3 ⟨rfl, hB3⟩)
    go_ret2
    exact ⟨rfl, hB3⟩
  · show Calls Tryz.prog 143 #[.string ⟨#[97, 53]⟩] w fun e w' => e = .returned (.tuple #[.int .i64 5, .int .i64 0]) ∧ Below w.heap.size w w'
    have hc : Calls Tryz.prog 177 #[.string ⟨#[97, 53]⟩, .string ⟨#[97]⟩] w fun e w' => e = .returned (.tuple #[.string ⟨#[53]⟩, .bool true]) ∧ w' = w := Tryz.strings_CutPrefix ⟨#[97, 53]⟩ ⟨#[97]⟩ w
    have HC := Lib.hid hc
    have HT := Lib.hid (trim_dig 53 (by decide) w)
    clear hc
    go_enter Tryz.func143, Tryz.ntmps143
    go_wp2_with fail
    refine HC.out.mono ?_
    rintro e w1 ⟨rfl, rfl⟩
    go_wp2_with (go_at_call 100; refine HT.out.mono ?_; rintro e w3 ⟨rfl, hB3⟩)
    go_ret2
    exact ⟨rfl, hB3⟩
end Go.Proofs.YtlpcallgkciklaaGreatDoor
