/-
  cond.Number of a number in figures 0 to f behind 0x; of a number's text behind a nought.
-/
import Derived.Test.YtlajmdfebnicnaaDoorGs
namespace Go.Proofs.YtlajmdfebnicnaaDoor
open Go.RowKit
set_option linter.unusedVariables false

theorem hexT_size (u : Nat) (hu : u < 18446744073709551616) : (hexT u).size ≤ 16 := by
  show (hexL u).toArray.size ≤ 16
  have := hexL_len 15 u (by omega)
  simpa using this
theorem hexT_ne (u : Nat) : (hexT u).size ≠ 0 := by
  show (hexL u).toArray.size ≠ 0
  have := hexL_pos u
  simp
  intro h
  rw [h] at this
  simp at this
set_option maxHeartbeats 1000000 in
theorem parse16_any (u : Nat) (hu : u < 18446744073709551616) (w : World) :
    Calls Tryd.prog 16 #[.string (hexT u), .int .i64 16, .int .i64 64] w fun e w' => e = .returned (.tuple #[.int .u64 u, .nilIface]) ∧ Below w.heap.size w w' := by
  have HF := Lib.hid (iparse16_any (hexT u) (hexT_ne u) (by have := hexT_size u hu; omega) (figs_hexL u) u (pv_hexL u) hu w)
  go_enter Tryd.func16, Tryd.ntmps16
  go_wp2_with (go_at_call 23; refine HF.out.mono ?_; rintro e w1 ⟨rfl, hB1⟩)
  go_ret2
  exact ⟨rfl, hB1⟩
theorem tz_on {w w' : World} {B : Nat} (h : Tz w) (hb : Below B w w') (hB : w.heap.size ≤ B) : Tz w' := Joins.tab_stays gTz h hb hB
/-- 0x and figures. -/
abbrev oxT (u : Nat) : ByteArray := (⟨#[48, 120]⟩ : ByteArray) ++ hexT u
theorem cutOx (u : Nat) (w : World) : Calls Tryd.prog 15 #[.string (oxT u), .string ⟨#[48, 120]⟩] w fun e w' => e = .returned (.tuple #[.string (hexT u), .bool true]) ∧ w' = w := by
  have h := Tryd.strings_CutPrefix (oxT u) ⟨#[48, 120]⟩ w
  have e1 : (oxT u).data.toList = 48 :: 120 :: hexL u := by
    show ((⟨#[48, 120]⟩ : ByteArray) ++ hexT u).data.toList = _
    rw [ByteArray.data_append]; simp
  have e2 : Lib.hasPrefix (48 :: 120 :: hexL u) (ByteArray.mk #[48, 120]).data.toList = true := by
    show List.isPrefixOf [48, 120] (48 :: 120 :: hexL u) = true
    simp [List.isPrefixOf]
  rw [e1, Lib.trimPrefix, e2, if_pos rfl] at h
  exact h
set_option maxRecDepth 100000 in
set_option maxHeartbeats 4000000 in
theorem number_hex (u : Nat) (hu : u < 18446744073709551616) (w : World) (ht : Tz w) :
    Calls Tryd.prog 6 #[.string (oxT u)] w fun e w' => e = .returned (.tuple #[.int .u64 u, .bool true]) ∧ Below w.heap.size w w' := by
  have HC := Lib.hid (fun W => cutOx u W)
  have HP := Lib.hid (parse16_any u hu w)
  have HT := Lib.hid ht
  have HF := Lib.hid fun W hW => fmt16_any u hu W hW
  clear ht
  generalize oxT u = R at HC ⊢
  generalize hexT u = S at HC HP HF
  have e0 : (S.toList != S.toList) = false := by simp
  have e1 : (S.toList == S.toList) = true := by simp
  go_enter Tryd.func6, Tryd.ntmps6
  go_wp2_with fail
  refine (HC.out _).mono ?_
  rintro e w1 ⟨rfl, rfl⟩
  go_wp2_with fail
  refine HP.out.mono ?_
  rintro e w2 ⟨rfl, hB2⟩
  have HW := Lib.hid (HF.out w2 (tz_on HT.out hB2 (Nat.le_refl _)))
  have HB2 := Lib.hid hB2
  clear hB2
  go_wp2_with (go_at_call 17; refine HW.out.mono ?_; rintro e w3 ⟨rfl, hB3⟩)
  go_ret2
  exact ⟨rfl, HB2.out.trans (hB3.mono HB2.out.size)⟩
theorem ozT_nox (u : Nat) : Lib.hasPrefix ((⟨#[48]⟩ : ByteArray) ++ dec u).data.toList (ByteArray.mk #[48, 120]).data.toList = false := by
  have e1 : ((⟨#[48]⟩ : ByteArray) ++ dec u).data.toList = 48 :: Lib.decDigits u := by rw [ByteArray.data_append]; simp
  rw [e1]
  show List.isPrefixOf [48, 120] (48 :: Lib.decDigits u) = false
  have h := decDigits_dig u
  match hl : Lib.decDigits u with
  | [] => simp [List.isPrefixOf]
  | b :: r =>
    rw [hl] at h
    have hb := h b (by simp)
    simp only [List.isPrefixOf, Bool.and_eq_false_iff]
    right; left
    by_cases hq : (120 : UInt8) = b
    · subst hq
      exact absurd hb.2 (by decide)
    · simpa using hq
theorem parse_oz (u : Nat) (hu : u < 18446744073709551616) : Lib.parseUintB 64 ((⟨#[48]⟩ : ByteArray) ++ dec u).data.toList = .ok u := by
  have e1 : ((⟨#[48]⟩ : ByteArray) ++ dec u).data.toList = 48 :: Lib.decDigits u := by rw [ByteArray.data_append]; simp
  rw [e1, Lib.parseUintB, if_neg (by simp)]
  have := parse_dec u hu []
  rw [List.append_nil] at this
  show Lib.parseUintM 18446744073709551615 0 (48 :: Lib.decDigits u) = .ok u
  rw [Lib.parseUintM, if_pos (by decide), if_neg (by decide), if_neg (by decide)]
  exact this
theorem cutOz (u : Nat) (w : World) : Calls Tryd.prog 15 #[.string ((⟨#[48]⟩ : ByteArray) ++ dec u), .string ⟨#[48, 120]⟩] w fun e w' => e = .returned (.tuple #[.string ((⟨#[48]⟩ : ByteArray) ++ dec u), .bool false]) ∧ w' = w := by
  have h := Tryd.strings_CutPrefix ((⟨#[48]⟩ : ByteArray) ++ dec u) ⟨#[48, 120]⟩ w
  rw [Lib.trimPrefix, ozT_nox u, if_neg (by decide)] at h
  exact h
theorem oz_size (u : Nat) : ((⟨#[48]⟩ : ByteArray) ++ dec u).size = 1 + (dec u).size := by rw [ByteArray.size_append]; rfl
theorem parse10z_ok (u : Nat) (hu : u < 18446744073709551616) (w : World) : Calls Tryd.prog 16 #[.string ((⟨#[48]⟩ : ByteArray) ++ dec u), .int .i64 10, .int .i64 64] w fun e w' => e = .returned (.tuple #[.int .u64 u, .nilIface]) ∧ Below w.heap.size w w' := by
  refine (Tryd.strconv_ParseUint_10_at64_ok _ ?_ u (parse_oz u hu) w).mono ?_
  · rw [oz_size]
    have h := nDigits_le u hu
    rw [← Lib.decDigits_length] at h
    have : (dec u).size = (Lib.decDigits u).length := by show (Lib.decDigits u).toArray.size = _; simp
    omega
  · rintro e w' ⟨he, rfl | rfl⟩
    · exact ⟨he, Below.refl _ _⟩
    · exact ⟨he, below_bytes _ _ _⟩
set_option maxRecDepth 100000 in
set_option maxHeartbeats 4000000 in
theorem number_oz (u : Nat) (hu : u < 18446744073709551616) (w : World) (ht : TabP w) :
    Calls Tryd.prog 6 #[.string ((⟨#[48]⟩ : ByteArray) ++ dec u)] w fun e w' => e = .returned (.tuple #[.int .u64 0, .bool false]) ∧ Below w.heap.size w w' := by
  have HC := Lib.hid (fun W => cutOz u W)
  have HP := Lib.hid (parse10z_ok u hu w)
  have HT := Lib.hid ht
  have HF := Lib.hid fun W hW => fmtU_any u hu W hW
  have hne : ((dec u).toList == ((⟨#[48]⟩ : ByteArray) ++ dec u).toList) = false := by
    rw [Lib.toList_data, Lib.toList_data]
    refine beq_eq_false_iff_ne.2 fun h => ?_
    have h2 := congrArg List.length h
    rw [ByteArray.data_append] at h2
    simp at h2
  clear ht
  generalize (⟨#[48]⟩ : ByteArray) ++ dec u = R at HC HP hne ⊢
  generalize dec u = S at HF hne
  have e0 : (S.toList != R.toList) = true := by rw [bne, hne]; rfl
  go_enter Tryd.func6, Tryd.ntmps6
  go_wp2_with fail
  refine (HC.out _).mono ?_
  rintro e w1 ⟨rfl, rfl⟩
  go_wp2_with fail
  refine HP.out.mono ?_
  rintro e w2 ⟨rfl, hB2⟩
  have HW := Lib.hid (HF.out w2 (tab_on HT.out hB2 (Nat.le_refl _)))
  have HB2 := Lib.hid hB2
  clear hB2
  go_wp2_with (go_at_call 17; refine HW.out.mono ?_; rintro e w3 ⟨rfl, hB3⟩)
  go_ret2
  exact ⟨rfl, HB2.out.trans (hB3.mono HB2.out.size)⟩
end Go.Proofs.YtlajmdfebnicnaaDoor
