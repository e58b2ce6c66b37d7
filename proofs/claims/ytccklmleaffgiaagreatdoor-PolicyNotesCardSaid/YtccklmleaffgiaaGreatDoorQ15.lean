/-
  The contract of act.find at the question of act.Read.
-/
import Derived.Test.YtccklmleaffgiaaGreatDoorQ12
import Derived.RegionTactic
import Derived.Test.YtccklmleaffgiaaGreatDoorShelf
import Derived.Test.YtccklmleaffgiaaGreatDoorQ1
import Derived.Lib.Walk
import Derived.Lib.ItoaMem
import Derived.Lib.SmallJoins
import Derived.Lib.AppendIntMem
import Derived.BigCall
import Derived.BigGuard
import Derived.Test.YtccklmleaffgiaaGreatDoorShb
import Derived.Shelf.Strings.SlTrimAscii
import Derived.Deep.Cut
import Derived.WalkSmall
import Derived.Shelf.Pu.ErrVarParseUint
namespace Go.Proofs.YtccklmleaffgiaaGreatDoor
open Go.RowKit
set_option linter.unusedVariables false

theorem kwA_inj {j k : Nat} (hj : j < 8) (hk : k < 8) : ((kwA k).toList == (kwA j).toList) = (k == j) := by
  have h1 : j = 0 ∨ j = 1 ∨ j = 2 ∨ j = 3 ∨ j = 4 ∨ j = 5 ∨ j = 6 ∨ j = 7 := by omega
  have h2 : k = 0 ∨ k = 1 ∨ k = 2 ∨ k = 3 ∨ k = 4 ∨ k = 5 ∨ k = 6 ∨ k = 7 := by omega
  rcases h1 with rfl | rfl | rfl | rfl | rfl | rfl | rfl | rfl <;> rcases h2 with rfl | rfl | rfl | rfl | rfl | rfl | rfl | rfl <;> decide +kernel
end Go.Proofs.YtccklmleaffgiaaGreatDoor

/-
  strconv.FormatUint at base 10: a number's decimal text (off the shelf's contracts of what it calls).
-/
namespace Go.Proofs.YtccklmleaffgiaaGreatDoor
open Go.Shelf Go.RowKit Go.Sort Go.Lib
set_option linter.unusedVariables false

abbrev TabP (w : World) : Prop := Lib.TabIs Tryz.prog w "internal/strconv.uint64pow10" .u64 Lib.pow10Tab
theorem gPow : ∃ g, Tryz.prog.globalNamed "internal/strconv.uint64pow10" = some g := Option.isSome_iff_exists.1 (by kernel_rfl)
theorem tab_on {w w' : World} {B : Nat} (h : TabP w) (hb : Below B w w') (hB : w.heap.size ≤ B) : TabP w' := by
  obtain ⟨g, hg⟩ := gPow
  exact Joins.tab_stays hg h hb hB
/-- A number's decimal text. -/
abbrev dec (u : Nat) : ByteArray := ⟨(Lib.decDigits u).toArray⟩

set_option maxHeartbeats 6400000 in
set_option maxRecDepth 100000 in
theorem ifmt_any (u : Nat) (hu64 : u < 18446744073709551616) (w : World) (htab : TabP w) :
    Calls Tryz.prog 130 #[.int .u64 u, .int .i64 10] w fun e w' => e = .returned (.string (dec u)) ∧ Below w.heap.size w w' := by
  by_cases hs : u < 100
  · have v0 : IntKind.i64.wrap (u : Int) = u := by rw [IntKind.wrap_i64]; omega
    have HR := Lib.hid (Below.refl w.heap.size w)
    have q0 : (u : Int) < 100 := by omega
    have q1 : decide ((u : Int) < 100) = true := by simpa using q0
    go_enter Tryz.func130, Tryz.ntmps130
    go_wp2_with (go_at_call 126; refine (Tryz.internal_strconv_small u hs _).mono ?_; rintro e w' ⟨rfl, rfl⟩)
    go_ret
    exact ⟨rfl, HR.out⟩
  · have hu1 : 1 ≤ u := by omega
    have q0 : ¬ (u : Int) < 100 := by omega
    have q1 : decide ((u : Int) < 100) = false := by simpa using q0
    have hnd20 : Lib.nDigits u ≤ 20 := by have := Lib.numDigits_eq u hu1 hu64; split at this <;> omega
    have hb3 : Lib.nDigits u ≤ 23 := by omega
    have hal : Tryz.prog.arrayLen 209 = 24 := by simp [Program.arrayLen, Tryz.underlying209]
    have hsl1 : ∀ W, (Instr.sliceAt 209 (.pointer (some ⟨w.heap.size, 0, none⟩)) none (some (.int .i64 (Lib.nDigits u : Int))) none).run Tryz.prog W = .ok (.slice (some ⟨w.heap.size, 0, none⟩) (Lib.nDigits u) 24) W := fun W => by
      rw [run_sliceAt_array_h W 209 ⟨w.heap.size, 0, none⟩ (by simp [Program.arrayLen, Program.elem, Tryz.underlying209]) .i64 (Lib.nDigits u : Int) (by omega) (by rw [hal]; omega)]
      go_simp
      first | done | omega
    have hz1 : ∀ j, j < Lib.nDigits u → Lib.zeros24[j]? = some (.int .u8 0) := fun j hj => Lib.zeros24_at j (by omega)
    have hH0 : Holds (fun (b : UInt8) => Value.int .u8 (b.toNat : Int)) (w.alloc (.cells Lib.zeros24 209)) w.heap.size 0 (Array.replicate (Lib.nDigits u) (0 : UInt8)) := fun j hj => by
      have hj' : j < Lib.nDigits u := by simpa using hj
      refine ⟨?_, World.frozen?_alloc_new _ _ _ _⟩
      rw [World.cell?_alloc_new, Nat.zero_add, hz1 j hj', getElem!_pos _ j hj]
      simp
    have hfmt := Tryz.internal_strconv_formatBase10 w.heap.size 0 24 u (Array.replicate (Lib.nDigits u) 0) (w.alloc (.cells Lib.zeros24 209)) hH0 (by rw [Array.size_replicate]; exact Lib.lt_pow_nDigits u) hu64 (by rw [Array.size_replicate]; omega)
    rw [Array.size_replicate] at hfmt
    have HH0 := Lib.hid hH0
    have HW := Lib.hid htab
    clear hH0 hal htab
    go_enter Tryz.func130, Tryz.ntmps130
    go_wp2_with (go_at_call 127; refine (Tryz.internal_strconv_numDigits u hu1 hu64 _ (Lib.tabIs_alloc HW.out _)).mono ?_; rintro e w' ⟨rfl, rfl⟩)
    go_at_call 128
    refine hfmt.mono ?_
    rintro e w' ⟨rfl, k, v', dk, rfl, hF⟩
    have hcv : (convert 93 9 (.slice (some ⟨w.heap.size, 0, none⟩) (Lib.nDigits u) 24)).run Tryz.prog ((putRow (fun (b : UInt8) => Value.int .u8 (b.toNat : Int)) (w.alloc (.cells Lib.zeros24 209)) w.heap.size 0 dk).drewN k) = .ok (.string ⟨(Lib.decDigits u).toArray⟩) ((putRow (fun (b : UInt8) => Value.int .u8 (b.toNat : Int)) (w.alloc (.cells Lib.zeros24 209)) w.heap.size 0 dk).drewN k) := by
      have h := run_convert_bytes_back (P := Tryz.prog) ((putRow (fun (b : UInt8) => Value.int .u8 (b.toNat : Int)) (w.alloc (.cells Lib.zeros24 209)) w.heap.size 0 dk).drewN k) 93 9 5 ⟨w.heap.size, 0, none⟩ 24 (Lib.decDigits u) Tryz.underlying93 Tryz.underlying5 Tryz.underlying9 (fun j hj => by
        rw [Lib.row_is_numeral hF j hj, Lib.add_plain, World.cell?_drewN]
        exact cell?_putRow (fun (b : UInt8) => Value.int .u8 (b.toNat : Int)) _ w.heap.size 0 _ dk HH0.out (by rw [hF.size, Array.size_replicate]) j (by rw [hF.size]; rw [Lib.decDigits_length] at hj; exact hj))
      rw [Lib.decDigits_length] at h
      exact h
    go_wp2
    go_ret
    refine ⟨rfl, ?_⟩
    rw [alloc_eq_grow]
    obtain ⟨os', _, e⟩ := putRow_grow_new (fun (b : UInt8) => Value.int .u8 (b.toNat : Int)) w #[.cells Lib.zeros24 209] w.heap.size 0 dk (Nat.le_refl _)
    rw [e]
    have hb := below_grow w.heap.size w (Nat.le_refl _) 0 os'
    rw [World.drewN_zero] at hb
    exact hb.trans (Joins.below_draws _ _ k)
set_option maxHeartbeats 1000000 in
theorem fmtU_any (u : Nat) (hu64 : u < 18446744073709551616) (w : World) (htab : TabP w) :
    Calls Tryz.prog 98 #[.int .u64 u, .int .i64 10] w fun e w' => e = .returned (.string (dec u)) ∧ Below w.heap.size w w' := by
  have HF := Lib.hid (ifmt_any u hu64 w htab)
  clear htab
  go_enter Tryz.func98, Tryz.ntmps98
  go_wp2_with (go_at_call 130; refine HF.out.mono ?_; rintro e w1 ⟨rfl, hB1⟩)
  go_ret
  exact ⟨rfl, hB1⟩
set_option maxHeartbeats 1000000 in
theorem decimal_any (u : Nat) (hu64 : u < 18446744073709551616) (w : World) (htab : TabP w) :
    Calls Tryz.prog 82 #[.int .u64 u] w fun e w' => e = .returned (.string (dec u)) ∧ Below w.heap.size w w' := by
  have HF := Lib.hid (fmtU_any u hu64 w htab)
  clear htab
  go_enter Tryz.func82, Tryz.ntmps82
  go_wp2_with (go_at_call 98; refine HF.out.mono ?_; rintro e w1 ⟨rfl, hB1⟩)
  go_ret
  exact ⟨rfl, hB1⟩
end Go.Proofs.YtccklmleaffgiaaGreatDoor

/-
  The contracts of act.Right, act.Text and of strainerlaw09's 'of' (a seat that holds strconv.Itoa's contract: its Shelf text).
-/
namespace Go.Proofs.YtccklmleaffgiaaGreatDoor
open Go.RowKit

theorem itoa_size {nm : Int} (h0 : 0 ≤ nm) (h1 : nm ≤ 65535) : (Lib.itoa nm).length ≤ 5 := by
  obtain ⟨u, rfl⟩ := Int.eq_ofNat_of_zero_le h0
  rw [Lib.itoa_nonneg, Lib.decDigits_length]
  have h : ∀ k, k < 65536 → Lib.nDigits k ≤ 5 := by
    intro k hk
    by_cases a1 : k < 10
    · rw [Lib.nDigits_small a1]; omega
    by_cases a2 : k < 100
    · rw [Lib.nDigits_unique 1 k (by omega) (by omega)]; omega
    by_cases a3 : k < 1000
    · rw [Lib.nDigits_unique 2 k (by omega) (by omega)]; omega
    by_cases a4 : k < 10000
    · rw [Lib.nDigits_unique 3 k (by omega) (by omega)]; omega
    · rw [Lib.nDigits_unique 4 k (by omega) (by omega)]; omega
  exact h u (by omega)
theorem kw_size (j : Nat) : (kwA j).size ≤ 11 := by unfold kwA; split <;> decide

set_option maxRecDepth 100000 in
set_option maxHeartbeats 4000000 in
theorem text_plain (j : Nat) (hj : j < 8) (nm : Int) (hm : mayA j nm = true) (hk : knA j = false) (w : World) :
    Calls Tryz.prog 37 #[.agg #[.int .i64 ((j : Int) + 1), .int .i64 nm]] w fun e w' => e = .returned (.string (kwA j)) ∧ Below w.heap.size w w' := by
  have HF := Lib.hid (kindOf_ok j hj nm hm (w.alloc (.cells #[.int .i64 ((j : Int) + 1), .int .i64 nm] 23)))
  have hb : Below w.heap.size w (w.alloc (.cells #[.int .i64 ((j : Int) + 1), .int .i64 nm] 23)) := (Below.refl _ _).alloc (Nat.le_refl _) _
  have HB := Lib.hid hb
  clear hb hm
  go_enter Tryz.func37, Tryz.ntmps37
  go_wp2_with fail
  refine HF.out.mono ?_
  rintro e w1 ⟨⟨F, cap, rfl⟩, hB1⟩
  rw [hk]
  have HBE := Lib.hid ((HB.out.trans (hB1.mono HB.out.size)).alloc (by have := HB.out.size; have := hB1.size; omega) (.cells #[.string (kwA j), .int .u32 (kcA j), .bool false, .func (.func F) #[] cap] 108))
  have hr := RowC.new w1 #[.string (kwA j), .int .u32 (kcA j), .bool false, .func (.func F) #[] cap] 108 _ rfl
  have c0 := hr.cell 0 _ rfl
  have c2 := hr.cell 2 _ rfl
  clear hB1 hr
  go_wp2
  go_ret
  exact ⟨rfl, HBE.out⟩
set_option maxRecDepth 100000 in
set_option maxHeartbeats 8000000 in
theorem text_num (j : Nat) (hj : j < 8) (nm : Int) (hm : mayA j nm = true) (hk : knA j = true) (w : World) (ht : TabP w) :
    Calls Tryz.prog 37 #[.agg #[.int .i64 ((j : Int) + 1), .int .i64 nm]] w fun e w' => e = .returned (.string ((kwA j ++ ⟨#[32]⟩) ++ ⟨(Lib.itoa nm).toArray⟩)) ∧ Below w.heap.size w w' := by
  have HF := Lib.hid (kindOf_ok j hj nm hm (w.alloc (.cells #[.int .i64 ((j : Int) + 1), .int .i64 nm] 23)))
  have hb : Below w.heap.size w (w.alloc (.cells #[.int .i64 ((j : Int) + 1), .int .i64 nm] 23)) := (Below.refl _ _).alloc (Nat.le_refl _) _
  have hbd := may_bd hm
  have his := itoa_size hbd.1 hbd.2
  have hks := kw_size j
  have r0 : RowC (w.alloc (.cells #[.int .i64 ((j : Int) + 1), .int .i64 nm] 23)) w.heap.size #[.int .i64 ((j : Int) + 1), .int .i64 nm] 23 := RowC.new _ _ _ _ rfl
  have R0 := Lib.hid r0
  have HB := Lib.hid hb
  have HT := Lib.hid ht
  clear hb hm r0 ht
  go_enter Tryz.func37, Tryz.ntmps37
  go_wp2_with fail
  refine HF.out.mono ?_
  rintro e w1 ⟨⟨F, cap, rfl⟩, hB1⟩
  rw [hk]
  have hbe := ((HB.out.trans (hB1.mono HB.out.size)).alloc (by have := HB.out.size; have := hB1.size; omega) (.cells #[.string (kwA j), .int .u32 (kcA j), .bool true, .func (.func F) #[] cap] 108))
  have HBE := Lib.hid hbe
  have hr := RowC.new w1 #[.string (kwA j), .int .u32 (kcA j), .bool true, .func (.func F) #[] cap] 108 _ rfl
  have c0 := hr.cell 0 (.string (kwA j)) rfl
  have c2 := hr.cell 2 (.bool true) rfl
  have a1 := ((R0.out.below hB1 R0.out.lt).alloc (.cells #[.string (kwA j), .int .u32 (kcA j), .bool true, .func (.func F) #[] cap] 108)).cell 1 (.int .i64 nm) rfl
  have HI := Lib.hid fun W h => Tryz.strconv_Itoa nm (by omega) (by omega) W h
  have HD := Lib.hid (tab_on HT.out hbe.drew (Nat.le_refl _))
  have s3 : ¬ 9223372036854775807 < (kwA j).size + 1 := by omega
  have s4 : ¬ 9223372036854775807 < (kwA j).size + 1 + (Lib.itoa nm).length := by omega
  have l0 := World.block_lt_of_cell? _ _ c0
  have l1 := World.block_lt_of_cell? _ _ a1
  have HC0 := Lib.hid (show World.cell? (w1.alloc (.cells #[.string (kwA j), .int .u32 (kcA j), .bool true, .func (.func F) #[] cap] 108)).drew _ = _ from c0)
  have HA1 := Lib.hid (show World.cell? (w1.alloc (.cells #[.string (kwA j), .int .u32 (kcA j), .bool true, .func (.func F) #[] cap] 108)).drew _ = _ from a1)
  have L0 := Lib.hid l0
  have L1 := Lib.hid l1
  clear hB1 hr hbe l0 l1
  go_wp2_with fail
  generalize (w1.alloc (.cells #[.string (kwA j), .int .u32 (kcA j), .bool true, .func (.func F) #[] cap] 108)) = W at *
  generalize w1.heap.size = B at *
  generalize hA : w.heap.size = A at *
  have HA := Lib.hid hA
  clear hA
  have HJ : Hid (Calls Tryz.prog 63 #[.int .i64 nm] W.drew fun e w' => e = .returned (.string ⟨(Lib.itoa nm).toArray⟩) ∧ w'.cell? ⟨B, 0, none⟩ = some (.string (kwA j)) ∧ w'.cell? ⟨A, 1, none⟩ = some (.int .i64 nm) ∧ Below A w w') := Lib.hid ((HI.out _ HD.out).mono (by
    rintro e w2 ⟨rfl, k, os, rfl⟩
    exact ⟨rfl, ((Lib.below_grow _ W.drew (Nat.le_refl _) k os).cell (p := ⟨B, 0, none⟩) L0.out).trans HC0.out, ((Lib.below_grow _ W.drew (Nat.le_refl _) k os).cell (p := ⟨A, 1, none⟩) L1.out).trans HA1.out, HBE.out.drew.trans (Lib.below_grow _ _ (by have := HBE.out.drew.size; rw [HA.out] at this; exact this) _ _)⟩))
  clear HI HD HC0 HA1 L0 L1
  go_region_with (go_at_call 63; refine HJ.out.mono ?_; rintro e w2 ⟨rfl, e0, e1, hb2⟩)
  all_goals go_wp2
  all_goals go_ret
  all_goals exact ⟨rfl, by rw [HA.out]; exact hb2⟩

end Go.Proofs.YtccklmleaffgiaaGreatDoor

/-
  A number's decimal text read: cond.Number; an argument's text: cond.argument.
-/
namespace Go.Proofs.YtccklmleaffgiaaGreatDoor
open Go.Shelf Go.RowKit Go.Sort Go.Lib
set_option linter.unusedVariables false

theorem dig_nat {u : Nat} (h : u < 10) : (UInt8.ofNat (48 + u)).toNat = 48 + u := by
  rw [UInt8.toNat_ofNat']
  show (48 + u) % 256 = _
  omega
theorem parse_dec : ∀ (u : Nat), u < 18446744073709551616 → ∀ r, Lib.parseUintM 18446744073709551615 0 (Lib.decDigits u ++ r) = Lib.parseUintM 18446744073709551615 u r := by
  intro u
  induction u using Nat.strongRecOn with
  | _ u ih =>
    intro hu r
    by_cases h : u < 10
    · rw [Lib.decDigits_one h, List.singleton_append, Lib.parseUintM, dig_nat h, if_pos (by omega), if_neg (by omega), if_neg (by omega)]
      congr 1
      omega
    · rw [Lib.decDigits, dif_neg h, List.append_assoc, ih (u / 10) (by omega) (by omega), List.singleton_append, Lib.parseUintM, dig_nat (Nat.mod_lt _ (by omega)), if_pos (by omega), if_neg (by omega), if_neg (by omega)]
      congr 1
      omega
theorem decDigits_ne (u : Nat) : Lib.decDigits u ≠ [] := by
  rw [Lib.decDigits]
  split <;> simp
theorem parse_ok (u : Nat) (hu : u < 18446744073709551616) : Lib.parseUintB 64 (dec u).data.toList = .ok u := by
  show Lib.parseUintB 64 (Lib.decDigits u) = .ok u
  rw [Lib.parseUintB, if_neg (decDigits_ne u)]
  have := parse_dec u hu []
  rw [List.append_nil] at this
  exact this
theorem decDigits_dig (u : Nat) : ∀ c ∈ Lib.decDigits u, 48 ≤ c.toNat ∧ c.toNat ≤ 57 := by
  induction u using Nat.strongRecOn with
  | _ u ih =>
    intro c hc
    by_cases h : u < 10
    · rw [Lib.decDigits_one h, List.mem_singleton] at hc
      subst hc
      rw [dig_nat h]; omega
    · rw [Lib.decDigits, dif_neg h, List.mem_append, List.mem_singleton] at hc
      rcases hc with hc | rfl
      · exact ih (u / 10) (by omega) c hc
      · rw [dig_nat (Nat.mod_lt _ (by omega))]; omega
theorem dec_no0x (u : Nat) : Lib.hasPrefix (dec u).data.toList (ByteArray.mk #[48, 120]).data.toList = false := by
  show List.isPrefixOf [48, 120] (Lib.decDigits u) = false
  have h := decDigits_dig u
  match hl : Lib.decDigits u with
  | [] => rfl
  | [a] => simp [List.isPrefixOf]
  | a :: b :: r =>
    rw [hl] at h
    have hb := h b (by simp)
    simp only [List.isPrefixOf, Bool.and_eq_false_iff]
    right; left
    by_cases hq : (120 : UInt8) = b
    · subst hq
      exact absurd hb.2 (by decide)
    · simpa using hq
theorem cut0x (u : Nat) (w : World) : Calls Tryz.prog 157 #[.string (dec u), .string ⟨#[48, 120]⟩] w fun e w' => e = .returned (.tuple #[.string (dec u), .bool false]) ∧ w' = w := by
  have h := Tryz.strings_CutPrefix (dec u) ⟨#[48, 120]⟩ w
  rw [Lib.trimPrefix, dec_no0x u, if_neg (by decide)] at h
  exact h
theorem below_bytes (w : World) (e : TypeId) (s : ByteArray) : Below w.heap.size w (Lib.bytesWorld w e s) := ⟨rfl, rfl, rfl, by rw [Lib.bytesWorld_size]; omega, fun j hj => Lib.bytesWorld_at_old w e s j hj⟩
theorem nDigits_le (u : Nat) (h : u < 18446744073709551616) : Lib.nDigits u ≤ 20 := by
  by_cases h1 : 1 ≤ u
  · have := Lib.numDigits_eq u h1 h; split at this <;> omega
  · obtain rfl : u = 0 := by omega
    rw [Lib.nDigits_small (by omega)]; omega
theorem parseU_ok (u : Nat) (hu : u < 18446744073709551616) (w : World) : Calls Tryz.prog 156 #[.string (dec u), .int .i64 10, .int .i64 64] w fun e w' => e = .returned (.tuple #[.int .u64 u, .nilIface]) ∧ Below w.heap.size w w' := by
  refine (Tryz.strconv_ParseUint_10_at64_ok (dec u) ?_ u (parse_ok u hu) w).mono ?_
  · show (Lib.decDigits u).toArray.size ≤ _
    have h := nDigits_le u hu
    rw [← Lib.decDigits_length] at h
    simp
    omega
  · rintro e w' ⟨he, rfl | rfl⟩
    · exact ⟨he, Below.refl _ _⟩
    · exact ⟨he, below_bytes _ _ _⟩
set_option maxRecDepth 100000 in
set_option maxHeartbeats 4000000 in
theorem number_dec (u : Nat) (hu : u < 18446744073709551616) (w : World) (ht : TabP w) :
    Calls Tryz.prog 125 #[.string (dec u)] w fun e w' => e = .returned (.tuple #[.int .u64 u, .bool true]) ∧ Below w.heap.size w w' := by
  have HC := Lib.hid (fun W => cut0x u W)
  have HP := Lib.hid (parseU_ok u hu w)
  have HT := Lib.hid ht
  have HF := Lib.hid fun W hW => fmtU_any u hu W hW
  clear ht
  generalize dec u = S at HC HP HF ⊢
  have e0 : (S.toList != S.toList) = false := by simp
  have e1 : (S.toList == S.toList) = true := by simp
  go_enter Tryz.func125, Tryz.ntmps125
  go_wp2_with fail
  refine (HC.out _).mono ?_
  rintro e w1 ⟨rfl, rfl⟩
  go_wp2_with fail
  refine HP.out.mono ?_
  rintro e w2 ⟨rfl, hB2⟩
  have HW := Lib.hid (HF.out w2 (tab_on HT.out hB2 (Nat.le_refl _)))
  have HB2 := Lib.hid hB2
  clear hB2
  go_wp2_with (go_at_call 98; refine HW.out.mono ?_; rintro e w3 ⟨rfl, hB3⟩)
  go_ret2
  exact ⟨rfl, HB2.out.trans (hB3.mono HB2.out.size)⟩

/-- An argument's text. -/
abbrev argW (i : Nat) : ByteArray := ⟨#[97, UInt8.ofNat (48 + i)]⟩
theorem trim_dig (c : UInt8) (hc : 48 ≤ c.toNat ∧ c.toNat ≤ 57) (w : World) : Calls Tryz.prog 87 #[.string ⟨#[c]⟩, .string ⟨#[48, 49, 50, 51, 52, 53, 54, 55, 56, 57]⟩] w fun e w' => e = .returned (.string ⟨#[]⟩) ∧ Below w.heap.size w w' := by
  refine (Any.strings_Trim_laid Tryz.lays160 (by kernel_rfl) ⟨#[c]⟩ ⟨#[48, 49, 50, 51, 52, 53, 54, 55, 56, 57]⟩ w (by show (1 : Nat) ≤ _; omega) (by decide) (ascii_of_all (by decide))).mono ?_
  rintro e w' ⟨he, hB⟩
  refine ⟨he.trans ?_, hB⟩
  have hcc : ([48, 49, 50, 51, 52, 53, 54, 55, 56, 57] : List UInt8).contains c = true := by
    have : c = UInt8.ofNat c.toNat := (UInt8.ofNat_toNat).symm
    rw [this]
    have h : c.toNat = 48 ∨ c.toNat = 49 ∨ c.toNat = 50 ∨ c.toNat = 51 ∨ c.toNat = 52 ∨ c.toNat = 53 ∨ c.toNat = 54 ∨ c.toNat = 55 ∨ c.toNat = 56 ∨ c.toNat = 57 := by omega
    rcases h with h | h | h | h | h | h | h | h | h | h <;> rw [h] <;> decide
  show Ending.returned (.string ⟨(Lib.trimS [c] [48, 49, 50, 51, 52, 53, 54, 55, 56, 57]).toArray⟩) = _
  have : Lib.trimS [c] [48, 49, 50, 51, 52, 53, 54, 55, 56, 57] = [] := by
    simp only [Lib.trimS, Lib.trimRightS, Lib.trimLeftS, List.reverse_singleton, List.dropWhile, hcc, List.reverse_nil]
  rw [this]
set_option maxRecDepth 100000 in
set_option maxHeartbeats 4000000 in
theorem argument_ok (i : Nat) (hi : i < 6) (w : World) : Calls Tryz.prog 122 #[.string (argW i)] w fun e w' => e = .returned (.tuple #[.int .i64 i, .int .i64 0]) ∧ Below w.heap.size w w' := by
  have h : i = 0 ∨ i = 1 ∨ i = 2 ∨ i = 3 ∨ i = 4 ∨ i = 5 := by omega
  clear hi
  rcases h with rfl | rfl | rfl | rfl | rfl | rfl
  · show Calls Tryz.prog 122 #[.string ⟨#[97, 48]⟩] w fun e w' => e = .returned (.tuple #[.int .i64 0, .int .i64 0]) ∧ Below w.heap.size w w'
    have hc : Calls Tryz.prog 157 #[.string ⟨#[97, 48]⟩, .string ⟨#[97]⟩] w fun e w' => e = .returned (.tuple #[.string ⟨#[48]⟩, .bool true]) ∧ w' = w := Tryz.strings_CutPrefix ⟨#[97, 48]⟩ ⟨#[97]⟩ w
    have HC := Lib.hid hc
    have HT := Lib.hid (trim_dig 48 (by decide) w)
    clear hc
    go_enter Tryz.func122, Tryz.ntmps122
    go_wp2_with fail
    refine HC.out.mono ?_
    rintro e w1 ⟨rfl, rfl⟩
    go_wp2_with (go_at_call 87; refine HT.out.mono ?_; rintro e w3 ⟨rfl, hB3⟩)
    go_ret2
    exact ⟨rfl, hB3⟩
  · show Calls Tryz.prog 122 #[.string ⟨#[97, 49]⟩] w fun e w' => e = .returned (.tuple #[.int .i64 1, .int .i64 0]) ∧ Below w.heap.size w w'
    have hc : Calls Tryz.prog 157 #[.string ⟨#[97, 49]⟩, .string ⟨#[97]⟩] w fun e w' => e = .returned (.tuple #[.string ⟨#[49]⟩, .bool true]) ∧ w' = w := Tryz.strings_CutPrefix ⟨#[97, 49]⟩ ⟨#[97]⟩ w
    have HC := Lib.hid hc
    have HT := Lib.hid (trim_dig 49 (by decide) w)
    clear hc
    go_enter Tryz.func122, Tryz.ntmps122
    go_wp2_with fail
    refine HC.out.mono ?_
    rintro e w1 ⟨rfl, rfl⟩
    go_wp2_with (go_at_call 87; refine HT.out.mono ?_; rintro e w3 ⟨rfl, hB3⟩)
    go_ret2
    exact ⟨rfl, hB3⟩
  · show Calls Tryz.prog 122 #[.string ⟨#[97, 50]⟩] w fun e w' => e = .returned (.tuple #[.int .i64 2, .int .i64 0]) ∧ Below w.heap.size w w'
    have hc : Calls Tryz.prog 157 #[.string ⟨#[97, 50]⟩, .string ⟨#[97]⟩] w fun e w' => e = .returned (.tuple #[.string ⟨#[50]⟩, .bool true]) ∧ w' = w := Tryz.strings_CutPrefix ⟨#[97, 50]⟩ ⟨#[97]⟩ w
    have HC := Lib.hid hc
    have HT := Lib.hid (trim_dig 50 (by decide) w)
    clear hc
    go_enter Tryz.func122, Tryz.ntmps122
    go_wp2_with fail
    refine HC.out.mono ?_
    rintro e w1 ⟨rfl, rfl⟩
    go_wp2_with (go_at_call 87; refine HT.out.mono ?_; rintro e w3 ⟨rfl, hB3⟩)
    go_ret2
    exact ⟨rfl, hB3⟩
  · show Calls Tryz.prog 122 #[.string ⟨#[97, 51]⟩] w fun e w' => e = .returned (.tuple #[.int .i64 3, .int .i64 0]) ∧ Below w.heap.size w w'
    have hc : Calls Tryz.prog 157 #[.string ⟨#[97, 51]⟩, .string ⟨#[97]⟩] w fun e w' => e = .returned (.tuple #[.string ⟨#[51]⟩, .bool true]) ∧ w' = w := Tryz.strings_CutPrefix ⟨#[97, 51]⟩ ⟨#[97]⟩ w
    have HC := Lib.hid hc
    have HT := Lib.hid (trim_dig 51 (by decide) w)
    clear hc
    go_enter Tryz.func122, Tryz.ntmps122
    go_wp2_with fail
    refine HC.out.mono ?_
    rintro e w1 ⟨rfl, rfl⟩
    go_wp2_with (go_at_call 87; refine HT.out.mono ?_; rintro e w3 ⟨rfl, hB3⟩)
    go_ret2
    exact ⟨rfl, hB3⟩
  · show Calls Tryz.prog 122 #[.string ⟨#[97, 52]⟩] w fun e w' => e = .returned (.tuple #[.int .i64 4, .int .i64 0]) ∧ Below w.heap.size w w'
    have hc : Calls Tryz.prog 157 #[.string ⟨#[97, 52]⟩, .string ⟨#[97]⟩] w fun e w' => e = .returned (.tuple #[.string ⟨#[52]⟩, .bool true]) ∧ w' = w := Tryz.strings_CutPrefix ⟨#[97, 52]⟩ ⟨#[97]⟩ w
    have HC := Lib.hid hc
    have HT := Lib.hid (trim_dig 52 (by decide) w)
    clear hc
    go_enter Tryz.func122, Tryz.ntmps122
    go_wp2_with fail
    refine HC.out.mono ?_
    rintro e w1 ⟨rfl, rfl⟩
    go_wp2_with (go_at_call 87; refine HT.out.mono ?_; rintro e w3 ⟨rfl, hB3⟩)
    go_ret2
    exact ⟨rfl, hB3⟩
  · show Calls Tryz.prog 122 #[.string ⟨#[97, 53]⟩] w fun e w' => e = .returned (.tuple #[.int .i64 5, .int .i64 0]) ∧ Below w.heap.size w w'
    have hc : Calls Tryz.prog 157 #[.string ⟨#[97, 53]⟩, .string ⟨#[97]⟩] w fun e w' => e = .returned (.tuple #[.string ⟨#[53]⟩, .bool true]) ∧ w' = w := Tryz.strings_CutPrefix ⟨#[97, 53]⟩ ⟨#[97]⟩ w
    have HC := Lib.hid hc
    have HT := Lib.hid (trim_dig 53 (by decide) w)
    clear hc
    go_enter Tryz.func122, Tryz.ntmps122
    go_wp2_with fail
    refine HC.out.mono ?_
    rintro e w1 ⟨rfl, rfl⟩
    go_wp2_with (go_at_call 87; refine HT.out.mono ?_; rintro e w3 ⟨rfl, hB3⟩)
    go_ret2
    exact ⟨rfl, hB3⟩
end Go.Proofs.YtccklmleaffgiaaGreatDoor

/-
  act.plain at a number's decimal text; act.Read at a right action's words.
-/
namespace Go.Proofs.YtccklmleaffgiaaGreatDoor
open Go.Shelf Go.RowKit
set_option linter.unusedVariables false

theorem parse_decM (M : Nat) (hM : M ≤ 18446744073709551615) : ∀ (u : Nat), u ≤ M → ∀ r, Lib.parseUintM M 0 (Lib.decDigits u ++ r) = Lib.parseUintM M u r := by
  intro u
  induction u using Nat.strongRecOn with
  | _ u ih =>
    intro hu r
    by_cases h : u < 10
    · rw [Lib.decDigits_one h, List.singleton_append, Lib.parseUintM, dig_nat h, if_pos (by omega), if_neg (by omega), if_neg (by omega)]
      congr 1
      omega
    · rw [Lib.decDigits, dif_neg h, List.append_assoc, ih (u / 10) (by omega) (by omega), List.singleton_append, Lib.parseUintM, dig_nat (Nat.mod_lt _ (by omega)), if_pos (by omega), if_neg (by omega), if_neg (by omega)]
      congr 1
      omega
theorem parse_ok32 (u : Nat) (hu : u ≤ 4294967295) : Lib.parseUintB 32 (dec u).data.toList = .ok u := by
  show Lib.parseUintB 32 (Lib.decDigits u) = .ok u
  rw [Lib.parseUintB, if_neg (decDigits_ne u)]
  have := parse_decM (2 ^ 32 - 1) (by omega) u (by omega) []
  rw [List.append_nil] at this
  exact this
theorem results_ctt9 {P : Program} {fn : Func} {p q r : Tmp} {ty : TypeId} (h : fn.results = #[.cell p ty, .tmp q, .tmp r]) (tmps : Array Value) (w : World) (g : Nat) (t : TypeId) (cs : Array Value) (fr : Nat × Nat) (d : TypeDesc) (u v : Value)
    (hp : tmps.getD p undef = .pointer (some ⟨g, 0, none⟩)) (hq : tmps.getD q undef = u) (hr : tmps.getD r undef = v) (hg : w.heap[g]? = some (.cells cs t fr))
    (hu : P.underlying ty = some d) (hd : (match d with | .struct _ | .array _ _ => true | _ => false) = true) (hi : (P.info? ty).map (·.size) = some cs.size) :
    (results fn tmps).run P w = .ok (.tuple #[.agg cs, u, v]) w := by
  have hp' : tmps[p]?.getD undef = .pointer (some ⟨g, 0, none⟩) := by simpa using hp
  have hq' : tmps[q]?.getD undef = u := by simpa using hq
  have hr' : tmps[r]?.getD undef = v := by simpa using hr
  simp [results, h, hp', hq', hr', asAddr, run_loadVar_row w g t ty cs fr d hg hu hd hi, Result.andThen]
theorem infoAct : (Tryz.prog.info? 23).map (·.size) = some 2 := by kernel_rfl
abbrev zA : Array Value := #[.int .i64 0, .int .i64 0]

end Go.Proofs.YtccklmleaffgiaaGreatDoor

/-
  Texts of plain digits, and act.plain at every text.
-/
namespace Go.Proofs.YtccklmleaffgiaaGreatDoor
open Go.Shelf Go.RowKit
set_option linter.unusedVariables false

theorem dec_len_pow : ∀ (k u : Nat), u < 10 ^ (k + 1) → (Lib.decDigits u).length ≤ k + 1 := by
  intro k
  induction k with
  | zero => intro u h; rw [Lib.decDigits_one (by omega)]; simp
  | succ k ih =>
    intro u h
    by_cases h10 : u < 10
    · rw [Lib.decDigits_one h10]; simp
    · rw [Lib.decDigits, dif_neg h10, List.length_append]
      have := ih (u / 10) (by rw [Nat.pow_succ] at h; omega)
      simp
      omega
theorem parseU32_ok' (s : ByteArray) (hs : s.size ≤ 30) (u : Nat) (h : Lib.parseUintB 32 s.data.toList = .ok u) (w : World) : Calls Tryz.prog 156 #[.string s, .int .i64 10, .int .i64 32] w fun e w' => e = .returned (.tuple #[.int .u64 u, .nilIface]) ∧ Below w.heap.size w w' := by
  refine (Any.strconv_ParseUint_10_at32_ok Tryz.laysPu14 s (by omega) u h w).mono ?_
  rintro e w' ⟨he, rfl | rfl⟩
  · exact ⟨he, Below.refl _ _⟩
  · exact ⟨he, below_bytes _ _ _⟩
set_option maxRecDepth 100000 in
set_option maxHeartbeats 4000000 in
theorem plain_yes (u : Nat) (hu : u < 1000000000) (w : World) (ht : TabP w) :
    Calls Tryz.prog 121 #[.string (dec u)] w fun e w' => e = .returned (.tuple #[.int .i64 u, .bool true]) ∧ Below w.heap.size w w' := by
  have hsz : (dec u).size ≤ 9 := by
    have h := dec_len_pow 8 u (by omega)
    show (Lib.decDigits u).toArray.size ≤ _
    simpa using h
  have HP := Lib.hid (parseU32_ok' (dec u) (by omega) u (parse_ok32 u (by omega)) w)
  have HT := Lib.hid ht
  have HF := Lib.hid fun W hW => fmtU_any u (by omega) W hW
  clear ht
  generalize dec u = S at HP HF hsz ⊢
  have e0 : (S.toList != S.toList) = false := by simp
  have e1 : (S.toList == S.toList) = true := by simp
  have q0 : ¬ (S.size : Int) > 9 := by omega
  have q1 : decide ((S.size : Int) > 9) = false := by simpa using q0
  have v0 : IntKind.i64.wrap (u : Int) = u := by rw [IntKind.wrap_i64]; omega
  go_enter Tryz.func121, Tryz.ntmps121
  go_wp2_with fail
  refine HP.out.mono ?_
  rintro e w2 ⟨rfl, hB2⟩
  have HW := Lib.hid (HF.out w2 (tab_on HT.out hB2 (Nat.le_refl _)))
  have HB2 := Lib.hid hB2
  clear hB2
  go_wp2_with (go_at_call 98; refine HW.out.mono ?_; rintro e w3 ⟨rfl, hB3⟩)
  go_ret2
  exact ⟨rfl, HB2.out.trans (hB3.mono HB2.out.size)⟩
end Go.Proofs.YtccklmleaffgiaaGreatDoor
