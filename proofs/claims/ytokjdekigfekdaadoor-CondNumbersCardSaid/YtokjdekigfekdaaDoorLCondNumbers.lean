/-
  The law CondNumbers holds for every number: its decimal text, and its figures 0 to f behind 0x, are read as the number; its decimal text behind a nought is none. No condition.
-/
import Derived.Test.YtokjdekigfekdaaDoorRows
import Derived.Test.YtokjdekigfekdaaDoorCards
import Derived.Test.YtokjdekigfekdaaDoorTie
import Derived.Test.YtokjdekigfekdaaDoorGk
import Derived.Test.YtokjdekigfekdaaDoorGl
import Derived.Test.YtokjdekigfekdaaDoorGt
import Derived.WalkKit
import Derived.ProofKit
import Derived.OpenShut
import Derived.ShutString
import Derived.ChangeOld
import Derived.Below
import Derived.Lib.SmallJoins
import Derived.SevenTiedAt
import Derived.LaidMore
import Derived.Stop.Joined
import Derived.Deep.Cut
import Derived.Deep.CutRange
namespace Go.Proofs.YtokjdekigfekdaaDoor
open Go.RowKit
set_option linter.unusedVariables false

abbrev figH : ByteArray := ⟨#[48, 49, 50, 51, 52, 53, 54, 55, 56, 57, 97, 98, 99, 100, 101, 102]⟩
theorem hex_piece (d : Nat) (hd : d < 16) : figH.extract d (d + 1) = ⟨#[hexC d]⟩ := by
  have h : d = 0 ∨ d = 1 ∨ d = 2 ∨ d = 3 ∨ d = 4 ∨ d = 5 ∨ d = 6 ∨ d = 7 ∨ d = 8 ∨ d = 9 ∨ d = 10 ∨ d = 11 ∨ d = 12 ∨ d = 13 ∨ d = 14 ∨ d = 15 := by omega
  rcases h with rfl | rfl | rfl | rfl | rfl | rfl | rfl | rfl | rfl | rfl | rfl | rfl | rfl | rfl | rfl | rfl <;> rfl
theorem cons_text (c : UInt8) (L : List UInt8) : (⟨#[c]⟩ : ByteArray) ++ ⟨L.toArray⟩ = ⟨(c :: L).toArray⟩ := by
  apply ByteArray.ext
  simp
/-- How long a text is. -/
def lenOf : Value → Nat
  | .string s => s.size
  | _ => 0
/-- What the law's loop has written of n's figures. -/
def HexAt (n m : Nat) (L : List UInt8) : Prop := (hexL n = hexL m ++ L ∧ (0 < m ∨ L = [])) ∨ (m = 0 ∧ L = hexL n)
theorem HexAt.step {n m : Nat} {L : List UInt8} (h : hexL n = hexL m ++ L) : HexAt n (m / 16) (hexC (m % 16) :: L) := by
  by_cases hm : m < 16
  · refine .inr ⟨by omega, ?_⟩
    rw [h, hexL_small hm, show m % 16 = m from by omega]
    rfl
  · refine .inl ⟨?_, .inl (by omega)⟩
    rw [h, hexL_more hm, List.append_assoc]
    rfl

set_option maxRecDepth 100000 in
set_option maxHeartbeats 4000000 in
theorem numbers_ok {w0 : World} (n : Nat) (hn : n < 18446744073709551616) (ht : TabP w0 ∧ Tz w0) :
    Calls Tryd.prog 4 #[.int .u64 n] w0 fun e w' => e = .returned (.bool true) ∧ Below w0.heap.size w0 w' := by
  have HT := Lib.hid ht
  have HN := Lib.hid hn
  clear ht
  go_enter Tryd.func4, Tryd.ntmps4
  go_wp2_with fail
  refine (digits_any n hn _).mono ?_
  rintro e w1 ⟨rfl, hB1⟩
  have HT1 : Hid (TabP w1 ∧ Tz w1) := Lib.hid ⟨tab_on HT.out.1 hB1 (Nat.le_refl _), tz_on HT.out.2 hB1 (Nat.le_refl _)⟩
  have HB1 := Lib.hid hB1
  clear hB1
  go_wp2_with fail
  refine (number_dec n hn _ HT1.out.1).mono ?_
  rintro e w2 ⟨rfl, hB2⟩
  have HT2 : Hid (TabP w2 ∧ Tz w2) := Lib.hid ⟨tab_on HT1.out.1 hB2 (Nat.le_refl _), tz_on HT1.out.2 hB2 (Nat.le_refl _)⟩
  have HB2 : Hid (Below w0.heap.size w0 w2) := Lib.hid (HB1.out.trans (hB2.mono HB1.out.size))
  clear hB2 HT1 HB1 HT hn
  go_wp2_with fail
  go_loop [5, 6] (fun vh vm => ∃ (m : Nat) (L : List UInt8), vh = .string ⟨L.toArray⟩ ∧ vm = .int .u64 m ∧ Hid (m < 18446744073709551616 ∧ HexAt n m L)) (fun vh _ => 17 - lenOf vh)
  case atStart => exact ⟨n, [], rfl, rfl, Lib.hid ⟨HN.out, .inl ⟨by simp, .inr rfl⟩⟩⟩
  case round =>
    obtain ⟨m, L, rfl, rfl, hh⟩ := hrel
    have hlen := hexL_len 15 n HN.out
    rcases hh.out.2 with ⟨hl, hm⟩ | ⟨rfl, rfl⟩
    · have hlL : L.length ≤ 15 := by
        rw [hl, List.length_append] at hlen
        have := hexL_pos m
        omega
      have hm64 := hh.out.1
      have HS := Lib.hid (HexAt.step hl)
      have hsz : (⟨L.toArray⟩ : ByteArray).size = L.length := by show L.toArray.size = _; simp
      have hp := hex_piece (m % 16) (Nat.mod_lt _ (by omega))
      have hcat : figH.extract (m % 16) (m % 16 + 1) ++ (⟨L.toArray⟩ : ByteArray) = ⟨(hexC (m % 16) :: L).toArray⟩ := by rw [hp]; exact cons_text _ _
      have HCAT := Lib.hid hcat
      clear hp hcat hl hh hlen
      by_cases hg : (0 : Int) < (m : Int)
      · clear hm
        go_wp2_with fail
        rw [HCAT.out]
        refine ⟨⟨m / 16, hexC (m % 16) :: L, rfl, by go_num, Lib.hid ⟨by omega, HS.out⟩⟩, ?_⟩
        show 17 - (hexC (m % 16) :: L).toArray.size < 17 - L.toArray.size
        simp
        omega
      · obtain rfl : m = 0 := by omega
        have hL : L = [] := by rcases hm with h | h; exact absurd h (by omega); exact h
        subst hL
        clear hm
        go_wp2_with fail
        refine ⟨⟨0, hexC (0 % 16) :: [], rfl, by go_num, Lib.hid ⟨by omega, HS.out⟩⟩, ?_⟩
        show 17 - (hexC (0 % 16) :: []).toArray.size < 17 - ([] : List UInt8).toArray.size
        decide
    · have hne : (hexL n).isEmpty = false := by
        have := hexL_pos n
        cases h : hexL n with
        | nil => rw [h] at this; simp at this
        | cons a l => rfl
      have hdz : (Lib.decDigits n).length ≤ 20 := by
        rw [Lib.decDigits_length]
        exact nDigits_le n HN.out
      have s1 : ¬ 9223372036854775807 < 2 + (hexL n).length := by omega
      have s2 : ¬ 9223372036854775807 < 1 + (Lib.decDigits n).length := by omega
      clear hh hlen
      go_wp2_with fail
      refine (number_hex n HN.out _ HT2.out.2).mono ?_
      rintro e w3 ⟨rfl, hB3⟩
      have HT3 : Hid (TabP w3 ∧ Tz w3) := Lib.hid ⟨tab_on HT2.out.1 hB3 (Nat.le_refl _), tz_on HT2.out.2 hB3 (Nat.le_refl _)⟩
      have HB3 : Hid (Below w0.heap.size w0 w3) := Lib.hid (HB2.out.trans (hB3.mono HB2.out.size))
      clear hB3 HT2 HB2
      go_wp2_with fail
      refine (digits_any n HN.out _).mono ?_
      rintro e w4 ⟨rfl, hB4⟩
      have HT4 : Hid (TabP w4 ∧ Tz w4) := Lib.hid ⟨tab_on HT3.out.1 hB4 (Nat.le_refl _), tz_on HT3.out.2 hB4 (Nat.le_refl _)⟩
      have HB4 : Hid (Below w0.heap.size w0 w4) := Lib.hid (HB3.out.trans (hB4.mono HB3.out.size))
      clear hB4 HT3 HB3
      go_wp2_with fail
      refine (number_oz n HN.out _ HT4.out.1).mono ?_
      rintro e w5 ⟨rfl, hB5⟩
      have HT5 : Hid (TabP w5) := Lib.hid (tab_on HT4.out.1 hB5 (Nat.le_refl _))
      have HB5 : Hid (Below w0.heap.size w0 w5) := Lib.hid (HB4.out.trans (hB5.mono HB4.out.size))
      clear hB5 HT4 HB4
      go_wp2_with (go_at_call 10; refine (awake10_any _ HT5.out).mono ?_; rintro e w6 ⟨rfl, hB6⟩)
      go_ret
      exact ⟨rfl, HB5.out.trans (hB6.mono HB5.out.size)⟩

section
set_option maxHeartbeats 4000000
theorem tz_datum : (Rows.laid_math_bits_deBruijn64tab : DataW Unit) = Lib.tabData .u8 tab64 := by kernel_rfl
theorem tz_of_second {x : String × DataW Unit} {rest : List (String × DataW Unit)} {W : World} (h : laidMet Tryd.prog (x :: ("math/bits.deBruijn64tab", Rows.laid_math_bits_deBruijn64tab) :: rest) W) : Tz W := by
  have h2 := h.tail
  rw [tz_datum] at h2
  exact Lib.tabIs_of_head (t := 116) (e := 5) (n := 64) gTz (by kernel_rfl) Tryd.underlying116 Tryd.underlying5 (by kernel_rfl) (by kernel_rfl) h2
end
theorem of_laid {W : World} (h : laidMetH Tryd.prog Rows.condNumbersRow.laid W) : TabP W ∧ Tz W := by
  rw [MakeChecks.laidMetH_plain _ _ _ (by kernel_rfl)] at h
  exact ⟨tab_of_third h, tz_of_second h⟩
theorem walk_CondNumbers {w0 : World} (v : Int) (hv : (Lit.int .u64 v).wf = true) (ht : TabP w0 ∧ Tz w0) :
    Calls Tryd.prog 4 #[.int .u64 v] w0 fun e w' => e = .returned (.bool true) ∧ Below w0.heap.size w0 w' := by
  simp [Lit.wf, IntKind.min, IntKind.max, IntKind.signed, IntKind.bits] at hv
  obtain ⟨x, rfl⟩ := Int.eq_ofNat_of_zero_le hv.1
  exact numbers_ok x (by omega) ht

namespace condNumbersRow
open Go.ChangeShapes Go.WideShapes Go.ChangeAt Go.RowKit Go.Joins
open Go.ChangeMaps (open_string shut_string)
set_option linter.unusedVariables false
theorem own : ownKnob Tryd.prog.godebug = none := by kernel_rfl
theorem laidOut : laidOutB Tryd.prog = true := by kernel_rfl
set_option maxRecDepth 100000 in
theorem lifted (os : Os) (started : os.Started) (H : Type) (enc : TypeId × Value → H) :
    ReturnsInHanded {} Tryd.checked os 4 .any (fun w args => (Rows.condNumbersSpec.pre enc Tryd.prog Tryd.f4 [] false w args ∧ laidMetH Tryd.prog Rows.condNumbersRow.laid w) ∧ sizedMet enc Tryd.prog Tryd.f4 (OpenSpec.ofChange Rows.condNumbersSpec) false w args) (Rows.condNumbersSpec.post enc Tryd.prog Tryd.f4 false true false false) := by
  refine returnsInHanded_of_change_and (C := Tryd.checked) (X := fun w _ => laidMetH Tryd.prog Rows.condNumbersRow.laid w) (fun _ _ _ hh h => h.of_heap hh) own started (by kernel_rfl) Tryd.func4
    (ChangeSpec.witness_shaped (enc := enc) (C := Tryd.checked) (os := os) (X := fun w _ => laidMetH Tryd.prog Rows.condNumbersRow.laid w) false (World.laidAll Tryd.prog os Rows.condNumbersRow.laid) #[.int .u64 0] 8 (World.laidAll_os _ _ _) (World.shaped_of_ZipB (by kernel_rfl) (by kernel_rfl)) (by kernel_rfl) (by kernel_rfl) (by kernel_rfl) (by rw [MakeChecks.laidMetH_plain _ _ _ (by kernel_rfl)]; exact laidMet_laidAll _ (by kernel_rfl) (by kernel_rfl))) ?_
  intro W base args ds gs before hval0 hW _ _ hL _
  have hval : ∀ (j : Nat) t v, Tryd.f4.params[j]? = some t → args[j]? = some v → Value.okWide Tryd.prog W .any base t v := hval0
  have hW' := hW
  obtain ⟨p, q, hA0, hV, rfl, hfz, hnd⟩ := hW
  have hA : DataW.TrodAll enc Tryd.prog W 0 (fun _ => true) true Tryd.f4.params.toList args.toList ds p := hA0
  rw [Tryd.params4] at hA hval
  obtain ⟨v0, vs0, d0, ds0, p0, q0, hargs, rfl, rfl, h0, r0⟩ := trodAll_cons hA
  obtain ⟨rfl, rfl, rfl⟩ := trodAll_nil r0
  obtain rfl : args = #[v0] := by cases args; simp_all
  obtain ⟨rfl, rfl⟩ := trodVars_none hV
  have k0 := h0
  have lt0 : ∀ x ∈ p0, x.block < W.heap.size := by obtain ⟨m, hm⟩ := k0; exact DataW.trod_lt m _ _ _ hm
  obtain ⟨a0, rfl, rfl, rfl, w0⟩ := open_int Tryd.underlying23 (hval 0 23 v0 rfl rfl) h0
  clear hA0 hval0
  refine (walk_CondNumbers (w0 := W) a0 w0 (of_laid hL)).mono fun e W' ⟨he, bel⟩ => ?_
  subst he
  exact ⟨_, rfl, _, _, _, [], _, [], hW', trodAll_mk1 (shut_bool Tryd.underlying4 _), (trodAll_cons_mk (Below.trod laidOut (by kernel_rfl) (of_decide_eq_true (by kernel_rfl)) k0 bel lt0) trodAll_mk0), rfl, bel.frame _, fun h => by cases h⟩

theorem over : Rows.condNumbersRow.holds Tryd.pinned (OpenSpec.ofChange Rows.condNumbersSpec) :=
  OpenClaim.holds_of_wide 4 Tryd.f4 rfl rfl rfl rfl rfl rfl rfl ⟨rfl, rfl, rfl, rfl, rfl⟩ rfl rfl rfl rfl rfl (by kernel_rfl) Tryd.func4 (by kernel_rfl)
    (of_decide_eq_true (by kernel_rfl)) (by unfold Func.isWrapper; first | (rw [if_pos (by decide +kernel)]; kernel_rfl) | (rw [if_neg (by decide +kernel)]; exact ⟨rfl, rfl⟩))
    (fun os started H enc _ => lifted os started H enc)
end condNumbersRow

theorem condNumbers_proved : Rows.CondNumbersCardSaid :=
  Claim7.holds_tied_plain_at .later [] [.data, .data, .data, .data, .sentinel, .sentinel, .pinned] true Rows.condNumbersCard.stood.harness true
    condNumbersRow.over (fun _ h => by cases h) (by kernel_rfl) (fun _ h => by cases h) condNumbers_row_tie rfl ⟨rfl, rfl⟩ (by kernel_rfl) rfl
    (fun f fn hf hfn => by
      obtain rfl : f = 4 := Option.some.inj ((show Tryd.prog.funcNamed "strainer/strainerlaw10.CondNumbers" = some 4 by kernel_rfl).symm.trans hf) |>.symm
      obtain rfl : fn = Tryd.f4 := (Option.some.inj (Tryd.func4.symm.trans hfn)).symm
      exact ⟨by kernel_rfl, fun j t ht => by
        rw [Tryd.params4] at ht
        have hall : ∀ t ∈ [23], Tryd.prog.wantsStandIn t = false := by
          intro t ht
          simp only [List.mem_cons, List.not_mem_nil, or_false] at ht
          rcases ht with rfl <;> kernel_rfl
        exact hall t (by simpa using Array.mem_of_getElem? ht)⟩)
    (by kernel_rfl)
#print axioms condNumbers_proved
end Go.Proofs.YtokjdekigfekdaaDoor
