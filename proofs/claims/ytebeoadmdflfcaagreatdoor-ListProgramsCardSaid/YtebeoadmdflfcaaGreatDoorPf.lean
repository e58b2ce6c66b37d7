/-
  The contracts of the document's own Digits, word and other of layer 3.
-/
import Derived.Test.YtebeoadmdflfcaaGreatDoorPd
import Derived.Test.YtebeoadmdflfcaaGreatDoorIa
import Derived.Deep.RegionHeld3
namespace Go.Proofs.YtebeoadmdflfcaaGreatDoor
open Go.RowKit Go.Shelf
set_option linter.unusedVariables false

theorem dig_pieceL {n : Int} (h0 : 0 ≤ n) (h1 : n < 10) : (ByteArray.mk #[48, 49, 50, 51, 52, 53, 54, 55, 56, 57]).extract n.toNat (n + 1).toNat = ⟨(Lib.decDigits n.toNat).toArray⟩ := by
  obtain ⟨u, rfl⟩ := Int.eq_ofNat_of_zero_le h0
  have hu : u < 10 := by omega
  rw [Lib.decDigits_one (by simpa using hu)]
  have h : u = 0 ∨ u = 1 ∨ u = 2 ∨ u = 3 ∨ u = 4 ∨ u = 5 ∨ u = 6 ∨ u = 7 ∨ u = 8 ∨ u = 9 := by omega
  rcases h with rfl | rfl | rfl | rfl | rfl | rfl | rfl | rfl | rfl | rfl <;> rfl
set_option maxRecDepth 100000 in
set_option maxHeartbeats 4000000 in
theorem digL_small (n : Nat) (hn : n < 10) (w : World) : Calls Tryz.prog 36 #[.int .i64 n] w fun e w' => e = .returned (.string ⟨(Lib.decDigits n).toArray⟩) ∧ Below w.heap.size w w' := by
  have h : n = 0 ∨ n = 1 ∨ n = 2 ∨ n = 3 ∨ n = 4 ∨ n = 5 ∨ n = 6 ∨ n = 7 ∨ n = 8 ∨ n = 9 := by omega
  have hd := Lib.hid (Lib.decDigits_one hn)
  have HB := Lib.hid (Below.refl w.heap.size w)
  rw [hd.out]
  clear hn hd
  rcases h with rfl | rfl | rfl | rfl | rfl | rfl | rfl | rfl | rfl | rfl
  · show Calls Tryz.prog 36 #[.int .i64 0] w fun e w' => e = .returned (.string ⟨#[48]⟩) ∧ Below w.heap.size w w'
    go_enter Tryz.func36, Tryz.ntmps36
    go_wp2
    go_ret
    exact ⟨rfl, HB.out⟩
  · show Calls Tryz.prog 36 #[.int .i64 1] w fun e w' => e = .returned (.string ⟨#[49]⟩) ∧ Below w.heap.size w w'
    go_enter Tryz.func36, Tryz.ntmps36
    go_wp2
    go_ret
    exact ⟨rfl, HB.out⟩
  · show Calls Tryz.prog 36 #[.int .i64 2] w fun e w' => e = .returned (.string ⟨#[50]⟩) ∧ Below w.heap.size w w'
    go_enter Tryz.func36, Tryz.ntmps36
    go_wp2
    go_ret
    exact ⟨rfl, HB.out⟩
  · show Calls Tryz.prog 36 #[.int .i64 3] w fun e w' => e = .returned (.string ⟨#[51]⟩) ∧ Below w.heap.size w w'
    go_enter Tryz.func36, Tryz.ntmps36
    go_wp2
    go_ret
    exact ⟨rfl, HB.out⟩
  · show Calls Tryz.prog 36 #[.int .i64 4] w fun e w' => e = .returned (.string ⟨#[52]⟩) ∧ Below w.heap.size w w'
    go_enter Tryz.func36, Tryz.ntmps36
    go_wp2
    go_ret
    exact ⟨rfl, HB.out⟩
  · show Calls Tryz.prog 36 #[.int .i64 5] w fun e w' => e = .returned (.string ⟨#[53]⟩) ∧ Below w.heap.size w w'
    go_enter Tryz.func36, Tryz.ntmps36
    go_wp2
    go_ret
    exact ⟨rfl, HB.out⟩
  · show Calls Tryz.prog 36 #[.int .i64 6] w fun e w' => e = .returned (.string ⟨#[54]⟩) ∧ Below w.heap.size w w'
    go_enter Tryz.func36, Tryz.ntmps36
    go_wp2
    go_ret
    exact ⟨rfl, HB.out⟩
  · show Calls Tryz.prog 36 #[.int .i64 7] w fun e w' => e = .returned (.string ⟨#[55]⟩) ∧ Below w.heap.size w w'
    go_enter Tryz.func36, Tryz.ntmps36
    go_wp2
    go_ret
    exact ⟨rfl, HB.out⟩
  · show Calls Tryz.prog 36 #[.int .i64 8] w fun e w' => e = .returned (.string ⟨#[56]⟩) ∧ Below w.heap.size w w'
    go_enter Tryz.func36, Tryz.ntmps36
    go_wp2
    go_ret
    exact ⟨rfl, HB.out⟩
  · show Calls Tryz.prog 36 #[.int .i64 9] w fun e w' => e = .returned (.string ⟨#[57]⟩) ∧ Below w.heap.size w w'
    go_enter Tryz.func36, Tryz.ntmps36
    go_wp2
    go_ret
    exact ⟨rfl, HB.out⟩

set_option maxRecDepth 100000 in
set_option maxHeartbeats 4000000 in
theorem digL_any : ∀ (n : Nat), n < 4294967296 → ∀ (w : World), Calls Tryz.prog 36 #[.int .i64 n] w fun e w' => e = .returned (.string ⟨(Lib.decDigits n).toArray⟩) ∧ Below w.heap.size w w' := by
  intro n
  induction n using Nat.strongRecOn with
  | _ n ih =>
    intro hle w
    by_cases hn : n < 10
    · exact digL_small n hn w
    have q1 : Int.tdiv (n : Int) 10 = ((n / 10 : Nat) : Int) := by rw [Int.tdiv_eq_ediv_of_nonneg (by omega)]; omega
    have q2 : Int.tmod (n : Int) 10 = ((n % 10 : Nat) : Int) := by rw [Int.tmod_eq_emod_of_nonneg (by omega)]; omega
    have HI := Lib.hid fun W => ih (n / 10) (by omega) (by omega) W
    have hdig : Lib.decDigits n = Lib.decDigits (n / 10) ++ [UInt8.ofNat (48 + n % 10)] := by rw [Lib.decDigits, dif_neg hn]
    have hp := dig_pieceL (n := ((n % 10 : Nat) : Int)) (by omega) (by omega)
    have hl : n % 10 < 10 := Nat.mod_lt _ (by omega)
    have a0 : ¬ (n : Int) < 10 := by omega
    have a1 : decide ((n : Int) < 10) = false := by simp; omega
    have hk0 : Below w.heap.size w w.drew := (Below.refl _ w).drew
    have hs1 : (Lib.decDigits (n / 10)).length ≤ 10 := dd_len 9 (n / 10) (by omega)
    have hs2 : (Lib.decDigits ((n % 10 : Nat) : Int).toNat).length = 1 := by rw [Lib.decDigits_one (by omega)]; rfl
    have hres : (⟨(Lib.decDigits (n / 10)).toArray⟩ : ByteArray) ++ ⟨(Lib.decDigits ((n % 10 : Nat) : Int).toNat).toArray⟩ = ⟨(Lib.decDigits n).toArray⟩ := by
      rw [Int.toNat_natCast, hdig, Lib.decDigits_one hl]
      apply ByteArray.ext
      simp
    have HRES := Lib.hid hres
    clear hres hdig
    clear ih
    go_enter Tryz.func36, Tryz.ntmps36
    go_wp2_with fail
    generalize hQ : ((n / 10 : Nat) : Int) = Q at *
    generalize hR : ((n % 10 : Nat) : Int) = R at *
    have r0 : 0 ≤ R ∧ R < 10 := by omega
    have r1 : 0 ≤ R := r0.1
    have r2 : R < 10 := r0.2
    have v1 : IntKind.i64.wrap (R + 1) = R + 1 := by rw [IntKind.wrap_i64]; omega
    have v2 : IntKind.i64.wrap Q = Q := by rw [IntKind.wrap_i64]; omega
    have v3 : IntKind.i64.wrap R = R := by rw [IntKind.wrap_i64]; omega
    have r3 : R ≤ R + 1 := by omega
    have r4 : R + 1 ≤ 10 := by omega
    have s1 : ¬ 9223372036854775807 < (Lib.decDigits (n / 10)).length + (Lib.decDigits R.toNat).length := by omega
    have s2 : ¬ 9223372036854775807 < (Lib.decDigits (n / 10)).length + 1 := by omega
    go_region_with (go_at_call 36; refine (HI.out _).mono ?_; rintro e w2 ⟨rfl, hB2⟩)
    all_goals go_wp2
    all_goals go_ret
    all_goals exact ⟨by show Ending.returned (.string ((⟨(Lib.decDigits (n / 10)).toArray⟩ : ByteArray) ++ ⟨(Lib.decDigits R.toNat).toArray⟩)) = _; rw [HRES.out], hk0.trans hB2⟩

def wordT : List (List UInt8) := [[], [108, 100], [108, 100], [108, 100], [108, 100], [108, 100, 120], [108, 100, 120], [108, 100, 120], [115, 116], [115, 116, 120], [116, 97, 120], [116, 120, 97], [110, 101, 103], [106, 97], [114, 101, 116], [114, 101, 116], [97, 100, 100], [115, 117, 98], [109, 117, 108], [100, 105, 118], [111, 114], [97, 110, 100], [108, 115, 104], [114, 115, 104], [120, 111, 114], [106, 101, 113], [106, 103, 116], [106, 103, 101], [106, 115, 101, 116]]
def wordK (K : Nat) : List UInt8 := wordT.getD K []
def wordA : Array Value := #[.string ⟨#[]⟩, .string ⟨#[108, 100]⟩, .string ⟨#[108, 100]⟩, .string ⟨#[108, 100]⟩, .string ⟨#[108, 100]⟩, .string ⟨#[108, 100, 120]⟩, .string ⟨#[108, 100, 120]⟩, .string ⟨#[108, 100, 120]⟩, .string ⟨#[115, 116]⟩, .string ⟨#[115, 116, 120]⟩, .string ⟨#[116, 97, 120]⟩, .string ⟨#[116, 120, 97]⟩, .string ⟨#[110, 101, 103]⟩, .string ⟨#[106, 97]⟩, .string ⟨#[114, 101, 116]⟩, .string ⟨#[114, 101, 116]⟩, .string ⟨#[97, 100, 100]⟩, .string ⟨#[115, 117, 98]⟩, .string ⟨#[109, 117, 108]⟩, .string ⟨#[100, 105, 118]⟩, .string ⟨#[111, 114]⟩, .string ⟨#[97, 110, 100]⟩, .string ⟨#[108, 115, 104]⟩, .string ⟨#[114, 115, 104]⟩, .string ⟨#[120, 111, 114]⟩, .string ⟨#[106, 101, 113]⟩, .string ⟨#[106, 103, 116]⟩, .string ⟨#[106, 103, 101]⟩, .string ⟨#[106, 115, 101, 116]⟩]
theorem word_cells : (List.range 29).map (fun K => wordA[K]?) = (List.range 29).map (fun K => some (Value.string ⟨(wordK K).toArray⟩)) := by kernel_rfl
theorem word_at (K : Nat) (hK : K < 29) : wordA[K]? = some (Value.string ⟨(wordK K).toArray⟩) := by
  have h := congrArg (fun l => l[K]?) word_cells
  simpa [List.getElem?_map, List.getElem?_range hK] using h
set_option maxRecDepth 100000 in
set_option maxHeartbeats 4000000 in
theorem word3_any (K : Nat) (hK : K < 29) (w : World) : Calls Tryz.prog 37 #[.int .i64 K] w fun e w' => e = .returned (.string ⟨(wordK K).toArray⟩) ∧ Below w.heap.size w w' := by
  obtain ⟨W0, hW0⟩ : ∃ W, w.alloc (.cells wordA 9) = W := ⟨_, rfl⟩
  have hb0 : Below w.heap.size w W0 := by rw [← hW0]; exact (Below.refl _ _).alloc (Nat.le_refl _) _
  have hc : W0.cell? ⟨w.heap.size, K, none⟩ = some (.string ⟨(wordK K).toArray⟩) := by
    rw [← hW0, cell_of_row _ _ K _ _ (0, 0) (heap_alloc_last w _)]
    exact word_at K hK
  obtain ⟨R, hR⟩ : ∃ R : ByteArray, (⟨(wordK K).toArray⟩ : ByteArray) = R := ⟨_, rfl⟩
  rw [hR] at hc ⊢
  have g1 : (K : Int) < 29 := by omega
  have g2 : (0 : Int) ≤ (K : Int) := by omega
  have HB := Lib.hid hb0
  have HC := Lib.hid hc
  clear hb0 hR
  have hc' := hc
  rw [← hW0] at hc'
  unfold wordA at hc' hW0
  have HW := Lib.hid hW0
  clear hc hW0
  go_enter Tryz.func37, Tryz.ntmps37
  go_wp2
  go_ret
  exact ⟨rfl, by rw [HW.out]; exact HB.out⟩
def othB (K : Nat) (X : Bool) : Bool := if X then false else !(K == 4 || K == 7 || K == 10 || K == 11 || K == 12 || K == 15)
def othL (K : Nat) (X : Bool) (k : List UInt8) : List UInt8 := if X then [120] else match K with
  | 1 => 91 :: (k ++ [93])
  | 3 => 109 :: 91 :: (k ++ [93])
  | 6 => 109 :: 91 :: (k ++ [93])
  | 8 => 109 :: 91 :: (k ++ [93])
  | 9 => 109 :: 91 :: (k ++ [93])
  | 4 => [108, 101, 110]
  | 7 => [108, 101, 110]
  | 10 => []
  | 11 => []
  | 12 => []
  | 13 => k
  | 15 => [97]
  | _ => 35 :: k
theorem txt_app (a b : List UInt8) : (⟨a.toArray⟩ : ByteArray) ++ ⟨b.toArray⟩ = ⟨(a ++ b).toArray⟩ := by
  apply ByteArray.ext
  simp
theorem txt_size (a : List UInt8) : (⟨a.toArray⟩ : ByteArray).size = a.length := by show a.toArray.size = _; simp
set_option maxRecDepth 100000 in
set_option maxHeartbeats 8000000 in
theorem other_x (K : Int) (S : ByteArray) (w : World) : Calls Tryz.prog 35 #[.int .i64 K, .bool true, .string S] w fun e w' => e = .returned (.tuple #[.string ⟨#[120]⟩, .bool false]) ∧ Below w.heap.size w w' := by
  go_enter Tryz.func35, Tryz.ntmps35
  go_wp2
  go_ret2
  exact ⟨rfl, Below.refl _ _⟩
set_option maxRecDepth 100000 in
set_option maxHeartbeats 8000000 in
theorem other_1 (S : ByteArray) (hS : S.size ≤ 20) (w : World) : Calls Tryz.prog 35 #[.int .i64 1, .bool false, .string S] w fun e w' => e = .returned (.tuple #[.string ((⟨#[91]⟩ ++ S) ++ ⟨#[93]⟩), .bool true]) ∧ Below w.heap.size w w' := by
  have s1 : ¬ 9223372036854775807 < 1 + S.size := by omega
  have s2 : ¬ 9223372036854775807 < 1 + S.size + 1 := by omega
  have s3 : ¬ 9223372036854775807 < 2 + S.size := by omega
  have s4 : ¬ 9223372036854775807 < 2 + S.size + 1 := by omega
  go_enter Tryz.func35, Tryz.ntmps35
  go_wp2
  go_ret2
  exact ⟨rfl, Below.refl _ _⟩
set_option maxRecDepth 100000 in
set_option maxHeartbeats 8000000 in
theorem other_2 (S : ByteArray) (hS : S.size ≤ 20) (w : World) : Calls Tryz.prog 35 #[.int .i64 2, .bool false, .string S] w fun e w' => e = .returned (.tuple #[.string (⟨#[35]⟩ ++ S), .bool true]) ∧ Below w.heap.size w w' := by
  have s1 : ¬ 9223372036854775807 < 1 + S.size := by omega
  have s2 : ¬ 9223372036854775807 < 1 + S.size + 1 := by omega
  have s3 : ¬ 9223372036854775807 < 2 + S.size := by omega
  have s4 : ¬ 9223372036854775807 < 2 + S.size + 1 := by omega
  go_enter Tryz.func35, Tryz.ntmps35
  go_wp2
  go_ret2
  exact ⟨rfl, Below.refl _ _⟩
set_option maxRecDepth 100000 in
set_option maxHeartbeats 8000000 in
theorem other_3 (S : ByteArray) (hS : S.size ≤ 20) (w : World) : Calls Tryz.prog 35 #[.int .i64 3, .bool false, .string S] w fun e w' => e = .returned (.tuple #[.string ((⟨#[109, 91]⟩ ++ S) ++ ⟨#[93]⟩), .bool true]) ∧ Below w.heap.size w w' := by
  have s1 : ¬ 9223372036854775807 < 1 + S.size := by omega
  have s2 : ¬ 9223372036854775807 < 1 + S.size + 1 := by omega
  have s3 : ¬ 9223372036854775807 < 2 + S.size := by omega
  have s4 : ¬ 9223372036854775807 < 2 + S.size + 1 := by omega
  go_enter Tryz.func35, Tryz.ntmps35
  go_wp2
  go_ret2
  exact ⟨rfl, Below.refl _ _⟩
set_option maxRecDepth 100000 in
set_option maxHeartbeats 8000000 in
theorem other_4 (S : ByteArray) (hS : S.size ≤ 20) (w : World) : Calls Tryz.prog 35 #[.int .i64 4, .bool false, .string S] w fun e w' => e = .returned (.tuple #[.string (⟨#[108, 101, 110]⟩), .bool false]) ∧ Below w.heap.size w w' := by
  have s1 : ¬ 9223372036854775807 < 1 + S.size := by omega
  have s2 : ¬ 9223372036854775807 < 1 + S.size + 1 := by omega
  have s3 : ¬ 9223372036854775807 < 2 + S.size := by omega
  have s4 : ¬ 9223372036854775807 < 2 + S.size + 1 := by omega
  go_enter Tryz.func35, Tryz.ntmps35
  go_wp2
  go_ret2
  exact ⟨rfl, Below.refl _ _⟩
set_option maxRecDepth 100000 in
set_option maxHeartbeats 8000000 in
theorem other_5 (S : ByteArray) (hS : S.size ≤ 20) (w : World) : Calls Tryz.prog 35 #[.int .i64 5, .bool false, .string S] w fun e w' => e = .returned (.tuple #[.string (⟨#[35]⟩ ++ S), .bool true]) ∧ Below w.heap.size w w' := by
  have s1 : ¬ 9223372036854775807 < 1 + S.size := by omega
  have s2 : ¬ 9223372036854775807 < 1 + S.size + 1 := by omega
  have s3 : ¬ 9223372036854775807 < 2 + S.size := by omega
  have s4 : ¬ 9223372036854775807 < 2 + S.size + 1 := by omega
  go_enter Tryz.func35, Tryz.ntmps35
  go_wp2
  go_ret2
  exact ⟨rfl, Below.refl _ _⟩
set_option maxRecDepth 100000 in
set_option maxHeartbeats 8000000 in
theorem other_6 (S : ByteArray) (hS : S.size ≤ 20) (w : World) : Calls Tryz.prog 35 #[.int .i64 6, .bool false, .string S] w fun e w' => e = .returned (.tuple #[.string ((⟨#[109, 91]⟩ ++ S) ++ ⟨#[93]⟩), .bool true]) ∧ Below w.heap.size w w' := by
  have s1 : ¬ 9223372036854775807 < 1 + S.size := by omega
  have s2 : ¬ 9223372036854775807 < 1 + S.size + 1 := by omega
  have s3 : ¬ 9223372036854775807 < 2 + S.size := by omega
  have s4 : ¬ 9223372036854775807 < 2 + S.size + 1 := by omega
  go_enter Tryz.func35, Tryz.ntmps35
  go_wp2
  go_ret2
  exact ⟨rfl, Below.refl _ _⟩
set_option maxRecDepth 100000 in
set_option maxHeartbeats 8000000 in
theorem other_7 (S : ByteArray) (hS : S.size ≤ 20) (w : World) : Calls Tryz.prog 35 #[.int .i64 7, .bool false, .string S] w fun e w' => e = .returned (.tuple #[.string (⟨#[108, 101, 110]⟩), .bool false]) ∧ Below w.heap.size w w' := by
  have s1 : ¬ 9223372036854775807 < 1 + S.size := by omega
  have s2 : ¬ 9223372036854775807 < 1 + S.size + 1 := by omega
  have s3 : ¬ 9223372036854775807 < 2 + S.size := by omega
  have s4 : ¬ 9223372036854775807 < 2 + S.size + 1 := by omega
  go_enter Tryz.func35, Tryz.ntmps35
  go_wp2
  go_ret2
  exact ⟨rfl, Below.refl _ _⟩
set_option maxRecDepth 100000 in
set_option maxHeartbeats 8000000 in
theorem other_8 (S : ByteArray) (hS : S.size ≤ 20) (w : World) : Calls Tryz.prog 35 #[.int .i64 8, .bool false, .string S] w fun e w' => e = .returned (.tuple #[.string ((⟨#[109, 91]⟩ ++ S) ++ ⟨#[93]⟩), .bool true]) ∧ Below w.heap.size w w' := by
  have s1 : ¬ 9223372036854775807 < 1 + S.size := by omega
  have s2 : ¬ 9223372036854775807 < 1 + S.size + 1 := by omega
  have s3 : ¬ 9223372036854775807 < 2 + S.size := by omega
  have s4 : ¬ 9223372036854775807 < 2 + S.size + 1 := by omega
  go_enter Tryz.func35, Tryz.ntmps35
  go_wp2
  go_ret2
  exact ⟨rfl, Below.refl _ _⟩
set_option maxRecDepth 100000 in
set_option maxHeartbeats 8000000 in
theorem other_9 (S : ByteArray) (hS : S.size ≤ 20) (w : World) : Calls Tryz.prog 35 #[.int .i64 9, .bool false, .string S] w fun e w' => e = .returned (.tuple #[.string ((⟨#[109, 91]⟩ ++ S) ++ ⟨#[93]⟩), .bool true]) ∧ Below w.heap.size w w' := by
  have s1 : ¬ 9223372036854775807 < 1 + S.size := by omega
  have s2 : ¬ 9223372036854775807 < 1 + S.size + 1 := by omega
  have s3 : ¬ 9223372036854775807 < 2 + S.size := by omega
  have s4 : ¬ 9223372036854775807 < 2 + S.size + 1 := by omega
  go_enter Tryz.func35, Tryz.ntmps35
  go_wp2
  go_ret2
  exact ⟨rfl, Below.refl _ _⟩
set_option maxRecDepth 100000 in
set_option maxHeartbeats 8000000 in
theorem other_10 (S : ByteArray) (hS : S.size ≤ 20) (w : World) : Calls Tryz.prog 35 #[.int .i64 10, .bool false, .string S] w fun e w' => e = .returned (.tuple #[.string (⟨#[]⟩), .bool false]) ∧ Below w.heap.size w w' := by
  have s1 : ¬ 9223372036854775807 < 1 + S.size := by omega
  have s2 : ¬ 9223372036854775807 < 1 + S.size + 1 := by omega
  have s3 : ¬ 9223372036854775807 < 2 + S.size := by omega
  have s4 : ¬ 9223372036854775807 < 2 + S.size + 1 := by omega
  go_enter Tryz.func35, Tryz.ntmps35
  go_wp2
  go_ret2
  exact ⟨rfl, Below.refl _ _⟩
set_option maxRecDepth 100000 in
set_option maxHeartbeats 8000000 in
theorem other_11 (S : ByteArray) (hS : S.size ≤ 20) (w : World) : Calls Tryz.prog 35 #[.int .i64 11, .bool false, .string S] w fun e w' => e = .returned (.tuple #[.string (⟨#[]⟩), .bool false]) ∧ Below w.heap.size w w' := by
  have s1 : ¬ 9223372036854775807 < 1 + S.size := by omega
  have s2 : ¬ 9223372036854775807 < 1 + S.size + 1 := by omega
  have s3 : ¬ 9223372036854775807 < 2 + S.size := by omega
  have s4 : ¬ 9223372036854775807 < 2 + S.size + 1 := by omega
  go_enter Tryz.func35, Tryz.ntmps35
  go_wp2
  go_ret2
  exact ⟨rfl, Below.refl _ _⟩
set_option maxRecDepth 100000 in
set_option maxHeartbeats 8000000 in
theorem other_12 (S : ByteArray) (hS : S.size ≤ 20) (w : World) : Calls Tryz.prog 35 #[.int .i64 12, .bool false, .string S] w fun e w' => e = .returned (.tuple #[.string (⟨#[]⟩), .bool false]) ∧ Below w.heap.size w w' := by
  have s1 : ¬ 9223372036854775807 < 1 + S.size := by omega
  have s2 : ¬ 9223372036854775807 < 1 + S.size + 1 := by omega
  have s3 : ¬ 9223372036854775807 < 2 + S.size := by omega
  have s4 : ¬ 9223372036854775807 < 2 + S.size + 1 := by omega
  go_enter Tryz.func35, Tryz.ntmps35
  go_wp2
  go_ret2
  exact ⟨rfl, Below.refl _ _⟩
set_option maxRecDepth 100000 in
set_option maxHeartbeats 8000000 in
theorem other_13 (S : ByteArray) (hS : S.size ≤ 20) (w : World) : Calls Tryz.prog 35 #[.int .i64 13, .bool false, .string S] w fun e w' => e = .returned (.tuple #[.string (S), .bool true]) ∧ Below w.heap.size w w' := by
  have s1 : ¬ 9223372036854775807 < 1 + S.size := by omega
  have s2 : ¬ 9223372036854775807 < 1 + S.size + 1 := by omega
  have s3 : ¬ 9223372036854775807 < 2 + S.size := by omega
  have s4 : ¬ 9223372036854775807 < 2 + S.size + 1 := by omega
  go_enter Tryz.func35, Tryz.ntmps35
  go_wp2
  go_ret2
  exact ⟨rfl, Below.refl _ _⟩
set_option maxRecDepth 100000 in
set_option maxHeartbeats 8000000 in
theorem other_14 (S : ByteArray) (hS : S.size ≤ 20) (w : World) : Calls Tryz.prog 35 #[.int .i64 14, .bool false, .string S] w fun e w' => e = .returned (.tuple #[.string (⟨#[35]⟩ ++ S), .bool true]) ∧ Below w.heap.size w w' := by
  have s1 : ¬ 9223372036854775807 < 1 + S.size := by omega
  have s2 : ¬ 9223372036854775807 < 1 + S.size + 1 := by omega
  have s3 : ¬ 9223372036854775807 < 2 + S.size := by omega
  have s4 : ¬ 9223372036854775807 < 2 + S.size + 1 := by omega
  go_enter Tryz.func35, Tryz.ntmps35
  go_wp2
  go_ret2
  exact ⟨rfl, Below.refl _ _⟩
set_option maxRecDepth 100000 in
set_option maxHeartbeats 8000000 in
theorem other_15 (S : ByteArray) (hS : S.size ≤ 20) (w : World) : Calls Tryz.prog 35 #[.int .i64 15, .bool false, .string S] w fun e w' => e = .returned (.tuple #[.string (⟨#[97]⟩), .bool false]) ∧ Below w.heap.size w w' := by
  have s1 : ¬ 9223372036854775807 < 1 + S.size := by omega
  have s2 : ¬ 9223372036854775807 < 1 + S.size + 1 := by omega
  have s3 : ¬ 9223372036854775807 < 2 + S.size := by omega
  have s4 : ¬ 9223372036854775807 < 2 + S.size + 1 := by omega
  go_enter Tryz.func35, Tryz.ntmps35
  go_wp2
  go_ret2
  exact ⟨rfl, Below.refl _ _⟩
set_option maxRecDepth 100000 in
set_option maxHeartbeats 8000000 in
theorem other_16 (S : ByteArray) (hS : S.size ≤ 20) (w : World) : Calls Tryz.prog 35 #[.int .i64 16, .bool false, .string S] w fun e w' => e = .returned (.tuple #[.string (⟨#[35]⟩ ++ S), .bool true]) ∧ Below w.heap.size w w' := by
  have s1 : ¬ 9223372036854775807 < 1 + S.size := by omega
  have s2 : ¬ 9223372036854775807 < 1 + S.size + 1 := by omega
  have s3 : ¬ 9223372036854775807 < 2 + S.size := by omega
  have s4 : ¬ 9223372036854775807 < 2 + S.size + 1 := by omega
  go_enter Tryz.func35, Tryz.ntmps35
  go_wp2
  go_ret2
  exact ⟨rfl, Below.refl _ _⟩
set_option maxRecDepth 100000 in
set_option maxHeartbeats 8000000 in
theorem other_17 (S : ByteArray) (hS : S.size ≤ 20) (w : World) : Calls Tryz.prog 35 #[.int .i64 17, .bool false, .string S] w fun e w' => e = .returned (.tuple #[.string (⟨#[35]⟩ ++ S), .bool true]) ∧ Below w.heap.size w w' := by
  have s1 : ¬ 9223372036854775807 < 1 + S.size := by omega
  have s2 : ¬ 9223372036854775807 < 1 + S.size + 1 := by omega
  have s3 : ¬ 9223372036854775807 < 2 + S.size := by omega
  have s4 : ¬ 9223372036854775807 < 2 + S.size + 1 := by omega
  go_enter Tryz.func35, Tryz.ntmps35
  go_wp2
  go_ret2
  exact ⟨rfl, Below.refl _ _⟩
set_option maxRecDepth 100000 in
set_option maxHeartbeats 8000000 in
theorem other_18 (S : ByteArray) (hS : S.size ≤ 20) (w : World) : Calls Tryz.prog 35 #[.int .i64 18, .bool false, .string S] w fun e w' => e = .returned (.tuple #[.string (⟨#[35]⟩ ++ S), .bool true]) ∧ Below w.heap.size w w' := by
  have s1 : ¬ 9223372036854775807 < 1 + S.size := by omega
  have s2 : ¬ 9223372036854775807 < 1 + S.size + 1 := by omega
  have s3 : ¬ 9223372036854775807 < 2 + S.size := by omega
  have s4 : ¬ 9223372036854775807 < 2 + S.size + 1 := by omega
  go_enter Tryz.func35, Tryz.ntmps35
  go_wp2
  go_ret2
  exact ⟨rfl, Below.refl _ _⟩
set_option maxRecDepth 100000 in
set_option maxHeartbeats 8000000 in
theorem other_19 (S : ByteArray) (hS : S.size ≤ 20) (w : World) : Calls Tryz.prog 35 #[.int .i64 19, .bool false, .string S] w fun e w' => e = .returned (.tuple #[.string (⟨#[35]⟩ ++ S), .bool true]) ∧ Below w.heap.size w w' := by
  have s1 : ¬ 9223372036854775807 < 1 + S.size := by omega
  have s2 : ¬ 9223372036854775807 < 1 + S.size + 1 := by omega
  have s3 : ¬ 9223372036854775807 < 2 + S.size := by omega
  have s4 : ¬ 9223372036854775807 < 2 + S.size + 1 := by omega
  go_enter Tryz.func35, Tryz.ntmps35
  go_wp2
  go_ret2
  exact ⟨rfl, Below.refl _ _⟩
set_option maxRecDepth 100000 in
set_option maxHeartbeats 8000000 in
theorem other_20 (S : ByteArray) (hS : S.size ≤ 20) (w : World) : Calls Tryz.prog 35 #[.int .i64 20, .bool false, .string S] w fun e w' => e = .returned (.tuple #[.string (⟨#[35]⟩ ++ S), .bool true]) ∧ Below w.heap.size w w' := by
  have s1 : ¬ 9223372036854775807 < 1 + S.size := by omega
  have s2 : ¬ 9223372036854775807 < 1 + S.size + 1 := by omega
  have s3 : ¬ 9223372036854775807 < 2 + S.size := by omega
  have s4 : ¬ 9223372036854775807 < 2 + S.size + 1 := by omega
  go_enter Tryz.func35, Tryz.ntmps35
  go_wp2
  go_ret2
  exact ⟨rfl, Below.refl _ _⟩
set_option maxRecDepth 100000 in
set_option maxHeartbeats 8000000 in
theorem other_21 (S : ByteArray) (hS : S.size ≤ 20) (w : World) : Calls Tryz.prog 35 #[.int .i64 21, .bool false, .string S] w fun e w' => e = .returned (.tuple #[.string (⟨#[35]⟩ ++ S), .bool true]) ∧ Below w.heap.size w w' := by
  have s1 : ¬ 9223372036854775807 < 1 + S.size := by omega
  have s2 : ¬ 9223372036854775807 < 1 + S.size + 1 := by omega
  have s3 : ¬ 9223372036854775807 < 2 + S.size := by omega
  have s4 : ¬ 9223372036854775807 < 2 + S.size + 1 := by omega
  go_enter Tryz.func35, Tryz.ntmps35
  go_wp2
  go_ret2
  exact ⟨rfl, Below.refl _ _⟩
set_option maxRecDepth 100000 in
set_option maxHeartbeats 8000000 in
theorem other_22 (S : ByteArray) (hS : S.size ≤ 20) (w : World) : Calls Tryz.prog 35 #[.int .i64 22, .bool false, .string S] w fun e w' => e = .returned (.tuple #[.string (⟨#[35]⟩ ++ S), .bool true]) ∧ Below w.heap.size w w' := by
  have s1 : ¬ 9223372036854775807 < 1 + S.size := by omega
  have s2 : ¬ 9223372036854775807 < 1 + S.size + 1 := by omega
  have s3 : ¬ 9223372036854775807 < 2 + S.size := by omega
  have s4 : ¬ 9223372036854775807 < 2 + S.size + 1 := by omega
  go_enter Tryz.func35, Tryz.ntmps35
  go_wp2
  go_ret2
  exact ⟨rfl, Below.refl _ _⟩
set_option maxRecDepth 100000 in
set_option maxHeartbeats 8000000 in
theorem other_23 (S : ByteArray) (hS : S.size ≤ 20) (w : World) : Calls Tryz.prog 35 #[.int .i64 23, .bool false, .string S] w fun e w' => e = .returned (.tuple #[.string (⟨#[35]⟩ ++ S), .bool true]) ∧ Below w.heap.size w w' := by
  have s1 : ¬ 9223372036854775807 < 1 + S.size := by omega
  have s2 : ¬ 9223372036854775807 < 1 + S.size + 1 := by omega
  have s3 : ¬ 9223372036854775807 < 2 + S.size := by omega
  have s4 : ¬ 9223372036854775807 < 2 + S.size + 1 := by omega
  go_enter Tryz.func35, Tryz.ntmps35
  go_wp2
  go_ret2
  exact ⟨rfl, Below.refl _ _⟩
set_option maxRecDepth 100000 in
set_option maxHeartbeats 8000000 in
theorem other_24 (S : ByteArray) (hS : S.size ≤ 20) (w : World) : Calls Tryz.prog 35 #[.int .i64 24, .bool false, .string S] w fun e w' => e = .returned (.tuple #[.string (⟨#[35]⟩ ++ S), .bool true]) ∧ Below w.heap.size w w' := by
  have s1 : ¬ 9223372036854775807 < 1 + S.size := by omega
  have s2 : ¬ 9223372036854775807 < 1 + S.size + 1 := by omega
  have s3 : ¬ 9223372036854775807 < 2 + S.size := by omega
  have s4 : ¬ 9223372036854775807 < 2 + S.size + 1 := by omega
  go_enter Tryz.func35, Tryz.ntmps35
  go_wp2
  go_ret2
  exact ⟨rfl, Below.refl _ _⟩
set_option maxRecDepth 100000 in
set_option maxHeartbeats 8000000 in
theorem other_25 (S : ByteArray) (hS : S.size ≤ 20) (w : World) : Calls Tryz.prog 35 #[.int .i64 25, .bool false, .string S] w fun e w' => e = .returned (.tuple #[.string (⟨#[35]⟩ ++ S), .bool true]) ∧ Below w.heap.size w w' := by
  have s1 : ¬ 9223372036854775807 < 1 + S.size := by omega
  have s2 : ¬ 9223372036854775807 < 1 + S.size + 1 := by omega
  have s3 : ¬ 9223372036854775807 < 2 + S.size := by omega
  have s4 : ¬ 9223372036854775807 < 2 + S.size + 1 := by omega
  go_enter Tryz.func35, Tryz.ntmps35
  go_wp2
  go_ret2
  exact ⟨rfl, Below.refl _ _⟩
set_option maxRecDepth 100000 in
set_option maxHeartbeats 8000000 in
theorem other_26 (S : ByteArray) (hS : S.size ≤ 20) (w : World) : Calls Tryz.prog 35 #[.int .i64 26, .bool false, .string S] w fun e w' => e = .returned (.tuple #[.string (⟨#[35]⟩ ++ S), .bool true]) ∧ Below w.heap.size w w' := by
  have s1 : ¬ 9223372036854775807 < 1 + S.size := by omega
  have s2 : ¬ 9223372036854775807 < 1 + S.size + 1 := by omega
  have s3 : ¬ 9223372036854775807 < 2 + S.size := by omega
  have s4 : ¬ 9223372036854775807 < 2 + S.size + 1 := by omega
  go_enter Tryz.func35, Tryz.ntmps35
  go_wp2
  go_ret2
  exact ⟨rfl, Below.refl _ _⟩
set_option maxRecDepth 100000 in
set_option maxHeartbeats 8000000 in
theorem other_27 (S : ByteArray) (hS : S.size ≤ 20) (w : World) : Calls Tryz.prog 35 #[.int .i64 27, .bool false, .string S] w fun e w' => e = .returned (.tuple #[.string (⟨#[35]⟩ ++ S), .bool true]) ∧ Below w.heap.size w w' := by
  have s1 : ¬ 9223372036854775807 < 1 + S.size := by omega
  have s2 : ¬ 9223372036854775807 < 1 + S.size + 1 := by omega
  have s3 : ¬ 9223372036854775807 < 2 + S.size := by omega
  have s4 : ¬ 9223372036854775807 < 2 + S.size + 1 := by omega
  go_enter Tryz.func35, Tryz.ntmps35
  go_wp2
  go_ret2
  exact ⟨rfl, Below.refl _ _⟩
set_option maxRecDepth 100000 in
set_option maxHeartbeats 8000000 in
theorem other_28 (S : ByteArray) (hS : S.size ≤ 20) (w : World) : Calls Tryz.prog 35 #[.int .i64 28, .bool false, .string S] w fun e w' => e = .returned (.tuple #[.string (⟨#[35]⟩ ++ S), .bool true]) ∧ Below w.heap.size w w' := by
  have s1 : ¬ 9223372036854775807 < 1 + S.size := by omega
  have s2 : ¬ 9223372036854775807 < 1 + S.size + 1 := by omega
  have s3 : ¬ 9223372036854775807 < 2 + S.size := by omega
  have s4 : ¬ 9223372036854775807 < 2 + S.size + 1 := by omega
  go_enter Tryz.func35, Tryz.ntmps35
  go_wp2
  go_ret2
  exact ⟨rfl, Below.refl _ _⟩
end Go.Proofs.YtebeoadmdflfcaaGreatDoor
