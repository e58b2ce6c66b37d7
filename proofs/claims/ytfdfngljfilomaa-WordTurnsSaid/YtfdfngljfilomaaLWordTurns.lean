/-
  The statement of WordTurns is proved: for every eight bytes and every choice of a width the law returns true. No condition.
-/
import Derived.Test.YtfdfngljfilomaaRows
import Derived.Test.YtfdfngljfilomaaWd
import Derived.WalkKit
import Derived.ProofKit
import Derived.OpenShut
import Derived.ShutString
import Derived.ChangeOld
import Derived.Below
import Derived.Lib.SmallJoins
import Derived.Test.YtfdfngljfilomaaLWordSplits
namespace Go.Proofs.Ytfdfngljfilomaa
open Go.RowKit

theorem turn_eq (f : Nat → Nat) (k : Nat) : num (fun i => (fun q => f (k - 1 - q)) (pln true 0 k i)) k = num (fun i => f (pln false 0 k i)) k :=
  num_congr _ _ k (fun i hi => by unfold pln; simp; congr 1; omega)
theorem arr_cell (w : World) (f : Nat → Nat) (t : TypeId) (i : Nat) (hi : i < 8) :
    (w.alloc (.cells #[bv (f 0), bv (f 1), bv (f 2), bv (f 3), bv (f 4), bv (f 5), bv (f 6), bv (f 7)] t)).cell? ⟨w.heap.size, i, none⟩ = some (bv (f i)) := by
  match i, hi with
  | 0, _ => simp
  | 1, _ => simp
  | 2, _ => simp
  | 3, _ => simp
  | 4, _ => simp
  | 5, _ => simp
  | 6, _ => simp
  | 7, _ => simp

set_option maxRecDepth 100000 in
set_option maxHeartbeats 4000000 in
theorem turns_0 {w0 : World} (f : Nat → Nat) (hf : ∀ i, i < 8 → f i < 256) (a : Int) (ha0 : 0 ≤ a) (ha1 : a ≤ 255) (har : a % 4 = 0) :
    Calls Try.prog 7 #[.agg #[bv (f 0), bv (f 1), bv (f 2), bv (f 3), bv (f 4), bv (f 5), bv (f 6), bv (f 7)], .int .u8 a] w0 fun e w' => e = .returned (.bool true) ∧ Below w0.heap.size w0 w' := by
  obtain ⟨W, hW⟩ : ∃ W, w0.alloc (.cells #[bv (f 0), bv (f 1), bv (f 2), bv (f 3), bv (f 4), bv (f 5), bv (f 6), bv (f 7)] 44) = W := ⟨_, rfl⟩
  have hB0 : Below w0.heap.size w0 (w0.alloc (.cells #[bv (f 0), bv (f 1), bv (f 2), bv (f 3), bv (f 4), bv (f 5), bv (f 6), bv (f 7)] 44)) := (Below.refl _ _).alloc (Nat.le_refl _) _
  have hby := arr_byt w0 f hf 44
  have hcel := arr_cell w0 f 44
  have hsz : (w0.alloc (.cells #[bv (f 0), bv (f 1), bv (f 2), bv (f 3), bv (f 4), bv (f 5), bv (f 6), bv (f 7)] 44)).heap.size = w0.heap.size + 1 := by simp
  obtain ⟨m, hm⟩ : ∃ m, num (fun i => f (pln false 0 1 i)) 1 = m := ⟨_, rfl⟩
  have HG : Hid (∀ W : World, Byt W W.heap.size (some ⟨w0.heap.size, 0, none⟩) 8 8 f → Calls Try.prog 15 #[.slice (some ⟨w0.heap.size, 0, none⟩) 8 8, .int .i64 0, .int .i64 1, .bool false] W fun e w' => e = .returned (.tuple #[.int .u64 (m : Int), .int .i64 0]) ∧ Below W.heap.size W w') :=
    fun W h => hm ▸ get_ok false (some ⟨w0.heap.size, 0, none⟩) 8 8 0 1 f W (by decide) (by decide) (by decide) h
  have HT : Hid (∀ (W : World) (A : Option Addr) (c : Nat), Byt W W.heap.size A 1 c (fun q => f (1 - 1 - q)) → Calls Try.prog 15 #[.slice A 1 c, .int .i64 0, .int .i64 1, .bool true] W fun e w' => e = .returned (.tuple #[.int .u64 (m : Int), .int .i64 0]) ∧ Below W.heap.size W w') :=
    fun W A c h => hm ▸ turn_eq f 1 ▸ get_ok true A 1 c 0 1 (fun q => f (1 - 1 - q)) W (by decide) (by decide) (by decide) h
  have HF := Lib.hid hf
  rw [hW] at hB0 hby hcel hsz
  have HW := Lib.hid hW
  have HC := Lib.hid hcel
  have HY := Lib.hid hby
  have HZ := Lib.hid hsz
  have hz1 : w0.heap.size + 1 ≤ W.heap.size := by omega
  have hB1 : Below w0.heap.size w0 (W.alloc (.cells #[.int .i64 1, .int .i64 2, .int .i64 4, .int .i64 8] 3)) := hB0.alloc (by omega) _
  have hB2 : Below (w0.heap.size + 1) W (W.alloc (.cells #[.int .i64 1, .int .i64 2, .int .i64 4, .int .i64 8] 3)) := (Below.refl _ _).alloc (by omega) _
  obtain ⟨W1, hW1⟩ : ∃ W1, W.alloc (.cells #[.int .i64 1, .int .i64 2, .int .i64 4, .int .i64 8] 3) = W1 := ⟨_, rfl⟩
  rw [hW1] at hB1 hB2
  have HW1 := Lib.hid hW1
  clear hm hW hcel hby hsz hB0 hW1
  go_enter Try.func7, Try.ntmps7
  go_wp2
  rw [HW.out, HW1.out]
  clear har
  go_loopw [6, 7] (fun v i wr => ∃ (q : Int) (j : Nat) (A' : Option Addr) (c' : Nat), j ≤ 1 ∧ q + j ≤ 1 - 1 ∧ 1 - 1 ≤ q + j ∧ i = .int .i64 q ∧ v = .slice A' j c' ∧ Own_ wr (w0.heap.size + 1) 5 A' j c' (fun i => f (1 - 1 - i)) ∧ Below (w0.heap.size + 1) W1 wr)
    (fun _ i _ => (intOf i + 1).toNat)
  case atStart => exact ⟨1 - 1, 0, none, 0, by omega, by omega, by omega, rfl, rfl, Own_.nil_, Below.refl _ _⟩
  case round =>
    obtain ⟨q, j, A', c', hj, hq1, hq2, rfl, rfl, hown, hB⟩ := hrel
    have hb3 := hB1.trans (hB.mono (by omega))
    have hb4 := hB2.trans hB
    by_cases hlt : 0 ≤ q
    · have hq8 : q < 8 := by omega
      have hcell := (hb4.cell (p := ⟨w0.heap.size, q.toNat, none⟩) (by show w0.heap.size < _; omega)).trans (HC.out q.toNat (by omega))
      have hu : f q.toNat < 256 := HF.out _ (by omega)
      go_wp2_with (at_builtin; go_must (refine app_bytes _ rfl _ _ _ 5 rfl Try.underlying22 infoB rfl (hown.alloc _) rfl (one_new _ _ hu _) (by omega) (by have := hb4.size; simp; omega) ?_; rintro A2 c2 w2 hown2 hg2 hB3))
      refine ⟨⟨q - 1, j + 1, A2, c2, by omega, by omega, by omega, rfl, rfl, hown2.congr (cat_snoc (fun i => f (1 - 1 - i)) j _ (by rw [show q.toNat = 1 - 1 - j from by omega])), (hB.alloc (by have := hb4.size; omega) _).trans hB3⟩, by simp [intOf]; omega⟩
    · obtain rfl : j = 1 := by omega
      go_wp2_with fail
      refine (HG.out _ ((HY.out.below hb4).more (by have := hb4.size; omega))).mono ?_
      rintro e w2 ⟨rfl, hB4⟩
      have hb5 := hb3.trans (hB4.mono hb3.size)
      go_wp2_with fail
      refine (HT.out _ _ _ ((hown.byt.below hB4).more hB4.size)).mono ?_
      rintro e w3 ⟨rfl, hB5⟩
      have hb6 := hb5.trans (hB5.mono hb5.size)
      go_wp2_with fail
      refine (awake_any _).mono ?_
      rintro e w4 ⟨rfl, hB6⟩
      go_wp2
      go_ret
      exact ⟨rfl, hb6.trans (hB6.mono hb6.size)⟩

set_option maxRecDepth 100000 in
set_option maxHeartbeats 4000000 in
theorem turns_1 {w0 : World} (f : Nat → Nat) (hf : ∀ i, i < 8 → f i < 256) (a : Int) (ha0 : 0 ≤ a) (ha1 : a ≤ 255) (har : a % 4 = 1) :
    Calls Try.prog 7 #[.agg #[bv (f 0), bv (f 1), bv (f 2), bv (f 3), bv (f 4), bv (f 5), bv (f 6), bv (f 7)], .int .u8 a] w0 fun e w' => e = .returned (.bool true) ∧ Below w0.heap.size w0 w' := by
  obtain ⟨W, hW⟩ : ∃ W, w0.alloc (.cells #[bv (f 0), bv (f 1), bv (f 2), bv (f 3), bv (f 4), bv (f 5), bv (f 6), bv (f 7)] 44) = W := ⟨_, rfl⟩
  have hB0 : Below w0.heap.size w0 (w0.alloc (.cells #[bv (f 0), bv (f 1), bv (f 2), bv (f 3), bv (f 4), bv (f 5), bv (f 6), bv (f 7)] 44)) := (Below.refl _ _).alloc (Nat.le_refl _) _
  have hby := arr_byt w0 f hf 44
  have hcel := arr_cell w0 f 44
  have hsz : (w0.alloc (.cells #[bv (f 0), bv (f 1), bv (f 2), bv (f 3), bv (f 4), bv (f 5), bv (f 6), bv (f 7)] 44)).heap.size = w0.heap.size + 1 := by simp
  obtain ⟨m, hm⟩ : ∃ m, num (fun i => f (pln false 0 2 i)) 2 = m := ⟨_, rfl⟩
  have HG : Hid (∀ W : World, Byt W W.heap.size (some ⟨w0.heap.size, 0, none⟩) 8 8 f → Calls Try.prog 15 #[.slice (some ⟨w0.heap.size, 0, none⟩) 8 8, .int .i64 0, .int .i64 2, .bool false] W fun e w' => e = .returned (.tuple #[.int .u64 (m : Int), .int .i64 0]) ∧ Below W.heap.size W w') :=
    fun W h => hm ▸ get_ok false (some ⟨w0.heap.size, 0, none⟩) 8 8 0 2 f W (by decide) (by decide) (by decide) h
  have HT : Hid (∀ (W : World) (A : Option Addr) (c : Nat), Byt W W.heap.size A 2 c (fun q => f (2 - 1 - q)) → Calls Try.prog 15 #[.slice A 2 c, .int .i64 0, .int .i64 2, .bool true] W fun e w' => e = .returned (.tuple #[.int .u64 (m : Int), .int .i64 0]) ∧ Below W.heap.size W w') :=
    fun W A c h => hm ▸ turn_eq f 2 ▸ get_ok true A 2 c 0 2 (fun q => f (2 - 1 - q)) W (by decide) (by decide) (by decide) h
  have HF := Lib.hid hf
  rw [hW] at hB0 hby hcel hsz
  have HW := Lib.hid hW
  have HC := Lib.hid hcel
  have HY := Lib.hid hby
  have HZ := Lib.hid hsz
  have hz1 : w0.heap.size + 1 ≤ W.heap.size := by omega
  have hB1 : Below w0.heap.size w0 (W.alloc (.cells #[.int .i64 1, .int .i64 2, .int .i64 4, .int .i64 8] 3)) := hB0.alloc (by omega) _
  have hB2 : Below (w0.heap.size + 1) W (W.alloc (.cells #[.int .i64 1, .int .i64 2, .int .i64 4, .int .i64 8] 3)) := (Below.refl _ _).alloc (by omega) _
  obtain ⟨W1, hW1⟩ : ∃ W1, W.alloc (.cells #[.int .i64 1, .int .i64 2, .int .i64 4, .int .i64 8] 3) = W1 := ⟨_, rfl⟩
  rw [hW1] at hB1 hB2
  have HW1 := Lib.hid hW1
  clear hm hW hcel hby hsz hB0 hW1
  go_enter Try.func7, Try.ntmps7
  go_wp2
  rw [HW.out, HW1.out]
  clear har
  go_loopw [6, 7] (fun v i wr => ∃ (q : Int) (j : Nat) (A' : Option Addr) (c' : Nat), j ≤ 2 ∧ q + j ≤ 2 - 1 ∧ 2 - 1 ≤ q + j ∧ i = .int .i64 q ∧ v = .slice A' j c' ∧ Own_ wr (w0.heap.size + 1) 5 A' j c' (fun i => f (2 - 1 - i)) ∧ Below (w0.heap.size + 1) W1 wr)
    (fun _ i _ => (intOf i + 1).toNat)
  case atStart => exact ⟨2 - 1, 0, none, 0, by omega, by omega, by omega, rfl, rfl, Own_.nil_, Below.refl _ _⟩
  case round =>
    obtain ⟨q, j, A', c', hj, hq1, hq2, rfl, rfl, hown, hB⟩ := hrel
    have hb3 := hB1.trans (hB.mono (by omega))
    have hb4 := hB2.trans hB
    by_cases hlt : 0 ≤ q
    · have hq8 : q < 8 := by omega
      have hcell := (hb4.cell (p := ⟨w0.heap.size, q.toNat, none⟩) (by show w0.heap.size < _; omega)).trans (HC.out q.toNat (by omega))
      have hu : f q.toNat < 256 := HF.out _ (by omega)
      go_wp2_with (at_builtin; go_must (refine app_bytes _ rfl _ _ _ 5 rfl Try.underlying22 infoB rfl (hown.alloc _) rfl (one_new _ _ hu _) (by omega) (by have := hb4.size; simp; omega) ?_; rintro A2 c2 w2 hown2 hg2 hB3))
      refine ⟨⟨q - 1, j + 1, A2, c2, by omega, by omega, by omega, rfl, rfl, hown2.congr (cat_snoc (fun i => f (2 - 1 - i)) j _ (by rw [show q.toNat = 2 - 1 - j from by omega])), (hB.alloc (by have := hb4.size; omega) _).trans hB3⟩, by simp [intOf]; omega⟩
    · obtain rfl : j = 2 := by omega
      go_wp2_with fail
      refine (HG.out _ ((HY.out.below hb4).more (by have := hb4.size; omega))).mono ?_
      rintro e w2 ⟨rfl, hB4⟩
      have hb5 := hb3.trans (hB4.mono hb3.size)
      go_wp2_with fail
      refine (HT.out _ _ _ ((hown.byt.below hB4).more hB4.size)).mono ?_
      rintro e w3 ⟨rfl, hB5⟩
      have hb6 := hb5.trans (hB5.mono hb5.size)
      go_wp2_with fail
      refine (awake_any _).mono ?_
      rintro e w4 ⟨rfl, hB6⟩
      go_wp2
      go_ret
      exact ⟨rfl, hb6.trans (hB6.mono hb6.size)⟩

set_option maxRecDepth 100000 in
set_option maxHeartbeats 4000000 in
theorem turns_2 {w0 : World} (f : Nat → Nat) (hf : ∀ i, i < 8 → f i < 256) (a : Int) (ha0 : 0 ≤ a) (ha1 : a ≤ 255) (har : a % 4 = 2) :
    Calls Try.prog 7 #[.agg #[bv (f 0), bv (f 1), bv (f 2), bv (f 3), bv (f 4), bv (f 5), bv (f 6), bv (f 7)], .int .u8 a] w0 fun e w' => e = .returned (.bool true) ∧ Below w0.heap.size w0 w' := by
  obtain ⟨W, hW⟩ : ∃ W, w0.alloc (.cells #[bv (f 0), bv (f 1), bv (f 2), bv (f 3), bv (f 4), bv (f 5), bv (f 6), bv (f 7)] 44) = W := ⟨_, rfl⟩
  have hB0 : Below w0.heap.size w0 (w0.alloc (.cells #[bv (f 0), bv (f 1), bv (f 2), bv (f 3), bv (f 4), bv (f 5), bv (f 6), bv (f 7)] 44)) := (Below.refl _ _).alloc (Nat.le_refl _) _
  have hby := arr_byt w0 f hf 44
  have hcel := arr_cell w0 f 44
  have hsz : (w0.alloc (.cells #[bv (f 0), bv (f 1), bv (f 2), bv (f 3), bv (f 4), bv (f 5), bv (f 6), bv (f 7)] 44)).heap.size = w0.heap.size + 1 := by simp
  obtain ⟨m, hm⟩ : ∃ m, num (fun i => f (pln false 0 4 i)) 4 = m := ⟨_, rfl⟩
  have HG : Hid (∀ W : World, Byt W W.heap.size (some ⟨w0.heap.size, 0, none⟩) 8 8 f → Calls Try.prog 15 #[.slice (some ⟨w0.heap.size, 0, none⟩) 8 8, .int .i64 0, .int .i64 4, .bool false] W fun e w' => e = .returned (.tuple #[.int .u64 (m : Int), .int .i64 0]) ∧ Below W.heap.size W w') :=
    fun W h => hm ▸ get_ok false (some ⟨w0.heap.size, 0, none⟩) 8 8 0 4 f W (by decide) (by decide) (by decide) h
  have HT : Hid (∀ (W : World) (A : Option Addr) (c : Nat), Byt W W.heap.size A 4 c (fun q => f (4 - 1 - q)) → Calls Try.prog 15 #[.slice A 4 c, .int .i64 0, .int .i64 4, .bool true] W fun e w' => e = .returned (.tuple #[.int .u64 (m : Int), .int .i64 0]) ∧ Below W.heap.size W w') :=
    fun W A c h => hm ▸ turn_eq f 4 ▸ get_ok true A 4 c 0 4 (fun q => f (4 - 1 - q)) W (by decide) (by decide) (by decide) h
  have HF := Lib.hid hf
  rw [hW] at hB0 hby hcel hsz
  have HW := Lib.hid hW
  have HC := Lib.hid hcel
  have HY := Lib.hid hby
  have HZ := Lib.hid hsz
  have hz1 : w0.heap.size + 1 ≤ W.heap.size := by omega
  have hB1 : Below w0.heap.size w0 (W.alloc (.cells #[.int .i64 1, .int .i64 2, .int .i64 4, .int .i64 8] 3)) := hB0.alloc (by omega) _
  have hB2 : Below (w0.heap.size + 1) W (W.alloc (.cells #[.int .i64 1, .int .i64 2, .int .i64 4, .int .i64 8] 3)) := (Below.refl _ _).alloc (by omega) _
  obtain ⟨W1, hW1⟩ : ∃ W1, W.alloc (.cells #[.int .i64 1, .int .i64 2, .int .i64 4, .int .i64 8] 3) = W1 := ⟨_, rfl⟩
  rw [hW1] at hB1 hB2
  have HW1 := Lib.hid hW1
  clear hm hW hcel hby hsz hB0 hW1
  go_enter Try.func7, Try.ntmps7
  go_wp2
  rw [HW.out, HW1.out]
  clear har
  go_loopw [6, 7] (fun v i wr => ∃ (q : Int) (j : Nat) (A' : Option Addr) (c' : Nat), j ≤ 4 ∧ q + j ≤ 4 - 1 ∧ 4 - 1 ≤ q + j ∧ i = .int .i64 q ∧ v = .slice A' j c' ∧ Own_ wr (w0.heap.size + 1) 5 A' j c' (fun i => f (4 - 1 - i)) ∧ Below (w0.heap.size + 1) W1 wr)
    (fun _ i _ => (intOf i + 1).toNat)
  case atStart => exact ⟨4 - 1, 0, none, 0, by omega, by omega, by omega, rfl, rfl, Own_.nil_, Below.refl _ _⟩
  case round =>
    obtain ⟨q, j, A', c', hj, hq1, hq2, rfl, rfl, hown, hB⟩ := hrel
    have hb3 := hB1.trans (hB.mono (by omega))
    have hb4 := hB2.trans hB
    by_cases hlt : 0 ≤ q
    · have hq8 : q < 8 := by omega
      have hcell := (hb4.cell (p := ⟨w0.heap.size, q.toNat, none⟩) (by show w0.heap.size < _; omega)).trans (HC.out q.toNat (by omega))
      have hu : f q.toNat < 256 := HF.out _ (by omega)
      go_wp2_with (at_builtin; go_must (refine app_bytes _ rfl _ _ _ 5 rfl Try.underlying22 infoB rfl (hown.alloc _) rfl (one_new _ _ hu _) (by omega) (by have := hb4.size; simp; omega) ?_; rintro A2 c2 w2 hown2 hg2 hB3))
      refine ⟨⟨q - 1, j + 1, A2, c2, by omega, by omega, by omega, rfl, rfl, hown2.congr (cat_snoc (fun i => f (4 - 1 - i)) j _ (by rw [show q.toNat = 4 - 1 - j from by omega])), (hB.alloc (by have := hb4.size; omega) _).trans hB3⟩, by simp [intOf]; omega⟩
    · obtain rfl : j = 4 := by omega
      go_wp2_with fail
      refine (HG.out _ ((HY.out.below hb4).more (by have := hb4.size; omega))).mono ?_
      rintro e w2 ⟨rfl, hB4⟩
      have hb5 := hb3.trans (hB4.mono hb3.size)
      go_wp2_with fail
      refine (HT.out _ _ _ ((hown.byt.below hB4).more hB4.size)).mono ?_
      rintro e w3 ⟨rfl, hB5⟩
      have hb6 := hb5.trans (hB5.mono hb5.size)
      go_wp2_with fail
      refine (awake_any _).mono ?_
      rintro e w4 ⟨rfl, hB6⟩
      go_wp2
      go_ret
      exact ⟨rfl, hb6.trans (hB6.mono hb6.size)⟩

set_option maxRecDepth 100000 in
set_option maxHeartbeats 4000000 in
theorem turns_3 {w0 : World} (f : Nat → Nat) (hf : ∀ i, i < 8 → f i < 256) (a : Int) (ha0 : 0 ≤ a) (ha1 : a ≤ 255) (har : a % 4 = 3) :
    Calls Try.prog 7 #[.agg #[bv (f 0), bv (f 1), bv (f 2), bv (f 3), bv (f 4), bv (f 5), bv (f 6), bv (f 7)], .int .u8 a] w0 fun e w' => e = .returned (.bool true) ∧ Below w0.heap.size w0 w' := by
  obtain ⟨W, hW⟩ : ∃ W, w0.alloc (.cells #[bv (f 0), bv (f 1), bv (f 2), bv (f 3), bv (f 4), bv (f 5), bv (f 6), bv (f 7)] 44) = W := ⟨_, rfl⟩
  have hB0 : Below w0.heap.size w0 (w0.alloc (.cells #[bv (f 0), bv (f 1), bv (f 2), bv (f 3), bv (f 4), bv (f 5), bv (f 6), bv (f 7)] 44)) := (Below.refl _ _).alloc (Nat.le_refl _) _
  have hby := arr_byt w0 f hf 44
  have hcel := arr_cell w0 f 44
  have hsz : (w0.alloc (.cells #[bv (f 0), bv (f 1), bv (f 2), bv (f 3), bv (f 4), bv (f 5), bv (f 6), bv (f 7)] 44)).heap.size = w0.heap.size + 1 := by simp
  obtain ⟨m, hm⟩ : ∃ m, num (fun i => f (pln false 0 8 i)) 8 = m := ⟨_, rfl⟩
  have HG : Hid (∀ W : World, Byt W W.heap.size (some ⟨w0.heap.size, 0, none⟩) 8 8 f → Calls Try.prog 15 #[.slice (some ⟨w0.heap.size, 0, none⟩) 8 8, .int .i64 0, .int .i64 8, .bool false] W fun e w' => e = .returned (.tuple #[.int .u64 (m : Int), .int .i64 0]) ∧ Below W.heap.size W w') :=
    fun W h => hm ▸ get_ok false (some ⟨w0.heap.size, 0, none⟩) 8 8 0 8 f W (by decide) (by decide) (by decide) h
  have HT : Hid (∀ (W : World) (A : Option Addr) (c : Nat), Byt W W.heap.size A 8 c (fun q => f (8 - 1 - q)) → Calls Try.prog 15 #[.slice A 8 c, .int .i64 0, .int .i64 8, .bool true] W fun e w' => e = .returned (.tuple #[.int .u64 (m : Int), .int .i64 0]) ∧ Below W.heap.size W w') :=
    fun W A c h => hm ▸ turn_eq f 8 ▸ get_ok true A 8 c 0 8 (fun q => f (8 - 1 - q)) W (by decide) (by decide) (by decide) h
  have HF := Lib.hid hf
  rw [hW] at hB0 hby hcel hsz
  have HW := Lib.hid hW
  have HC := Lib.hid hcel
  have HY := Lib.hid hby
  have HZ := Lib.hid hsz
  have hz1 : w0.heap.size + 1 ≤ W.heap.size := by omega
  have hB1 : Below w0.heap.size w0 (W.alloc (.cells #[.int .i64 1, .int .i64 2, .int .i64 4, .int .i64 8] 3)) := hB0.alloc (by omega) _
  have hB2 : Below (w0.heap.size + 1) W (W.alloc (.cells #[.int .i64 1, .int .i64 2, .int .i64 4, .int .i64 8] 3)) := (Below.refl _ _).alloc (by omega) _
  obtain ⟨W1, hW1⟩ : ∃ W1, W.alloc (.cells #[.int .i64 1, .int .i64 2, .int .i64 4, .int .i64 8] 3) = W1 := ⟨_, rfl⟩
  rw [hW1] at hB1 hB2
  have HW1 := Lib.hid hW1
  clear hm hW hcel hby hsz hB0 hW1
  go_enter Try.func7, Try.ntmps7
  go_wp2
  rw [HW.out, HW1.out]
  clear har
  go_loopw [6, 7] (fun v i wr => ∃ (q : Int) (j : Nat) (A' : Option Addr) (c' : Nat), j ≤ 8 ∧ q + j ≤ 8 - 1 ∧ 8 - 1 ≤ q + j ∧ i = .int .i64 q ∧ v = .slice A' j c' ∧ Own_ wr (w0.heap.size + 1) 5 A' j c' (fun i => f (8 - 1 - i)) ∧ Below (w0.heap.size + 1) W1 wr)
    (fun _ i _ => (intOf i + 1).toNat)
  case atStart => exact ⟨8 - 1, 0, none, 0, by omega, by omega, by omega, rfl, rfl, Own_.nil_, Below.refl _ _⟩
  case round =>
    obtain ⟨q, j, A', c', hj, hq1, hq2, rfl, rfl, hown, hB⟩ := hrel
    have hb3 := hB1.trans (hB.mono (by omega))
    have hb4 := hB2.trans hB
    by_cases hlt : 0 ≤ q
    · have hq8 : q < 8 := by omega
      have hcell := (hb4.cell (p := ⟨w0.heap.size, q.toNat, none⟩) (by show w0.heap.size < _; omega)).trans (HC.out q.toNat (by omega))
      have hu : f q.toNat < 256 := HF.out _ (by omega)
      go_wp2_with (at_builtin; go_must (refine app_bytes _ rfl _ _ _ 5 rfl Try.underlying22 infoB rfl (hown.alloc _) rfl (one_new _ _ hu _) (by omega) (by have := hb4.size; simp; omega) ?_; rintro A2 c2 w2 hown2 hg2 hB3))
      refine ⟨⟨q - 1, j + 1, A2, c2, by omega, by omega, by omega, rfl, rfl, hown2.congr (cat_snoc (fun i => f (8 - 1 - i)) j _ (by rw [show q.toNat = 8 - 1 - j from by omega])), (hB.alloc (by have := hb4.size; omega) _).trans hB3⟩, by simp [intOf]; omega⟩
    · obtain rfl : j = 8 := by omega
      go_wp2_with fail
      refine (HG.out _ ((HY.out.below hb4).more (by have := hb4.size; omega))).mono ?_
      rintro e w2 ⟨rfl, hB4⟩
      have hb5 := hb3.trans (hB4.mono hb3.size)
      go_wp2_with fail
      refine (HT.out _ _ _ ((hown.byt.below hB4).more hB4.size)).mono ?_
      rintro e w3 ⟨rfl, hB5⟩
      have hb6 := hb5.trans (hB5.mono hb5.size)
      go_wp2_with fail
      refine (awake_any _).mono ?_
      rintro e w4 ⟨rfl, hB6⟩
      go_wp2
      go_ret
      exact ⟨rfl, hb6.trans (hB6.mono hb6.size)⟩

theorem walk_WordTurns {w0 : World} (f : Nat → Nat) (hf : ∀ i, i < 8 → f i < 256) (a : Int) (ha : (Lit.int .u8 a).wf = true) :
    Calls Try.prog 7 #[.agg #[bv (f 0), bv (f 1), bv (f 2), bv (f 3), bv (f 4), bv (f 5), bv (f 6), bv (f 7)], .int .u8 a] w0 fun e w' => e = .returned (.bool true) ∧ Below w0.heap.size w0 w' := by
  simp [Lit.wf, IntKind.min, IntKind.max, IntKind.signed, IntKind.bits] at ha
  have h : a % 4 = 0 ∨ a % 4 = 1 ∨ a % 4 = 2 ∨ a % 4 = 3 := by omega
  rcases h with h | h | h | h
  · exact turns_0 f hf a ha.1 ha.2 h
  · exact turns_1 f hf a ha.1 ha.2 h
  · exact turns_2 f hf a ha.1 ha.2 h
  · exact turns_3 f hf a ha.1 ha.2 h

namespace wordTurnsRow
open Go.ChangeShapes Go.WideShapes Go.ChangeAt Go.RowKit Go.Joins
open Go.ChangeMaps (open_string shut_string)
set_option linter.unusedVariables false
theorem own : ownKnob Try.prog.godebug = none := by kernel_rfl
theorem laidOut : laidOutB Try.prog = true := by kernel_rfl
set_option maxRecDepth 100000 in
theorem lifted (os : Os) (started : os.Started) (H : Type) (enc : TypeId × Value → H) :
    ReturnsInHanded {} Try.checked os 7 .any (Rows.wordTurnsSpec.pre6 enc Try.prog Try.f7 Rows.wordTurnsRow.domain false) (Rows.wordTurnsSpec.post enc Try.prog Try.f7 false true false false) := by
  refine returnsInHanded_of_change (C := Try.checked) own started (by kernel_rfl) Try.func7
    (ChangeSpec.witness6 (enc := enc) (C := Try.checked) false ⟨#[], #[.agg #[.int .u8 0, .int .u8 0, .int .u8 0, .int .u8 0, .int .u8 0, .int .u8 0, .int .u8 0, .int .u8 0], .int .u8 0], []⟩ 8 (by kernel_rfl) (by kernel_rfl) (by kernel_rfl) (by kernel_rfl)) ?_
  intro W base args ds gs before hval0 hW hcnd _
  have hval : ∀ (j : Nat) t v, Try.f7.params[j]? = some t → args[j]? = some v → Value.okWide Try.prog W .any base t v := hval0
  have hW' := hW
  obtain ⟨p, q, hA0, hV, rfl, hfz, hnd⟩ := hW
  have hA : DataW.TrodAll enc Try.prog W 0 (fun _ => true) true Try.f7.params.toList args.toList ds p := hA0
  rw [Try.params7] at hA hval
  obtain ⟨v0, vs0, d0, ds0, p0, q0, hargs, rfl, rfl, h0, r0⟩ := trodAll_cons hA
  obtain ⟨v1, vs1, d1, ds1, p1, q1, rfl, rfl, rfl, h1, r1⟩ := trodAll_cons r0
  obtain ⟨rfl, rfl, rfl⟩ := trodAll_nil r1
  obtain rfl : args = #[v0, v1] := by cases args; simp_all
  obtain ⟨rfl, rfl⟩ := trodVars_none hV
  have k0 := h0
  have lt0 : ∀ x ∈ p0, x.block < W.heap.size := by obtain ⟨m, hm⟩ := k0; exact DataW.trod_lt m _ _ _ hm
  have k1 := h1
  have lt1 : ∀ x ∈ p1, x.block < W.heap.size := by obtain ⟨m, hm⟩ := k1; exact DataW.trod_lt m _ _ _ hm
  obtain ⟨f0, rfl, g0⟩ := open_arr8 (hval 0 44 v0 rfl rfl) h0
  obtain ⟨a1, rfl, rfl, rfl, w1⟩ := open_int Try.underlying5 (hval 1 5 v1 rfl rfl) h1
  clear hA0 hval0
  refine (walk_WordTurns (w0 := W) f0 g0 a1 w1).mono fun e W' ⟨he, bel⟩ => ?_
  subst he
  exact ⟨_, rfl, _, _, _, [], _, [], hW', trodAll_mk1 (shut_bool Try.underlying4 _), (trodAll_cons_mk (Below.trod laidOut (by kernel_rfl) (of_decide_eq_true (by kernel_rfl)) k0 bel lt0) (trodAll_cons_mk (Below.trod laidOut (by kernel_rfl) (of_decide_eq_true (by kernel_rfl)) k1 bel lt1) trodAll_mk0)), rfl, bel.frame _, fun h => by cases h⟩

theorem over : Rows.wordTurnsRow.holds Try.pinned (OpenSpec.ofChange Rows.wordTurnsSpec) :=
  OpenClaim.holds_of_wide 7 Try.f7 rfl rfl rfl rfl rfl rfl rfl ⟨rfl, rfl, rfl, rfl, rfl⟩ rfl rfl rfl rfl rfl (by kernel_rfl) Try.func7 (by kernel_rfl)
    (of_decide_eq_true (by kernel_rfl)) (by unfold Func.isWrapper; first | (rw [if_pos (by decide +kernel)]; kernel_rfl) | (rw [if_neg (by decide +kernel)]; exact ⟨rfl, rfl⟩))
    (fun os started H enc _ => lifted os started H enc)
end wordTurnsRow

theorem wordTurns_proved : Rows.WordTurnsSaid := wordTurnsRow.over
#print axioms wordTurns_proved
end Go.Proofs.Ytfdfngljfilomaa
