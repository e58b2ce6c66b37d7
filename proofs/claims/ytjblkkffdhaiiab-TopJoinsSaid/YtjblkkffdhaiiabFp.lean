/-
  The chapter's example of layer 7.
-/
import Derived.Test.YtjblkkffdhaiiabFm
import Derived.Test.YtjblkkffdhaiiabFn
namespace Go.Proofs.Ytjblkkffdhaiiab
open Go.RowKit

def g7 (i : Nat) : IV := if i = 0 then ⟨5, 0, 0, 1⟩ else if i = 1 then ⟨0x84, 0, 0, 0⟩ else ⟨0x16, 0, 0, 0⟩
theorem g7_check : (checkF g7 3).2 = 0 := by decide +kernel
theorem g7_cnt : cnt g7 3 3 = 2 := by decide +kernel
theorem g7_prn : prn g7 3 0 = ⟨5, 0, 0, 0⟩ ∧ prn g7 3 1 = ⟨0x16, 0, 0, 0⟩ := ⟨by kernel_rfl, by kernel_rfl⟩
theorem lit7 (w : World) (E : TypeId) : Ins (w.alloc (.cells #[.int .u16 5, .int .u8 0, .int .u8 0, .int .u32 1, .int .u16 132, .int .u8 0, .int .u8 0, .int .u32 0, .int .u16 22, .int .u8 0, .int .u8 0, .int .u32 0] E)) (w.heap.size + 1) (some ⟨w.heap.size, 0, none⟩) 3 3 g7 := by
  refine ⟨Cel.mk_ (by omega) (by decide) (by decide) (fun i hi => ?_), fun i _ => ?_⟩
  · match i, hi with
    | 0, _ => simp [icell, g7]
    | 1, _ => simp [icell, g7]
    | 2, _ => simp [icell, g7]
    | 3, _ => simp [icell, g7]
    | 4, _ => simp [icell, g7]
    | 5, _ => simp [icell, g7]
    | 6, _ => simp [icell, g7]
    | 7, _ => simp [icell, g7]
    | 8, _ => simp [icell, g7]
    | 9, _ => simp [icell, g7]
    | 10, _ => simp [icell, g7]
    | 11, _ => simp [icell, g7]
  · unfold g7 IV.ok
    split
    · decide
    · split <;> decide
set_option maxRecDepth 100000 in
set_option maxHeartbeats 4000000 in
theorem awake7_any (w : World) : Calls Try.prog 14 #[] w fun e w' => e = .returned (.bool true) ∧ Below w.heap.size w w' := by
  have hb0 : Below w.heap.size w (w.alloc (.cells #[.int .u16 5, .int .u8 0, .int .u8 0, .int .u32 1, .int .u16 132, .int .u8 0, .int .u8 0, .int .u32 0, .int .u16 22, .int .u8 0, .int .u8 0, .int .u32 0] 27)) := (Below.refl _ _).alloc (Nat.le_refl _) _
  have HB := Lib.hid hb0
  have HC := Lib.hid (prune_ok _ 3 3 g7 _ ((lit7 w 27).more (by simp)) g7_check)
  rw [g7_cnt] at HC
  clear hb0
  go_enter Try.func14, Try.ntmps14
  go_wp2_with fail
  refine HC.out.mono ?_
  rintro e w1 ⟨A1, c1, rfl, hown, hB1⟩
  obtain ⟨b, rfl, hb, hbs, hc⟩ := hown.at_ (by decide)
  have q0 := (hc 0 (by decide)).1
  have q1 := (hc 1 (by decide)).1
  have q2 := (hc 2 (by decide)).1
  have q3 := (hc 3 (by decide)).1
  have q4 := (hc 4 (by decide)).1
  have q5 := (hc 5 (by decide)).1
  have q6 := (hc 6 (by decide)).1
  have q7 := (hc 7 (by decide)).1
  have e0 := g7_prn.1
  have e1 := g7_prn.2
  simp [icell, e0, e1] at q0 q1 q2 q3 q4 q5 q6 q7
  have hb1 := HB.out.trans (hB1.mono HB.out.size)
  have HB1 := Lib.hid hb1
  clear hc hown hB1 hb1 e0 e1
  go_wp2
  go_ret
  exact ⟨rfl, HB1.out⟩
end Go.Proofs.Ytjblkkffdhaiiab
