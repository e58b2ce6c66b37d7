/-
  Contracts of check.place's methods that call others: which cell, how far an instruction leads, whether a jump leads too far.
-/
import Derived.Test.YtfanapnhdhoppaaKb
namespace Go.Proofs.Ytfanapnhdhoppaa
open Go.RowKit

section
variable (c t f k K b : Int) (X : Bool) (w : World)
set_option maxRecDepth 100000 in
theorem speaks_any : Calls Try.prog 115 #[plA c t f k K X b] w fun e w' => e = .returned (.bool ((K == 3 || K == 6 || (K == 8 || K == 9)) && decide (k ≥ 16))) ∧ Below w.heap.size w w' := by
  have hbx := Bx.new (w := w) (c := c) (t := t) (f := f) (k := k) (K := K) (X := X) (b := b) 135
  have hB0 : Below w.heap.size w (w.alloc (.cells #[.int .u16 c, .int .u8 t, .int .u8 f, .int .u32 k, .int .i64 K, .bool X, .int .i64 b] 135)) := (Below.refl _ _).alloc (Nat.le_refl _) _
  have HX := Lib.hid hbx
  clear hbx
  cases h1 : (K == 3 || K == 6) <;> cases h2 : (K == 8 || K == 9)
  all_goals
    have H1 := Lib.hid h1
    have H2 := Lib.hid h2
    clear h1 h2
    go_enter Try.func115, Try.ntmps115
    go_wp2_with (first
      | (go_at_call 70
         refine (loadsCell_any _ _ _ _ _ _ _ _).mono ?_
         rw [H1.out]
         rintro e w1 ⟨rfl, hB1⟩
         obtain ⟨q0, q1, q2, q3, q4, q5, q6⟩ := HX.out.below hB1 (by simp)
         have hb1 := hB0.trans (hB1.mono (by simp)))
      | (go_at_call 95
         refine (stores_any _ _ _ _ _ _ _ _).mono ?_
         rw [H2.out]
         rintro e w2 ⟨rfl, hB2⟩
         obtain ⟨p0, p1, p2, p3, p4, p5, p6⟩ := (HX.out.below hB1 (by simp)).below hB2 (by have := hB1.size; simp at this; omega)
         have hb2 := hb1.trans (hB2.mono hb1.size)))
    go_ret
    first
      | exact ⟨rfl, hb2⟩
      | exact ⟨rfl, hb1⟩
end

/-- How far behind the next one those stand that may be done next, by the kind. -/
def farsK (K : Int) (t f k : Nat) : List Nat :=
  if (K == 14 || K == 15) = true then [] else if (K == 13) = true then [k] else if (K == 25 || K == 26 || K == 27 || K == 28) = true then [t, f] else [0]
/-- A slice that reads as these numbers, to its capacity. -/
def U32s (w : World) (A : Option Addr) (n : Nat) (l : List Nat) : Prop := n = l.length ∧ Cel w w.heap.size 1 A n n (fun j => .int .u32 ((l.getD j 0 : Nat) : Int))

set_option maxRecDepth 100000 in
theorem leads_any (c : Int) (t f k : Nat) (K b : Int) (X : Bool) (w : World) (ht : t < 256) (hf : f < 256) : Calls Try.prog 96 #[plA c t f k K X b] w fun e w' => ∃ A n, e = .returned (.slice A n n) ∧ U32s w' A n (farsK K t f k) ∧ Below w.heap.size w w' := by
  have hbx := Bx.new (w := w) (c := c) (t := t) (f := f) (k := k) (K := K) (X := X) (b := b) 135
  have hB0 : Below w.heap.size w (w.alloc (.cells #[.int .u16 c, .int .u8 t, .int .u8 f, .int .u32 k, .int .i64 K, .bool X, .int .i64 b] 135)) := (Below.refl _ _).alloc (Nat.le_refl _) _
  have HX := Lib.hid hbx
  clear hbx
  cases h1 : (K == 14 || K == 15)
  · cases h2 : (K == 13)
    · cases h3 : (K == 25 || K == 26 || K == 27 || K == 28)
      · have HF : Hid (farsK K t f k = [0]) := Lib.hid (by unfold farsK; rw [h1, h2, h3]; rfl)
        have H1 := Lib.hid h1
        have H3 : Hid ((K == 13 || (K == 25 || K == 26 || K == 27 || K == 28)) = false) := Lib.hid (by rw [h2, h3]; rfl)
        clear h1 h3
        go_enter Try.func96, Try.ntmps96
        go_wp2_with (first
          | (go_at_call 93
             refine (returns_any _ _ _ _ _ _ _ _).mono ?_
             rw [H1.out]
             rintro e w1 ⟨rfl, hB1⟩
             obtain ⟨q0, q1, q2, q3, q4, q5, q6⟩ := HX.out.below hB1 (by simp)
             have hb1 := hB0.trans (hB1.mono (by simp)))
          | (go_at_call 119
             refine (jumps_any _ _ _ _ _ _ _ _).mono ?_
             rw [H3.out]
             rintro e w2 ⟨rfl, hB2⟩
             have hb2 := hb1.trans (hB2.mono hb1.size)))
        go_ret
        rw [HF.out]
        refine ⟨_, _, rfl, ⟨rfl, ?_⟩, hb2.alloc hb2.size _⟩
        exact Cel.mk_ (by simp) (Nat.le_refl _) (by decide) (fun i hi => by
          match i, hi with
          | 0, _ => simp)
      · have HF : Hid (farsK K t f k = [t, f]) := Lib.hid (by unfold farsK; rw [h1, h2, h3]; rfl)
        have H1 := Lib.hid h1
        have H3 : Hid ((K == 13 || (K == 25 || K == 26 || K == 27 || K == 28)) = true) := Lib.hid (by rw [h2, h3]; rfl)
        clear h1 h3
        go_enter Try.func96, Try.ntmps96
        go_wp2_with (first
          | (go_at_call 93
             refine (returns_any _ _ _ _ _ _ _ _).mono ?_
             rw [H1.out]
             rintro e w1 ⟨rfl, hB1⟩
             obtain ⟨q0, q1, q2, q3, q4, q5, q6⟩ := HX.out.below hB1 (by simp)
             have hb1 := hB0.trans (hB1.mono (by simp)))
          | (go_at_call 119
             refine (jumps_any _ _ _ _ _ _ _ _).mono ?_
             rw [H3.out]
             rintro e w2 ⟨rfl, hB2⟩
             obtain ⟨p0, p1, p2, p3, p4, p5, p6⟩ := (HX.out.below hB1 (by simp)).below hB2 (by have := hB1.size; simp at this; omega)
             have hb2 := hb1.trans (hB2.mono hb1.size)))
        go_ret
        rw [HF.out]
        refine ⟨_, _, rfl, ⟨rfl, ?_⟩, hb2.alloc hb2.size _⟩
        exact Cel.mk_ (by simp) (Nat.le_refl _) (by decide) (fun i hi => by
          match i, hi with
          | 0, _ => simp
          | 1, _ => simp)
    · have HF : Hid (farsK K t f k = [k]) := Lib.hid (by unfold farsK; rw [h1, h2]; rfl)
      have H1 := Lib.hid h1
      clear h1
      go_enter Try.func96, Try.ntmps96
      go_wp2_with (first
        | (go_at_call 93
           refine (returns_any _ _ _ _ _ _ _ _).mono ?_
           rw [H1.out]
           rintro e w1 ⟨rfl, hB1⟩
           obtain ⟨q0, q1, q2, q3, q4, q5, q6⟩ := HX.out.below hB1 (by simp)
           have hb1 := hB0.trans (hB1.mono (by simp))))
      go_ret
      rw [HF.out]
      refine ⟨_, _, rfl, ⟨rfl, ?_⟩, hb1.alloc hb1.size _⟩
      exact Cel.mk_ (by simp) (Nat.le_refl _) (by decide) (fun i hi => by
        match i, hi with
        | 0, _ => simp)
  · have HF : Hid (farsK K t f k = []) := Lib.hid (by unfold farsK; rw [h1]; rfl)
    have H1 := Lib.hid h1
    clear h1
    go_enter Try.func96, Try.ntmps96
    go_wp2_with (first
      | (go_at_call 93
         refine (returns_any _ _ _ _ _ _ _ _).mono ?_
         rw [H1.out]
         rintro e w1 ⟨rfl, hB1⟩
         have hb1 := hB0.trans (hB1.mono (by simp))))
    go_ret
    rw [HF.out]
    exact ⟨_, _, rfl, ⟨rfl, Cel.nil_⟩, hb1⟩

set_option maxRecDepth 100000 in
/-- The closure that asks whether a way leads too far. -/
theorem far_any (B : Nat) (r x : Nat) (w : World) (hc : w.cell? ⟨B, 6, none⟩ = some (.int .i64 r)) (hr : r ≤ 4096) (hx : x < 4294967296) :
    Calls Try.prog 164 #[.int .u32 x, .pointer (some ⟨B, 0, none⟩)] w fun e w' => e = .returned (.bool (decide (r ≤ x))) ∧ w' = w := by
  go_enter Try.func164, Try.ntmps164
  go_wp2
  go_ret
  exact ⟨rfl, rfl⟩
end Go.Proofs.Ytfanapnhdhoppaa
