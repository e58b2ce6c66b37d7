/-
  Contracts of the small methods of check.place: each tells what the numbers of its instruction say, and turns nothing that lay.
-/
import Derived.Test.YtfanapnhdhoppaaKa
namespace Go.Proofs.Ytfanapnhdhoppaa
open Go.RowKit

/-- A place as a value: an instruction's four numbers, its kind, whether its other side is X, how many stand behind it. -/
abbrev plA (c t f k K : Int) (X : Bool) (b : Int) : Value := .agg #[.int .u16 c, .int .u8 t, .int .u8 f, .int .u32 k, .int .i64 K, .bool X, .int .i64 b]

theorem two_pow_u16 (k : Int) (h0 : 0 ≤ k) (h1 : k ≤ 15) : IntKind.u16.wrap ((2 : Int) ^ k.toNat) = ((2 ^ k.toNat : Nat) : Int) := by
  have h : 2 ^ k.toNat ≤ 2 ^ 15 := Nat.pow_le_pow_right (by decide) (by omega)
  have e : ((2 : Int) ^ k.toNat) = ((2 ^ k.toNat : Nat) : Int) := by rw [Int.natCast_pow]; rfl
  have h3 : (2 : Nat) ^ 15 = 32768 := by decide
  rw [e, IntKind.wrap_u16]
  generalize (2 : Nat) ^ k.toNat = z at h ⊢
  omega

section
variable (c t f k K b : Int) (X : Bool) (w : World)

set_option maxRecDepth 100000 in
theorem loadsCell_any : Calls Try.prog 70 #[plA c t f k K X b] w fun e w' => e = .returned (.bool (K == 3 || K == 6)) ∧ Below w.heap.size w w' := by
  cases h : (K == 3)
  all_goals
    go_enter Try.func70, Try.ntmps70
    go_wp2
    go_ret
    exact ⟨rfl, (Below.refl _ _).alloc (Nat.le_refl _) _⟩
set_option maxRecDepth 100000 in
theorem stores_any : Calls Try.prog 95 #[plA c t f k K X b] w fun e w' => e = .returned (.bool (K == 8 || K == 9)) ∧ Below w.heap.size w w' := by
  cases h : (K == 8)
  all_goals
    go_enter Try.func95, Try.ntmps95
    go_wp2
    go_ret
    exact ⟨rfl, (Below.refl _ _).alloc (Nat.le_refl _) _⟩
set_option maxRecDepth 100000 in
theorem returns_any : Calls Try.prog 93 #[plA c t f k K X b] w fun e w' => e = .returned (.bool (K == 14 || K == 15)) ∧ Below w.heap.size w w' := by
  cases h : (K == 14)
  all_goals
    go_enter Try.func93, Try.ntmps93
    go_wp2
    go_ret
    exact ⟨rfl, (Below.refl _ _).alloc (Nat.le_refl _) _⟩
set_option maxRecDepth 100000 in
theorem meansNothing_any : Calls Try.prog 113 #[plA c t f k K X b] w fun e w' => e = .returned (.bool (K == 0)) ∧ Below w.heap.size w w' := by
  go_enter Try.func113, Try.ntmps113
  go_wp2
  go_ret
  exact ⟨rfl, (Below.refl _ _).alloc (Nat.le_refl _) _⟩
set_option maxRecDepth 100000 in
theorem cell_any (h0 : 0 ≤ k) (h1 : k ≤ 15) : Calls Try.prog 71 #[plA c t f k K X b] w fun e w' => e = .returned (.int .u16 ((2 ^ k.toNat : Nat) : Int)) ∧ Below w.heap.size w w' := by
  go_enter Try.func71, Try.ntmps71
  go_wp2
  go_ret
  exact ⟨by rw [← two_pow_u16 k h0 h1]; rfl, (Below.refl _ _).alloc (Nat.le_refl _) _⟩
set_option maxRecDepth 100000 in
theorem jumps_any : Calls Try.prog 119 #[plA c t f k K X b] w fun e w' => e = .returned (.bool (K == 13 || (K == 25 || K == 26 || K == 27 || K == 28))) ∧ Below w.heap.size w w' := by
  cases h1 : (K == 13) <;> cases h2 : (K == 25) <;> cases h3 : (K == 26) <;> cases h4 : (K == 27) <;> cases h5 : (K == 28)
  all_goals
    go_enter Try.func119, Try.ntmps119
    go_wp2
    go_ret
    exact ⟨rfl, (Below.refl _ _).alloc (Nat.le_refl _) _⟩

set_option maxRecDepth 100000 in
theorem loadsNoWord_any (h0 : 0 ≤ k) (h1 : k ≤ 4294967295) : Calls Try.prog 114 #[plA c t f k K X b] w fun e w' => e = .returned (.bool (K == 1 && (k % 4 != 0 || decide (k ≥ 64)))) ∧ Below w.heap.size w w' := by
  cases h : (K == 1) <;> cases h2 : (k % 4 != 0)
  all_goals
    go_enter Try.func114, Try.ntmps114
    go_wp2
    go_ret
    exact ⟨rfl, (Below.refl _ _).alloc (Nat.le_refl _) _⟩
set_option maxRecDepth 100000 in
theorem dividesByZero_any : Calls Try.prog 116 #[plA c t f k K X b] w fun e w' => e = .returned (.bool (K == 19 && !X && k == 0)) ∧ Below w.heap.size w w' := by
  cases h : (K == 19) <;> cases X
  all_goals
    go_enter Try.func116, Try.ntmps116
    go_wp2
    go_ret
    exact ⟨rfl, (Below.refl _ _).alloc (Nat.le_refl _) _⟩
set_option maxRecDepth 100000 in
theorem shiftsTooFar_any : Calls Try.prog 117 #[plA c t f k K X b] w fun e w' => e = .returned (.bool ((K == 22 || K == 23) && !X && decide (k > 31))) ∧ Below w.heap.size w w' := by
  cases h : (K == 22) <;> cases h2 : (K == 23) <;> cases X
  all_goals
    go_enter Try.func117, Try.ntmps117
    go_wp2
    go_ret
    exact ⟨rfl, (Below.refl _ _).alloc (Nat.le_refl _) _⟩
end

/-- A place in a block of its own. -/
def Bx (w : World) (B : Nat) (c t f k K : Int) (X : Bool) (b : Int) : Prop :=
  w.cell? ⟨B, 0, none⟩ = some (.int .u16 c) ∧ w.cell? ⟨B, 1, none⟩ = some (.int .u8 t) ∧ w.cell? ⟨B, 2, none⟩ = some (.int .u8 f) ∧ w.cell? ⟨B, 3, none⟩ = some (.int .u32 k) ∧ w.cell? ⟨B, 4, none⟩ = some (.int .i64 K) ∧ w.cell? ⟨B, 5, none⟩ = some (.bool X) ∧ w.cell? ⟨B, 6, none⟩ = some (.int .i64 b)
section
variable {c t f k K b : Int} {X : Bool} {w w' : World} {B N : Nat}
theorem Bx.new (E : TypeId) : Bx (w.alloc (.cells #[.int .u16 c, .int .u8 t, .int .u8 f, .int .u32 k, .int .i64 K, .bool X, .int .i64 b] E)) w.heap.size c t f k K X b := by
  refine ⟨?_, ?_, ?_, ?_, ?_, ?_, ?_⟩ <;> (rw [World.cell?_alloc_at _ _ _ _ rfl]; rfl)
theorem Bx.below (h : Bx w B c t f k K X b) (hb : Below N w w') (hB : B < N) : Bx w' B c t f k K X b := by
  obtain ⟨h0, h1, h2, h3, h4, h5, h6⟩ := h
  exact ⟨(hb.cell (p := ⟨B, 0, none⟩) hB).trans h0, (hb.cell (p := ⟨B, 1, none⟩) hB).trans h1, (hb.cell (p := ⟨B, 2, none⟩) hB).trans h2, (hb.cell (p := ⟨B, 3, none⟩) hB).trans h3, (hb.cell (p := ⟨B, 4, none⟩) hB).trans h4, (hb.cell (p := ⟨B, 5, none⟩) hB).trans h5, (hb.cell (p := ⟨B, 6, none⟩) hB).trans h6⟩
end
end Go.Proofs.Ytfanapnhdhoppaa
