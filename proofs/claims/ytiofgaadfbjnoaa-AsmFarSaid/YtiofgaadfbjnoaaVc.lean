/-
  The contracts of the doings of a run that speak of a cell, go on elsewhere, or end it.
-/
import Derived.Test.YtiofgaadfbjnoaaVb
namespace Go.Proofs.Ytiofgaadfbjnoaa
open Go.RowKit

end Go.Proofs.Ytiofgaadfbjnoaa

/-
  The contracts of the doings of a run that reckon with two numbers.
-/
namespace Go.Proofs.Ytiofgaadfbjnoaa
open Go.RowKit

theorem and32 (a b : Nat) (ha : a < 4294967296) (hb : b < 4294967296) : bits .and .u32 (a : Int) (b : Int) = ((a &&& b : Nat) : Int) := by
  have hx : a &&& b < 2 ^ 32 := Nat.and_lt_two_pow _ (by omega)
  have h1 : (BitVec.ofInt 32 (a : Int)).toNat = a := by
    rw [BitVec.ofInt_natCast, BitVec.toNat_ofNat]; exact Nat.mod_eq_of_lt (by omega)
  have h2 : (BitVec.ofInt 32 (b : Int)).toNat = b := by
    rw [BitVec.ofInt_natCast, BitVec.toNat_ofNat]; exact Nat.mod_eq_of_lt (by omega)
  show IntKind.u32.wrap ((BitVec.ofInt 32 (a : Int) &&& BitVec.ofInt 32 (b : Int)).toNat : Int) = _
  rw [BitVec.toNat_and, h1, h2, IntKind.wrap_u32]
  omega
theorem or32 (a b : Nat) (ha : a < 4294967296) (hb : b < 4294967296) : bits .or .u32 (a : Int) (b : Int) = ((a ||| b : Nat) : Int) := by
  have hx : a ||| b < 2 ^ 32 := Nat.or_lt_two_pow (by omega) (by omega)
  have h1 : (BitVec.ofInt 32 (a : Int)).toNat = a := by
    rw [BitVec.ofInt_natCast, BitVec.toNat_ofNat]; exact Nat.mod_eq_of_lt (by omega)
  have h2 : (BitVec.ofInt 32 (b : Int)).toNat = b := by
    rw [BitVec.ofInt_natCast, BitVec.toNat_ofNat]; exact Nat.mod_eq_of_lt (by omega)
  show IntKind.u32.wrap ((BitVec.ofInt 32 (a : Int) ||| BitVec.ofInt 32 (b : Int)).toNat : Int) = _
  rw [BitVec.toNat_or, h1, h2, IntKind.wrap_u32]
  omega
theorem xor32 (a b : Nat) (ha : a < 4294967296) (hb : b < 4294967296) : bits .xor .u32 (a : Int) (b : Int) = ((a ^^^ b : Nat) : Int) := by
  have hx : a ^^^ b < 2 ^ 32 := Nat.xor_lt_two_pow (by omega) (by omega)
  have h1 : (BitVec.ofInt 32 (a : Int)).toNat = a := by
    rw [BitVec.ofInt_natCast, BitVec.toNat_ofNat]; exact Nat.mod_eq_of_lt (by omega)
  have h2 : (BitVec.ofInt 32 (b : Int)).toNat = b := by
    rw [BitVec.ofInt_natCast, BitVec.toNat_ofNat]; exact Nat.mod_eq_of_lt (by omega)
  show IntKind.u32.wrap ((BitVec.ofInt 32 (a : Int) ^^^ BitVec.ofInt 32 (b : Int)).toNat : Int) = _
  rw [BitVec.toNat_xor, h1, h2, IntKind.wrap_u32]
  omega
theorem mul32 (a b : Nat) : IntKind.u32.wrap ((a : Int) * (b : Int)) = ((a * b % 4294967296 : Nat) : Int) := by
  rw [IntKind.wrap_u32, Int.natCast_emod, Int.natCast_mul]; rfl
theorem shl32 {P : Program} (a o : Nat) (W : World) : (Op.shift .shl .u32 (a : Int) .u32 ((o : Int).tmod 32)).run P W = .ok (.int .u32 ((a * 2 ^ (o % 32) % 4294967296 : Nat) : Int)) W := by
  have e : (o : Int).tmod 32 = ((o % 32 : Nat) : Int) := by rw [Int.tmod_eq_emod_of_nonneg (by omega)]; omega
  have hb : IntKind.u32.bits = 32 := rfl
  have h1 : min (o % 32) 32 = o % 32 := by omega
  have h2 : ¬ (((o % 32 : Nat) : Int) < 0) := by omega
  rw [e]
  unfold Op.shift
  rw [if_neg h2]
  simp only [hb, Int.toNat_natCast, h1, Sem.run_pure]
  congr 2
theorem shr32 {P : Program} (a o : Nat) (W : World) : (Op.shift .shr .u32 (a : Int) .u32 ((o : Int).tmod 32)).run P W = .ok (.int .u32 ((a / 2 ^ (o % 32) : Nat) : Int)) W := by
  have e : (o : Int).tmod 32 = ((o % 32 : Nat) : Int) := by rw [Int.tmod_eq_emod_of_nonneg (by omega)]; omega
  have hb : IntKind.u32.bits = 32 := rfl
  have h1 : min (o % 32) 32 = o % 32 := by omega
  have h2 : ¬ (((o % 32 : Nat) : Int) < 0) := by omega
  rw [e]
  unfold Op.shift
  rw [if_neg h2]
  simp only [hb, Int.toNat_natCast, h1, Sem.run_pure]
  congr 2
  rw [Int.fdiv_eq_ediv_of_nonneg _ (by exact Int.pow_nonneg (by decide)), Int.natCast_ediv, Int.natCast_pow]; rfl
end Go.Proofs.Ytiofgaadfbjnoaa
