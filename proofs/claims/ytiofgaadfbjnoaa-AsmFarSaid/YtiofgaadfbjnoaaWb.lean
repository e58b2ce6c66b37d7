/-
  The contract of word.Get: for every width of 1, 2, 4 or 8 and every place within the bytes it hands back the number that the bytes there say; else the error that word.fault names, and 0.
-/
import Derived.Test.YtiofgaadfbjnoaaWa
namespace Go.Proofs.Ytiofgaadfbjnoaa
open Go.RowKit Go.Shelf
attribute [local go_sem] Oper.semAt_some

theorem cell_new_l (W : World) (v : Value) (t : TypeId) : (W.alloc (.cells #[v] t)).cell? ⟨W.heap.size, 0, none⟩ = some v ∧ (W.alloc (.cells #[v] t)).frozen? ⟨W.heap.size, 0, none⟩ = false := by
  constructor <;> simp
theorem cell_alloc_l {W : World} {a : Addr} {v : Value} (o : Obj) (h : W.cell? a = some v) : (W.alloc o).cell? a = some v := cell_kept h (World.grownBy_alloc W o none) (fun r e => by cases e)
theorem frozen_alloc_l {W : World} {a : Addr} {v : Value} (o : Obj) (h : W.cell? a = some v) (hf : W.frozen? a = false) : (W.alloc o).frozen? a = false := (frozen_kept h (World.grownBy_alloc W o none) (fun r e => by cases e)).trans hf
/-- Bytes joined by 'or', by their indices. -/
def accOr (g : Nat → Nat) {wd : Nat} (l : List (Fin wd)) : Nat := l.foldl (fun s x => s ||| g x.1 * 2 ^ (8 * x.1)) 0
theorem accOr_snoc (g : Nat → Nat) {wd : Nat} (l : List (Fin wd)) (x : Fin wd) : accOr g (l ++ [x]) = accOr g l ||| g x.1 * 2 ^ (8 * x.1) := by simp [accOr]
theorem part_lt {a k : Nat} (ha : a < 256) (hk : k < 8) : a * 2 ^ (8 * k) < 18446744073709551616 := by
  have h : 2 ^ (8 * k) ≤ 2 ^ 56 := Nat.pow_le_pow_right (by decide) (by omega)
  have h2 : a * 2 ^ (8 * k) ≤ 255 * 2 ^ 56 := Nat.mul_le_mul (by omega) h
  have h3 : (255 : Nat) * 2 ^ 56 < 18446744073709551616 := by decide
  omega
theorem accOr_lt (g : Nat → Nat) {wd : Nat} (hwd : wd ≤ 8) (hg : ∀ i, i < wd → g i < 256) (l : List (Fin wd)) : accOr g l < 18446744073709551616 := by
  unfold accOr
  suffices h : ∀ s, s < 18446744073709551616 → l.foldl (fun s (x : Fin wd) => s ||| g x.1 * 2 ^ (8 * x.1)) s < 18446744073709551616 from h 0 (by decide)
  induction l with
  | nil => intro s hs; exact hs
  | cons x l ih =>
    intro s hs
    exact ih _ (Nat.or_lt_two_pow (n := 64) hs (part_lt (hg _ x.2) (by have := x.2; omega)))
theorem accOr_upto (g : Nat → Nat) {wd : Nat} (hg : ∀ i, i < wd → g i < 256) : ∀ k, k ≤ wd → accOr g (upto wd k) = num g k := by
  intro k
  induction k with
  | zero => intro _; simp [upto, accOr, num]
  | succ k ih =>
    intro hk
    rw [upto_succ (by omega), accOr_snoc, ih (by omega)]
    exact (Nat.or_comm _ _).trans ((nat_join (8 * k) _ _ (Nat.mul_mod_left _ _) (num_lt g k (fun i hi => hg i (by omega)))).trans (Nat.add_comm _ _))
theorem accOr_all (g : Nat → Nat) {wd : Nat} (hg : ∀ i, i < wd → g i < 256) : accOr g (List.finRange wd) = num g wd := by
  rw [← upto_all, accOr_upto g hg wd (Nat.le_refl _)]

/-- The place of the byte with index i, as a natural number. -/
def pln (big : Bool) (p wd i : Nat) : Nat := if big then p + wd - 1 - i else p + i
theorem pl_eq (big : Bool) (p wd i : Nat) (h : i < wd) : pl big p wd i = (pln big p wd i : Nat) := by
  unfold pl pln; split <;> omega
theorem pln_lt (big : Bool) (p wd i m : Nat) (h : i < wd) (hp : p + wd ≤ m) : pln big p wd i < m := by
  unfold pln; split <;> omega

theorem step_val (a u k : Nat) (ha : a < 18446744073709551616) (hu : u < 256) (hk : k < 8) :
    bits .or .u64 (a : Int) (IntKind.u64.wrap (IntKind.u64.wrap (u : Int) * 2 ^ (8 * k))) = ((a ||| u * 2 ^ (8 * k) : Nat) : Int) := by
  have h1 : IntKind.u64.wrap (u : Int) = (u : Int) := by rw [IntKind.wrap_u64]; omega
  have h2 : (u : Int) * 2 ^ (8 * k) = ((u * 2 ^ (8 * k) : Nat) : Int) := by rw [Int.natCast_mul, Int.natCast_pow]; rfl
  have h3 := part_lt hu hk
  rw [h1, h2, IntKind.wrap_u64, Int.emod_eq_of_lt (by omega) (by omega), bits_or_u64_nat _ _ ha h3]
/-- How a round of the loop ends. -/
def BodyEnd (W : World) (Kp : World → World → Prop) (I : World → Prop) (W' : World) : Prop := KeepsOthers W W' ∧ Kp W W' ∧ I W'

end Go.Proofs.Ytiofgaadfbjnoaa
