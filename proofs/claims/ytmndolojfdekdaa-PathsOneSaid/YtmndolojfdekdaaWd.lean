/-
  The contract of the law's own awake: it returns true, whatever lies in memory; and word.Get's answer for whatever it is asked.
-/
import Derived.Test.YtmndolojfdekdaaWb
import Derived.Test.YtmndolojfdekdaaWa
namespace Go.Proofs.Ytmndolojfdekdaa
open Go.RowKit

theorem flt_ok {n at_ wd : Int} (h : flt n at_ wd = 0) : (wd = 1 ∨ wd = 2 ∨ wd = 4 ∨ wd = 8) ∧ 0 ≤ at_ ∧ at_ ≤ n - wd := by
  unfold flt at h
  split at h
  · split at h
    · cases h
    · omega
  · cases h
theorem awake_byt (w : World) : Byt (w.alloc (.cells #[.int .u8 1, .int .u8 2, .int .u8 3, .int .u8 4] 5)) (w.heap.size + 1) (some ⟨w.heap.size, 0, none⟩) 4 4 (fun i => i + 1) :=
  Byt.mk_ (by omega) (by decide) (by decide) (fun i hi => by
    match i, hi with
    | 0, _ => exact ⟨by simp, by decide⟩
    | 1, _ => exact ⟨by simp, by decide⟩
    | 2, _ => exact ⟨by simp, by decide⟩
    | 3, _ => exact ⟨by simp, by decide⟩)
theorem awake_get (w : World) :
    Calls Try.prog 74 #[.slice (some ⟨w.heap.size, 0, none⟩) 4 4, .int .i64 1, .int .i64 2, .bool false] (w.alloc (.cells #[.int .u8 1, .int .u8 2, .int .u8 3, .int .u8 4] 5)) fun e w' =>
      e = .returned (.tuple #[.int .u64 770, .int .i64 0]) ∧ Below w.heap.size w w' := by
  have h := get_ok false (some ⟨w.heap.size, 0, none⟩) 4 4 1 2 (fun i => i + 1) (w.alloc (.cells #[.int .u8 1, .int .u8 2, .int .u8 3, .int .u8 4] 5)) (by decide) (by decide) (by decide) ((awake_byt w).more (by simp))
  refine h.mono fun e w' ⟨he, hb⟩ => ⟨he, ?_⟩
  exact ((Below.refl _ _).alloc (Nat.le_refl _) _).trans (hb.mono (by simp))
theorem awake_get_big (w : World) :
    Calls Try.prog 74 #[.slice (some ⟨w.heap.size, 0, none⟩) 4 4, .int .i64 1, .int .i64 2, .bool true] (w.alloc (.cells #[.int .u8 1, .int .u8 2, .int .u8 3, .int .u8 4] 5)) fun e w' =>
      e = .returned (.tuple #[.int .u64 515, .int .i64 0]) ∧ Below w.heap.size w w' := by
  have h := get_ok true (some ⟨w.heap.size, 0, none⟩) 4 4 1 2 (fun i => i + 1) (w.alloc (.cells #[.int .u8 1, .int .u8 2, .int .u8 3, .int .u8 4] 5)) (by decide) (by decide) (by decide) ((awake_byt w).more (by simp))
  refine h.mono fun e w' ⟨he, hb⟩ => ⟨he, ?_⟩
  exact ((Below.refl _ _).alloc (Nat.le_refl _) _).trans (hb.mono (by simp))
/-- word.Get, whatever it is asked. -/
theorem get_any (big : Bool) (A : Option Addr) (m c : Nat) (p wd : Int) (f : Nat → Nat) (w : World) (hm : m ≤ 4611686018427387904) (ha : -9223372036854775808 ≤ p) (hb : p ≤ 9223372036854775807) (hr : Byt w w.heap.size A m c f) :
    Calls Try.prog 74 #[.slice A m c, .int .i64 p, .int .i64 wd, .bool big] w fun e w' =>
      e = .returned (.tuple #[.int .u64 (if flt m p wd = 0 then ((num (fun i => f (pln big p.toNat wd.toNat i)) wd.toNat : Nat) : Int) else 0), .int .i64 (flt m p wd)]) ∧ Below w.heap.size w w' := by
  by_cases h : flt m p wd = 0
  · obtain ⟨hw, h0, h1⟩ := flt_ok h
    obtain ⟨q, rfl⟩ := Int.eq_ofNat_of_zero_le h0
    obtain ⟨k, rfl⟩ := Int.eq_ofNat_of_zero_le (show 0 ≤ wd by omega)
    rw [if_pos h, h]
    exact get_ok big A m c q k f w hm (by omega) (by omega) hr
  · rw [if_neg h]
    exact get_err big A m c p wd w (by unfold maxLen; omega) ha hb h
end Go.Proofs.Ytmndolojfdekdaa

/-
  The contract of word.Put: for every width of 1, 2, 4 or 8 and every place within the bytes it hands back new bytes, the same but for the number's lowest bytes at that place; else the error that word.fault names, and nil. What was there stays.
-/
namespace Go.Proofs.Ytmndolojfdekdaa
open Go.RowKit Go.Shelf
attribute [local go_sem] Oper.semAt_some

theorem Own_.abides {w w' : World} {base n c : Nat} {E : TypeId} {A : Option Addr} {g : Nat → Nat} (h : Own_ w base E A n c g) {row : Option Nat} (hg : w.grownBy w' row)
    (hr : ∀ r, row = some r → ∃ o : Obj, w.heap[r]? = some o ∧ o.isCells = false) : Own_ w' base E A n c g := by
  refine ⟨h.1.kept hg ?_, h.2⟩
  rcases hob : (Value.slice A n c).ownBlock with _ | k
  · exact .inl rfl
  · refine .inr fun e => ?_
    obtain ⟨o, ho, hcell⟩ := hr k e.symm
    rcases h.1.2 with ⟨hv, _⟩ | ⟨gg, cap, cur, hv, _, hh, _⟩
    · rw [hv] at hob; cases hob
    · rw [hv] at hob
      have : gg = k := by simpa [Value.ownBlock] using hob
      subst this
      rw [hh] at ho
      cases ho
      simp [Obj.isCells] at hcell
/-- Bytes with those of a number put in, by their indices. -/
def putG (big : Bool) (p wd n : Nat) (f : Nat → Nat) : List (Fin wd) → Nat → Nat
  | [] => f
  | x :: l => fun i => putG big p wd n (fun i => if i = pln big p wd x.1 then n / 2 ^ (8 * x.1) % 256 else f i) l i
theorem putG_snoc (big : Bool) (p wd n : Nat) (f : Nat → Nat) (l : List (Fin wd)) (x : Fin wd) : putG big p wd n f (l ++ [x]) = fun i => if i = pln big p wd x.1 then n / 2 ^ (8 * x.1) % 256 else putG big p wd n f l i := by
  induction l generalizing f with
  | nil => rfl
  | cons y l ih => exact ih _
/-- The index of the byte at a place. -/
def idx (big : Bool) (p wd i : Nat) : Nat := if big then p + wd - 1 - i else i - p
/-- Bytes with those of a number put in. -/
def putF (big : Bool) (p wd n : Nat) (f : Nat → Nat) (i : Nat) : Nat := if p ≤ i ∧ i < p + wd then n / 2 ^ (8 * idx big p wd i) % 256 else f i
theorem putG_upto (big : Bool) (p wd n : Nat) (f : Nat → Nat) (k : Nat) (hk : k ≤ wd) (i : Nat) :
    putG big p wd n f (upto wd k) i = if p ≤ i ∧ i < p + wd ∧ idx big p wd i < k then n / 2 ^ (8 * idx big p wd i) % 256 else f i := by
  induction k with
  | zero => simp [upto, putG]
  | succ k ih =>
    rw [upto_succ (by omega), putG_snoc]
    dsimp only
    rw [ih (by omega)]
    by_cases h : i = pln big p wd k
    · have h2 : p ≤ i ∧ i < p + wd ∧ idx big p wd i = k := by
        unfold pln at h; unfold idx
        cases big <;> simp at h ⊢ <;> omega
      rw [if_pos h, if_pos ⟨h2.1, h2.2.1, by omega⟩, h2.2.2]
    · rw [if_neg h]
      have h3 : (p ≤ i ∧ i < p + wd ∧ idx big p wd i < k + 1) ↔ (p ≤ i ∧ i < p + wd ∧ idx big p wd i < k) := by
        unfold pln at h; unfold idx
        cases big <;> simp at h ⊢ <;> omega
      simp only [h3]
theorem putG_all (big : Bool) (p wd n : Nat) (f : Nat → Nat) (i : Nat) : putG big p wd n f (List.finRange wd) i = putF big p wd n f i := by
  rw [← upto_all, putG_upto big p wd n f wd (Nat.le_refl _) i]
  unfold putF
  have : (p ≤ i ∧ i < p + wd ∧ idx big p wd i < wd) ↔ (p ≤ i ∧ i < p + wd) := by
    unfold idx; cases big <;> simp <;> omega
  simp only [this]

end Go.Proofs.Ytmndolojfdekdaa
