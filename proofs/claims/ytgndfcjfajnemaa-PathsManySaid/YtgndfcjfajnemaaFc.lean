/-
  The contract of flow.places: the places of a program that may run; none of another one.
-/
import Derived.Test.YtgndfcjfajnemaaFa
import Derived.Test.YtgndfcjfajnemaaKk
import Derived.Test.YtgndfcjfajnemaaKl
import Derived.Test.YtgndfcjfajnemaaVk
namespace Go.Proofs.Ytgndfcjfajnemaa
open Go.RowKit

def fzero (i : Nat) : Value := if i % 6 = 0 then .int .u16 0 else if i % 6 = 1 then .int .u8 0 else if i % 6 = 2 then .int .u8 0 else if i % 6 = 3 then .int .u32 0 else .int .i64 0
/-- The first k instructions are there, the others are zeros. -/
def partF (g : Nat → IV) (k : Nat) (i : Nat) : Value := if i < k * 6 then fcell g i else fzero i
theorem partF_step (g : Nat → IV) (k : Nat) (i : Nat) :
    (if i = k * 6 + 5 then Value.int .i64 (k : Int) else if i = k * 6 + 4 then Value.int .i64 (kd (g k)) else if i = k * 6 + 3 then Value.int .u32 (g k).k else if i = k * 6 + 2 then Value.int .u8 (g k).f else if i = k * 6 + 1 then Value.int .u8 (g k).t else if i = k * 6 then Value.int .u16 (g k).c else partF g k i) = partF g (k + 1) i := by
  unfold partF
  by_cases h5 : i = k * 6 + 5
  · subst h5; rw [if_pos rfl, if_pos (by omega), fcell_at g k 5 (by decide)]; rfl
  · rw [if_neg h5]
    by_cases h4 : i = k * 6 + 4
    · subst h4; rw [if_pos rfl, if_pos (by omega), fcell_at g k 4 (by decide)]; rfl
    · rw [if_neg h4]
      by_cases h3 : i = k * 6 + 3
      · subst h3; rw [if_pos rfl, if_pos (by omega), fcell_at g k 3 (by decide)]; rfl
      · rw [if_neg h3]
        by_cases h2 : i = k * 6 + 2
        · subst h2; rw [if_pos rfl, if_pos (by omega), fcell_at g k 2 (by decide)]; rfl
        · rw [if_neg h2]
          by_cases h1 : i = k * 6 + 1
          · subst h1; rw [if_pos rfl, if_pos (by omega), fcell_at g k 1 (by decide)]; rfl
          · rw [if_neg h1]
            by_cases h0 : i = k * 6
            · subst h0; rw [if_pos rfl, if_pos (by omega), show k * 6 = k * 6 + 0 from rfl, fcell_at g k 0 (by decide)]; rfl
            · rw [if_neg h0]
              by_cases hl : i < k * 6
              · rw [if_pos hl, if_pos (by omega)]
              · rw [if_neg hl, if_neg (by omega)]

end Go.Proofs.Ytgndfcjfajnemaa
