/-
  Contracts of the document's Names and Token of layer 8.
-/
import Derived.Test.YtjblkkffdhaiiaaAf
namespace Go.Proofs.Ytjblkkffdhaiiaa
open Go.RowKit Go.Shelf

abbrev nmRow : Array Value := #[.string (nmA 0), .string (nmA 1), .string (nmA 2), .string (nmA 3), .string (nmA 4)]
theorem nmRow_at (k : Nat) (hk : k < 5) : nmRow[k]? = some (.string (nmA k)) := by
  match k, hk with
  | 0, _ => rfl
  | 1, _ => rfl
  | 2, _ => rfl
  | 3, _ => rfl
  | 4, _ => rfl
set_option maxRecDepth 100000 in
set_option maxHeartbeats 2000000 in
theorem names_any (w : World) : Calls Try.prog 11 #[] w fun e w' => e = .returned (.slice (some ⟨w.heap.size, 0, none⟩) 5 5) ∧ w' = w.alloc (.cells nmRow 9) := by
  go_enter Try.func11, Try.ntmps11
  go_wp2
  go_ret
  exact ⟨rfl, rfl⟩
abbrev tkRow : Array Value := #[.int .u32 (tkA 0), .int .u32 (tkA 1), .int .u32 (tkA 2), .int .u32 (tkA 3), .int .u32 (tkA 4)]
theorem tkRow_at (k : Nat) (hk : k < 5) : tkRow[k]? = some (.int .u32 (tkA k)) := by
  match k, hk with
  | 0, _ => rfl
  | 1, _ => rfl
  | 2, _ => rfl
  | 3, _ => rfl
  | 4, _ => rfl
set_option maxRecDepth 100000 in
set_option maxHeartbeats 2000000 in
theorem token_any (k : Nat) (hk : k < 5) (w : World) : Calls Try.prog 13 #[.int .i64 k] w fun e w' => e = .returned (.int .u32 (tkA k)) ∧ Below w.heap.size w w' := by
  have i1 : (0 : Int) ≤ (k : Int) := by omega
  have i2 : (k : Int) < 5 := by omega
  have c1 : (w.alloc (.cells #[.int .u32 3221225534, .int .u32 3221225534, .int .u32 1073741827, .int .u32 3221225655, .int .u32 3221225715] 22)).cell? ⟨w.heap.size, k, none⟩ = some (.int .u32 (tkA k)) := (RowB.new w tkRow 22 _ rfl).cell k _ (tkRow_at k hk)
  go_enter Try.func13, Try.ntmps13
  go_wp2
  go_ret
  exact ⟨rfl, (Below.refl _ _).alloc (Nat.le_refl _) _⟩
end Go.Proofs.Ytjblkkffdhaiiaa
