/-
  Contracts of slices.Clone at bytes, and of the reference's Turn, Number and Bytes and the law's own same: each computes what the named plain function says, for every bytes within the bounds that are named.
-/
import Derived.Test.YtfanapnhdhoppaaWa
import Derived.Deep.QuietTactic
import Derived.BigQuiet
import Derived.Maps.AppendAt
namespace Go.Proofs.Ytfanapnhdhoppaa
open Go.RowKit

theorem infoB : (Try.prog.info? 5).map (fun i => (i.zero, i.size, i.bytes)) = some (some (.int .u8 0), 1, 1) := by kernel_rfl
theorem one_new (w : World) (u : Nat) (hu : u < 256) (t : TypeId) : Byt (w.alloc (.cells #[bv u] t)) (w.heap.size + 1) (some ⟨w.heap.size, 0, none⟩) 1 1 (fun _ => u) :=
  Byt.mk_ (by omega) (by decide) (by decide) (fun i hi => by
    obtain rfl : i = 0 := by omega
    exact ⟨by simp, hu⟩)

/-- The number of k bytes, the lowest first. -/
def num (g : Nat → Nat) : Nat → Nat | 0 => 0 | k + 1 => num g k + g k * 2 ^ (8 * k)
theorem num_lt (g : Nat → Nat) (k : Nat) (hg : ∀ i, i < k → g i < 256) : num g k < 2 ^ (8 * k) := by
  induction k with
  | zero => simp [num]
  | succ k ih =>
    have h1 := ih (fun i hi => hg i (by omega))
    have h2 := hg k (by omega)
    have h3 : g k * 2 ^ (8 * k) ≤ 255 * 2 ^ (8 * k) := Nat.mul_le_mul (by omega) (Nat.le_refl _)
    have h4 : 2 ^ (8 * (k + 1)) = 256 * 2 ^ (8 * k) := by rw [Nat.mul_succ, Nat.pow_add]; omega
    simp only [num]
    omega
theorem num_front (g : Nat → Nat) : ∀ k, num g (k + 1) = g 0 + 256 * num (fun i => g (i + 1)) k := by
  intro k
  induction k with
  | zero => simp [num]
  | succ k ih =>
    have h4 : 2 ^ (8 * (k + 1)) = 256 * 2 ^ (8 * k) := by rw [Nat.mul_succ, Nat.pow_add]; omega
    rw [show num g (k + 1 + 1) = num g (k + 1) + g (k + 1) * 2 ^ (8 * (k + 1)) from rfl, ih, h4]
    simp only [num, Nat.mul_add]
    rw [Nat.add_assoc, Nat.mul_left_comm]
theorem num_congr (f g : Nat → Nat) (k : Nat) (h : ∀ i, i < k → f i = g i) : num f k = num g k := by
  induction k with
  | zero => rfl
  | succ k ih => simp only [num]; rw [ih (fun i hi => h i (by omega)), h k (by omega)]
theorem num_lt8 (g : Nat → Nat) (k : Nat) (hk : k ≤ 8) (hg : ∀ i, i < k → g i < 256) : num g k < 18446744073709551616 :=
  Nat.lt_of_lt_of_le (num_lt g k hg) (Nat.le_trans (Nat.pow_le_pow_right (by decide) (show 8 * k ≤ 64 by omega)) (by decide))

theorem num_step (f : Nat → Nat) (n j : Nat) (hj : j < n) : num (fun i => f (n - (j + 1) + i)) (j + 1) = f (n - 1 - j) + 256 * num (fun i => f (n - j + i)) j := by
  rw [num_front]
  congr 1
  · rw [show n - (j + 1) + 0 = n - 1 - j from by omega]
  · congr 1
    exact num_congr _ _ j (fun i hi => by rw [show n - (j + 1) + (i + 1) = n - j + i from by omega])

set_option maxHeartbeats 1000000 in
theorem number_any (A : Option Addr) (n c : Nat) (f : Nat → Nat) (w : World) (hn : n ≤ 8) (hr : Byt w w.heap.size A n c f) :
    Calls Try.prog 81 #[.slice A n c] w fun e w' => e = .returned (.int .u64 (num f n : Nat)) ∧ w = w' := by
  go_enter Try.func81, Try.ntmps81
  go_wp2
  go_loop [3, 4] (fun v i => ∃ j : Nat, j ≤ n ∧ i = .int .i64 ((n : Int) - 1 - j) ∧ v = .int .u64 (num (fun i => f (n - j + i)) j : Nat))
    (fun _ i => (intOf i + 1).toNat)
  case atStart => exact ⟨0, Nat.zero_le _, by simp, rfl⟩
  case round =>
    obtain ⟨j, hj, rfl, rfl⟩ := hrel
    by_cases hlt : j < n
    · obtain ⟨b, off, rfl, hb, hc⟩ := hr.at_ (by omega)
      have hcell := (hc (n - 1 - j) (by omega)).1
      have hu := (hc (n - 1 - j) (by omega)).2
      have hN := num_lt8 (fun i => f (n - (j + 1) + i)) (j + 1) (by omega) (fun i hi => (hc _ (by omega)).2)
      rw [num_step f n j hlt] at hN
      have HS := Lib.hid (num_step f n j hlt)
      clear hc
      go_wp2
      refine ⟨⟨j + 1, by omega, by go_num, ?_⟩, by simp [intOf]; omega⟩
      rw [HS.out]
      congr 1
      omega
    · obtain rfl : j = n := by omega
      go_wp2
      go_ret
      exact ⟨ret_int (by simp), rfl⟩

/-- Are they alike, up to n? -/
def alike (f g : Nat → Nat) (n : Nat) : Bool := (List.range n).all fun i => f i == g i
theorem alike_iff (f g : Nat → Nat) (n : Nat) : alike f g n = true ↔ ∀ i, i < n → f i = g i := by simp [alike]
set_option maxHeartbeats 1000000 in
theorem clone_any (A : Option Addr) (n c : Nat) (f : Nat → Nat) (w : World) (hn : n ≤ 140737488355328) (hr : Byt w w.heap.size A n c f) :
    Calls Try.prog 76 #[.slice A n c] w fun e w' => ∃ A' c', e = .returned (.slice A' n c') ∧ Own_ w' w.heap.size 5 A' n c' f ∧ Below w.heap.size w w' := by
  have hnil := fun W => Lib.run_eql_slice_nil (P := Try.prog) W 23 5 A n c 0 0 Try.underlying23
  rcases A with _ | ad
  · have h0 : n = 0 := by rcases hr with ⟨_, h, _⟩ | ⟨ad, h, _⟩; exact h; cases h
    subst h0
    go_enter Try.func76, Try.ntmps76
    go_wp2
    go_ret
    exact ⟨_, _, rfl, Own_.nil_, Below.refl _ _⟩
  · have hown : Own_ (w.alloc (.cells #[] 5)) w.heap.size 5 (some ⟨w.heap.size, 0, none⟩) 0 0 f := ⟨by simpa using World.ownsRow_lit (base := w.heap.size) (e := 5) (size := 1) w #[] 0 (Nat.le_refl _) (by decide) rfl, fun i h => by omega⟩
    go_enter Try.func76, Try.ntmps76
    go_wp2_with (at_builtin; go_must (refine app_bytes _ rfl _ _ _ 5 rfl Try.underlying23 infoB rfl hown rfl (hr.below ((Below.refl _ _).alloc (Nat.le_refl _) _)) (by omega) (by simp) ?_; rintro A2 c2 w2 hown2 hg2 hB2))
    go_ret
    rw [Nat.zero_add] at hown2
    exact ⟨_, _, rfl, hown2.congr (fun i _ => by simp [cat]), ((Below.refl _ _).alloc (Nat.le_refl _) _).trans hB2⟩
end Go.Proofs.Ytfanapnhdhoppaa
