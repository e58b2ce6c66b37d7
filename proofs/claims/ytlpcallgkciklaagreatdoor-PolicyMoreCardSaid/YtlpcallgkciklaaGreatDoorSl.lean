/-
  The document's own Find, Number, At and Sub of layer 11.
-/
import Derived.Test.YtlpcallgkciklaaGreatDoorSe
namespace Go.Proofs.YtlpcallgkciklaaGreatDoor
open Go.RowKit
set_option linter.unusedVariables false

/-- How a look for a place ends. -/
def FindP (P : Nat → Bool) (n : Nat) (w : World) (e : Ending) (w' : World) : Prop :=
  ((∃ j, j < n ∧ P j = true ∧ (∀ i, i < j → P i = false) ∧ e = .returned (.int .i64 j)) ∨
   ((∀ i, i < n → P i = false) ∧ e = .returned (.int .i64 (-1)))) ∧ w = w'
theorem Tb.num {w : World} {b o n : Nat} {T : Nat → SR} (h : Tb w b o n T) (i : Nat) (hi : i < n) (a : Nat) (ha : a < 5) : w.cell? ⟨b, o + i * 8 + 1 + a, none⟩ = some (.int .i64 (numI (T i) a)) := by
  obtain ⟨h0, h1, h2, h3, h4, h5, h6, h7⟩ := h.2 i hi
  have hc : a = 0 ∨ a = 1 ∨ a = 2 ∨ a = 3 ∨ a = 4 := by omega
  rcases hc with rfl | rfl | rfl | rfl | rfl
  · exact h1
  · exact h2
  · exact h3
  · exact h4
  · exact h5
set_option maxRecDepth 100000 in
set_option maxHeartbeats 4000000 in
theorem refFind_any (A : Option Addr) (n cap : Nat) (T : Nat → SR) (s : ByteArray) (w : World) (hn : n ≤ 1000000) (ht : TbA w A n T) :
    Calls Tryz.prog 35 #[.slice A n cap, .string s] w (FindP (isN T s) n w) := by
  have HT := Lib.hid ht
  clear ht
  go_enter Tryz.func35, Tryz.ntmps35
  go_wp2_with fail
  go_loopw [5] (fun i wr => ∃ k : Nat, k ≤ n ∧ i = .int .i64 k ∧ (∀ i, i < k → isN T s i = false) ∧ w = wr)
    (fun i _ => n - (intOf i).toNat)
  case atStart => exact ⟨0, by omega, rfl, fun i h => by omega, rfl⟩
  case round =>
    obtain ⟨k, hk, rfl, hno, rfl⟩ := hrel
    have HNO := Lib.hid hno
    clear hno
    by_cases hlt : k < n
    · obtain ⟨b, o, rfl, hTb⟩ := HT.out.at_ hlt
      obtain ⟨q0, -, -, -, -, -, -, -⟩ := hTb.2 k hlt
      clear hTb
      have i1 : (0 : Int) ≤ (k : Int) := by omega
      have i2 : (k : Int) < (n : Int) := by omega
      cases hp : ((T k).nm.toList == s.toList)
      · have HP := Lib.hid hp
        go_wp2
        exact ⟨⟨k + 1, by omega, by go_num, fun i hi => by
          by_cases h : i = k
          · subst h; exact HP.out
          · exact HNO.out i (by omega), trivial⟩, by simp [intOf]; omega⟩
      · have HP := Lib.hid hp
        go_wp2
        go_ret
        exact ⟨.inl ⟨k, hlt, HP.out, HNO.out, rfl⟩, rfl⟩
    · obtain rfl : k = n := by omega
      have i2 : ¬ (k : Int) < (k : Int) := by omega
      go_wp2
      go_ret
      exact ⟨.inr ⟨HNO.out, rfl⟩, rfl⟩
def numR (r : SR) (k a : Nat) : Int := if 0 ≤ numI r a then numI r a else -1 - (k : Int)
abbrev subR (T : Nat → SR) (mx sb : Int) (k : Nat) : Bool := (decide (mx ≥ 1) && decide (mx ≤ 2)) && ((T k).mx == mx) && ((T k).sb == sb)
end Go.Proofs.YtlpcallgkciklaaGreatDoor
