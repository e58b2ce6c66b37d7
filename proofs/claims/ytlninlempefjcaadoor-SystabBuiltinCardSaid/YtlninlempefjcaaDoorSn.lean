/-
  The laws' own light of layer 11.
-/
import Derived.Test.YtlninlempefjcaaDoorSe
namespace Go.Proofs.YtlninlempefjcaaDoor
open Go.RowKit
set_option linter.unusedVariables false

def LightP (n : Nat) (T : Nat → SR) : Prop := n ≤ 40 ∧ ∀ i, i < n → (T i).nm.size ≤ 60
theorem Tb.name {w : World} {b o n : Nat} {T : Nat → SR} (h : Tb w b o n T) (i : Nat) (hi : i < n) : w.cell? ⟨b, o + i * 8, none⟩ = some (.string (T i).nm) := (h.2 i hi).1
set_option maxRecDepth 100000 in
set_option maxHeartbeats 4000000 in
theorem light_any (A : Option Addr) (n cap : Nat) (T : Nat → SR) (w : World) (ht : TbA w A n T) :
    Calls Tryd.prog 9 #[.slice A n cap] w fun e w' => ((LightP n T ∧ e = .returned (.bool true)) ∨ (¬ LightP n T ∧ e = .returned (.bool false))) ∧ w = w' := by
  by_cases h40 : n > 40
  · have q0 : (n : Int) > 40 := by omega
    have q1 : decide ((n : Int) > 40) = true := decide_eq_true q0
    have HN : Hid (¬ LightP n T) := Lib.hid fun h => by have := h.1; omega
    clear ht
    go_enter Tryd.func9, Tryd.ntmps9
    go_wp2
    go_ret
    exact ⟨.inr ⟨HN.out, rfl⟩, rfl⟩
  have q0 : ¬ (n : Int) > 40 := by omega
  have q1 : decide ((n : Int) > 40) = false := decide_eq_false q0
  have HT := Lib.hid ht
  clear ht
  go_enter Tryd.func9, Tryd.ntmps9
  go_wp2_with fail
  go_loopw [3] (fun i wr => ∃ k : Nat, k ≤ n ∧ i = .int .i64 k ∧ (∀ i, i < k → (T i).nm.size ≤ 60) ∧ w = wr)
    (fun i _ => n - (intOf i).toNat)
  case atStart => exact ⟨0, by omega, rfl, fun i h => by omega, rfl⟩
  case round =>
    obtain ⟨k, hk, rfl, hall, rfl⟩ := hrel
    have HA := Lib.hid hall
    clear hall
    by_cases hlt : k < n
    · rcases HT.out with h0 | ⟨b, o, rfl, hTb⟩
      · omega
      have c0 := hTb.name k hlt
      clear hTb
      have i1 : (0 : Int) ≤ (k : Int) := by omega
      have i2 : (k : Int) < (n : Int) := by omega
      by_cases hb : (T k).nm.size > 60
      · have g0 : ((T k).nm.size : Int) > 60 := by omega
        have g1 : decide (((T k).nm.size : Int) > 60) = true := decide_eq_true g0
        have HN : Hid (¬ LightP n T) := Lib.hid fun h => by have := h.2 k hlt; omega
        go_wp2
        go_ret
        exact ⟨.inr ⟨HN.out, rfl⟩, rfl⟩
      · have g0 : ¬ ((T k).nm.size : Int) > 60 := by omega
        have g1 : decide (((T k).nm.size : Int) > 60) = false := decide_eq_false g0
        go_wp2
        exact ⟨⟨k + 1, by omega, by go_num, fun i hi => by
          by_cases h : i = k
          · subst h; omega
          · exact HA.out i (by omega), trivial⟩, by simp [intOf]; omega⟩
    · obtain rfl : k = n := by omega
      have i2 : ¬ (k : Int) < (k : Int) := by omega
      have HN : Hid (LightP k T) := Lib.hid ⟨by omega, HA.out⟩
      go_wp2
      go_ret
      exact ⟨.inl ⟨HN.out, rfl⟩, rfl⟩
end Go.Proofs.YtlninlempefjcaaDoor
