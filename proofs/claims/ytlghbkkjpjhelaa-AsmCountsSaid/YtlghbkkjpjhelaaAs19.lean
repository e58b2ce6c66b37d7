/-
  Layer 21, the document's answer: strainerref21.behind, place.
-/
import Derived.Test.YtlghbkkjpjhelaaAs18
namespace Go.Proofs.Ytlghbkkjpjhelaa
open Go.RowKit Go.Shelf
set_option linter.unusedVariables false

theorem behind_any (A : Option Addr) (n c : Nat) (l : List IT) (i : Nat) (w : World) (hn : l.length = n) (hn1 : n ≤ 1000000) (hi : i ≤ n) (hr : Cel w w.heap.size 5 A n c (itcell fun i => l[i]!)) :
    Calls Try.prog 44 #[.slice A n c, .int .i64 (i : Int)] w fun e w' => ∃ p : Nat, e = .returned (.int .i64 (p : Int)) ∧ w = w' ∧ Beh l i p ∧ p ≤ n := by
  have HR := Lib.hid hr
  have HN := Lib.hid hn
  clear hr hn
  go_enter Try.func44, Try.ntmps44
  go_wp2
  go_loopw [1] (fun s wr => ∃ p : Nat, i ≤ p ∧ p ≤ n ∧ s = .int .i64 (p : Int) ∧ w = wr ∧ Hid (∀ j, i ≤ j → j < p → l[j]!.m ≠ 0))
    (fun s _ => n - (intOf s).toNat)
  case atStart => exact ⟨i, Nat.le_refl _, hi, rfl, rfl, Lib.hid fun j h1 h2 => by omega⟩
  case round =>
    obtain ⟨p, hp1, hp2, rfl, rfl, HI⟩ := hrel
    by_cases hlt : p < n
    · obtain ⟨x, hx⟩ : ∃ x, l[p]! = x := ⟨_, rfl⟩
      obtain ⟨b, off, rfl, hb, q0, _⟩ := it_at HR.out hlt hx
      have i1 : (0 : Int) ≤ (p : Int) := by omega
      have i2 : (p : Int) < (n : Int) := by omega
      have HX := Lib.hid hx
      clear hx
      by_cases hm : x.m = 0
      · have f0 : (x.m != 0) = false := by simp [hm]
        have HB : Hid (Beh l i p) := Lib.hid ⟨hp1, HI.out, .inr ⟨by rw [HN.out]; exact hlt, by rw [HX.out]; exact hm⟩⟩
        rw [hm] at q0
        go_wp2
        go_ret
        exact ⟨p, rfl, rfl, HB.out, hp2⟩
      · have f0 : (x.m != 0) = true := by simp [hm]
        have HI2 : Hid (∀ j, i ≤ j → j < p + 1 → l[j]!.m ≠ 0) := Lib.hid fun j h1 h2 => by
          by_cases e : j = p
          · rw [e, HX.out]; exact hm
          · exact HI.out j h1 (by omega)
        go_wp2
        exact ⟨⟨p + 1, by omega, by omega, by go_num, by trivial, HI2⟩, by simp [intOf]; omega⟩
    · obtain rfl : n = p := by omega
      have i2 : ¬ (n : Int) < (n : Int) := by omega
      go_wp2
      go_ret
      exact ⟨n, rfl, rfl, ⟨hp1, HI.out, .inl HN.out.symm⟩, Nat.le_refl _⟩
/-- The first place of a mark. -/
def PlR (l : List IT) (n : Nat) (mk : Int) (q : Nat) : Prop := (q < n ∧ l[q]!.m = mk) ∨ (q = n ∧ ∀ j, j < n → l[j]!.m ≠ mk)
theorem place_any (A : Option Addr) (n c : Nat) (l : List IT) (mk : Int) (w : World) (hn1 : n ≤ 1000000) (hr : Cel w w.heap.size 5 A n c (itcell fun i => l[i]!)) :
    Calls Try.prog 45 #[.slice A n c, .int .i64 mk] w fun e w' => ∃ q : Nat, e = .returned (.int .i64 (q : Int)) ∧ w = w' ∧ PlR l n mk q ∧ q ≤ n := by
  have HR := Lib.hid hr
  clear hr
  go_enter Try.func45, Try.ntmps45
  go_wp2
  go_loopw [5] (fun s wr => ∃ p : Nat, p ≤ n ∧ s = .int .i64 (p : Int) ∧ w = wr ∧ Hid (∀ j, j < p → l[j]!.m ≠ mk))
    (fun s _ => n - (intOf s).toNat)
  case atStart => exact ⟨0, Nat.zero_le _, rfl, rfl, Lib.hid fun j h => by omega⟩
  case round =>
    obtain ⟨p, hp2, rfl, rfl, HI⟩ := hrel
    by_cases hlt : p < n
    · obtain ⟨x, hx⟩ : ∃ x, l[p]! = x := ⟨_, rfl⟩
      obtain ⟨b, off, rfl, hb, q0, _⟩ := it_at HR.out hlt hx
      have i1 : (0 : Int) ≤ (p : Int) := by omega
      have i2 : (p : Int) < (n : Int) := by omega
      have HX := Lib.hid hx
      clear hx
      by_cases hm : x.m = mk
      · have f0 : (x.m == mk) = true := by simp [hm]
        go_wp2
        go_ret
        exact ⟨p, rfl, rfl, .inl ⟨hlt, by rw [HX.out]; exact hm⟩, hp2⟩
      · have f0 : (x.m == mk) = false := beq_eq_false_iff_ne.2 hm
        have HI2 : Hid (∀ j, j < p + 1 → l[j]!.m ≠ mk) := Lib.hid fun j h2 => by
          by_cases e : j = p
          · rw [e, HX.out]; exact hm
          · exact HI.out j (by omega)
        go_wp2
        exact ⟨⟨p + 1, by omega, by go_num, by trivial, HI2⟩, by simp [intOf]; omega⟩
    · obtain rfl : n = p := by omega
      have i2 : ¬ (n : Int) < (n : Int) := by omega
      go_wp2
      go_ret
      exact ⟨n, rfl, rfl, .inr ⟨rfl, HI.out⟩, Nat.le_refl _⟩
end Go.Proofs.Ytlghbkkjpjhelaa
