/-
  Layer 20: strainerref20.at, strainerref20.Formed: what is told to be formed is.
-/
import Derived.Test.YtiofgaadfbjnoaaAs13
import Derived.BigQuiet
import Derived.Deep.QuietTactic
namespace Go.Proofs.Ytiofgaadfbjnoaa
open Go.RowKit Go.Shelf
set_option linter.unusedVariables false

theorem ofF_valid (c : Int) (h : (ofF c).1 ≠ 0) : (ofF c).2.2 = true := by
  unfold ofF at *
  cases ha : assoc codesKV c with
  | some k => rfl
  | none =>
    rw [ha] at h
    simp only at h ⊢
    split
    · rfl
    · rename_i h2
      rw [if_neg h2] at h
      exact absurd rfl h
/-- Where a mark stands, if it stands once. -/
def AtR (l : List IT) (n : Nat) (mark z : Int) : Prop := z = -1 ∨ ∃ q : Nat, z = (q : Int) ∧ q < n ∧ mark ≠ 0 ∧ l[q]!.m = mark ∧ ∀ j, j < n → l[j]!.m = mark → j = q
theorem refAt_any (A : Option Addr) (n c : Nat) (l : List IT) (mk : Int) (w : World) (hn : n ≤ 1000000) (hr : Cel w w.heap.size 5 A n c (itcell fun i => l[i]!)) :
    Calls Try.prog 25 #[.slice A n c, .int .i64 mk] w fun e w' => ∃ z, e = .returned (.int .i64 z) ∧ w = w' ∧ AtR l n mk z := by
  have HR := Lib.hid hr
  clear hr
  go_enter Try.func25, Try.ntmps25
  go_wp2
  go_loopw [5, 6] (fun s i wr => ∃ (k : Nat) (z : Int), k ≤ n ∧ i = .int .i64 k ∧ s = .int .i64 z ∧ w = wr ∧ Hid ((z = -1 ∧ ∀ j, j < k → mk ≠ 0 → l[j]!.m ≠ mk) ∨ ∃ q : Nat, z = (q : Int) ∧ q < k ∧ mk ≠ 0 ∧ l[q]!.m = mk ∧ ∀ j, j < k → l[j]!.m = mk → j = q))
    (fun _ i _ => n - (intOf i).toNat)
  case atStart => exact ⟨0, -1, Nat.zero_le _, rfl, rfl, rfl, Lib.hid (.inl ⟨rfl, fun j hj => absurd hj (Nat.not_lt_zero _)⟩)⟩
  case round =>
    obtain ⟨k, z, hk, rfl, rfl, rfl, HI⟩ := hrel
    by_cases hlt : k < n
    · obtain ⟨x, hx⟩ : ∃ x, l[k]! = x := ⟨_, rfl⟩
      obtain ⟨b, off, rfl, hb, q0, _⟩ := it_at HR.out hlt hx
      have i1 : (0 : Int) ≤ (k : Int) := by omega
      have i2 : (k : Int) < (n : Int) := by omega
      have HX := Lib.hid hx
      clear hx
      by_cases hm0 : mk = 0
      · have HI2 : Hid ((z = -1 ∧ ∀ j, j < k + 1 → mk ≠ 0 → l[j]!.m ≠ mk) ∨ ∃ q : Nat, z = (q : Int) ∧ q < k + 1 ∧ mk ≠ 0 ∧ l[q]!.m = mk ∧ ∀ j, j < k + 1 → l[j]!.m = mk → j = q) := Lib.hid (by
          rcases HI.out with ⟨h1, _⟩ | ⟨q, _, _, h, _⟩
          · exact .inl ⟨h1, fun j _ h => absurd hm0 h⟩
          · exact absurd hm0 h)
        subst hm0
        by_cases he : x.m = 0
        · rw [he] at q0
          go_wp2
          exact ⟨⟨k + 1, z, by omega, by go_num, rfl, by trivial, HI2⟩, by simp [intOf]; omega⟩
        · have f1 : (x.m == 0) = false := beq_eq_false_iff_ne.2 he
          go_wp2
          exact ⟨⟨k + 1, z, by omega, by go_num, rfl, by trivial, HI2⟩, by simp [intOf]; omega⟩
      · have f0 : (mk != 0) = true := by simp [hm0]
        by_cases he : x.m = mk
        · have HE : Hid (l[k]!.m = mk) := Lib.hid (by rw [HX.out]; exact he)
          rw [he] at q0
          by_cases hz : z ≥ 0
          · go_wp2
            go_ret
            exact ⟨-1, rfl, rfl, .inl rfl⟩
          · have HI2 : Hid ((((k : Nat) : Int) = -1 ∧ ∀ j, j < k + 1 → mk ≠ 0 → l[j]!.m ≠ mk) ∨ ∃ q : Nat, ((k : Nat) : Int) = (q : Int) ∧ q < k + 1 ∧ mk ≠ 0 ∧ l[q]!.m = mk ∧ ∀ j, j < k + 1 → l[j]!.m = mk → j = q) := Lib.hid (.inr ⟨k, rfl, Nat.lt_succ_self k, hm0, HE.out, fun j hj h => by
              rcases HI.out with ⟨_, h2⟩ | ⟨q, h2, _⟩
              · by_cases e : j < k
                · exact absurd h (h2 j e hm0)
                · omega
              · omega⟩)
            go_wp2
            exact ⟨⟨k + 1, k, by omega, by go_num, rfl, by trivial, HI2⟩, by simp [intOf]; omega⟩
        · have f1 : (x.m == mk) = false := beq_eq_false_iff_ne.2 he
          have HI2 : Hid ((z = -1 ∧ ∀ j, j < k + 1 → mk ≠ 0 → l[j]!.m ≠ mk) ∨ ∃ q : Nat, z = (q : Int) ∧ q < k + 1 ∧ mk ≠ 0 ∧ l[q]!.m = mk ∧ ∀ j, j < k + 1 → l[j]!.m = mk → j = q) := Lib.hid (by
            have hkm : l[k]!.m ≠ mk := by rw [HX.out]; exact he
            rcases HI.out with ⟨h1, h2⟩ | ⟨q, h1, h2, h3, h4, h5⟩
            · refine .inl ⟨h1, fun j hj h => ?_⟩
              by_cases e : j < k
              · exact h2 j e h
              · have : j = k := by omega
                subst this
                exact hkm
            · refine .inr ⟨q, h1, by omega, h3, h4, fun j hj h => ?_⟩
              by_cases e : j < k
              · exact h5 j e h
              · have : j = k := by omega
                subst this
                exact absurd h hkm)
          go_wp2
          exact ⟨⟨k + 1, z, by omega, by go_num, rfl, by trivial, HI2⟩, by simp [intOf]; omega⟩
    · obtain rfl : n = k := by omega
      have i2 : ¬ (n : Int) < (n : Int) := by omega
      go_wp2
      go_ret
      refine ⟨z, rfl, rfl, ?_⟩
      rcases HI.out with ⟨h1, _⟩ | h
      · exact .inl h1
      · exact .inr h
end Go.Proofs.Ytiofgaadfbjnoaa
