/-
  The document's own Find, Number, At and Sub of layer 11.
-/
import Derived.Test.YtlninlempefjcaaSe
namespace Go.Proofs.Ytlninlempefjcaa
open Go.RowKit
set_option linter.unusedVariables false

/-- How a look for a place ends. -/
def FindP (P : Nat → Bool) (n : Nat) (w : World) (e : Ending) (w' : World) : Prop :=
  ((∃ j, j < n ∧ P j = true ∧ (∀ i, i < j → P i = false) ∧ e = .returned (.int .i64 j)) ∨
   ((∀ i, i < n → P i = false) ∧ e = .returned (.int .i64 (-1)))) ∧ w = w'
theorem Tb.num {w : World} {b o n : Nat} {T : Nat → SR} (h : Tb w b o n T) (i : Nat) (hi : i < n) (a : Nat) (ha : a < 5) : w.cell? ⟨b, o + i * 8 + 1 + a, none⟩ = some (.int .i64 (numI (T i) a)) := by
  obtain ⟨h0, h1, h2, h3, h4, h5, h6, h7⟩ := h.2 i hi
  have hc : a = 0 ∨ a = 1 ∨ a = 2 ∨ a = 3 ∨ a = 4 := by omega
  rcases hc with rfl | rfl | rfl | rfl | rfl
  · exact h1
  · exact h2
  · exact h3
  · exact h4
  · exact h5
set_option maxRecDepth 100000 in
set_option maxHeartbeats 4000000 in
theorem refFind_any (A : Option Addr) (n cap : Nat) (T : Nat → SR) (s : ByteArray) (w : World) (hn : n ≤ 1000000) (ht : TbA w A n T) :
    Calls Try.prog 13 #[.slice A n cap, .string s] w (FindP (isN T s) n w) := by
  have HT := Lib.hid ht
  clear ht
  go_enter Try.func13, Try.ntmps13
  go_wp2_with fail
  go_loopw [5] (fun i wr => ∃ k : Nat, k ≤ n ∧ i = .int .i64 k ∧ (∀ i, i < k → isN T s i = false) ∧ w = wr)
    (fun i _ => n - (intOf i).toNat)
  case atStart => exact ⟨0, by omega, rfl, fun i h => by omega, rfl⟩
  case round =>
    obtain ⟨k, hk, rfl, hno, rfl⟩ := hrel
    have HNO := Lib.hid hno
    clear hno
    by_cases hlt : k < n
    · obtain ⟨b, o, rfl, hTb⟩ := HT.out.at_ hlt
      obtain ⟨q0, -, -, -, -, -, -, -⟩ := hTb.2 k hlt
      clear hTb
      have i1 : (0 : Int) ≤ (k : Int) := by omega
      have i2 : (k : Int) < (n : Int) := by omega
      cases hp : ((T k).nm.toList == s.toList)
      · have HP := Lib.hid hp
        go_wp2
        exact ⟨⟨k + 1, by omega, by go_num, fun i hi => by
          by_cases h : i = k
          · subst h; exact HP.out
          · exact HNO.out i (by omega), trivial⟩, by simp [intOf]; omega⟩
      · have HP := Lib.hid hp
        go_wp2
        go_ret
        exact ⟨.inl ⟨k, hlt, HP.out, HNO.out, rfl⟩, rfl⟩
    · obtain rfl : k = n := by omega
      have i2 : ¬ (k : Int) < (k : Int) := by omega
      go_wp2
      go_ret
      exact ⟨.inr ⟨HNO.out, rfl⟩, rfl⟩
def numR (r : SR) (k a : Nat) : Int := if 0 ≤ numI r a then numI r a else -1 - (k : Int)
set_option maxRecDepth 100000 in
set_option maxHeartbeats 4000000 in
theorem refNumber_any (A : Option Addr) (n cap : Nat) (T : Nat → SR) (a : Nat) (ha : a < 5) (k : Nat) (hk : k < n) (w : World) (hn : n ≤ 1000000) (ht : TbA w A n T) :
    Calls Try.prog 18 #[.slice A n cap, .int .i64 a, .int .i64 k] w fun e w' => e = .returned (.int .i64 (numR (T k) k a)) ∧ w = w' := by
  obtain ⟨b, o, rfl, hTb⟩ := ht.at_ hk
  have c0 := hTb.num k hk a ha
  clear hTb
  have i1 : (0 : Int) ≤ (k : Int) := by omega
  have i2 : (k : Int) < (n : Int) := by omega
  have i3 : (0 : Int) ≤ (a : Int) := by omega
  have i4 : (a : Int) < 5 := by omega
  have v1 : IntKind.i64.wrap (-1 - (k : Int)) = -1 - (k : Int) := by rw [IntKind.wrap_i64]; omega
  obtain ⟨x, hx⟩ : ∃ x, numI (T k) a = x := ⟨_, rfl⟩
  have HX := Lib.hid hx
  rw [hx] at c0
  clear hx ht
  by_cases h : 0 ≤ x
  · have q0 : x ≥ 0 := h
    have q1 : decide (x ≥ 0) = true := decide_eq_true q0
    have HR : Hid (numR (T k) k a = x) := Lib.hid (by rw [numR, HX.out, if_pos h])
    go_enter Try.func18, Try.ntmps18
    go_wp2
    go_ret
    exact ⟨by rw [HR.out]; first | rfl | simp, rfl⟩
  · have q0 : ¬ x ≥ 0 := h
    have q1 : decide (x ≥ 0) = false := decide_eq_false q0
    have HR : Hid (numR (T k) k a = -1 - (k : Int)) := Lib.hid (by rw [numR, HX.out, if_neg h])
    go_enter Try.func18, Try.ntmps18
    go_wp2
    go_ret
    exact ⟨by rw [HR.out]; first | rfl | simp, rfl⟩
set_option maxRecDepth 100000 in
set_option maxHeartbeats 4000000 in
theorem refAt_any (A : Option Addr) (n cap : Nat) (T : Nat → SR) (a : Nat) (ha : a < 5) (x : Int) (w : World) (hn : n ≤ 1000000) (ht : TbA w A n T) :
    Calls Try.prog 19 #[.slice A n cap, .int .i64 a, .int .i64 x] w (FindP (fun k => numR (T k) k a == x) n w) := by
  have HN := Lib.hid fun k hk => refNumber_any A n cap T a ha k hk w hn ht
  clear ht
  go_enter Try.func19, Try.ntmps19
  go_wp2_with fail
  go_loopw [7] (fun i wr => ∃ k : Nat, k ≤ n ∧ i = .int .i64 k ∧ (∀ i, i < k → (numR (T i) i a == x) = false) ∧ w = wr)
    (fun i _ => n - (intOf i).toNat)
  case atStart => exact ⟨0, by omega, rfl, fun i h => by omega, rfl⟩
  case round =>
    obtain ⟨k, hk, rfl, hno, rfl⟩ := hrel
    have HNO := Lib.hid hno
    clear hno
    by_cases hlt : k < n
    · have HK := Lib.hid (HN.out k hlt)
      have i2 : (k : Int) < (n : Int) := by omega
      obtain ⟨y, hy⟩ : ∃ y, numR (T k) k a = y := ⟨_, rfl⟩
      rw [hy] at HK
      have HY := Lib.hid hy
      clear hy
      cases hp : (y == x)
      · have HP := Lib.hid hp
        go_wp2_with (go_at_call 18; refine HK.out.mono ?_; rintro e w5 ⟨rfl, rfl⟩)
        exact ⟨⟨k + 1, by omega, by go_num, fun i hi => by
          by_cases h : i = k
          · subst h; rw [HY.out]; exact HP.out
          · exact HNO.out i (by omega), trivial⟩, by simp [intOf]; omega⟩
      · have HP := Lib.hid hp
        go_wp2_with (go_at_call 18; refine HK.out.mono ?_; rintro e w5 ⟨rfl, rfl⟩)
        go_ret
        exact ⟨.inl ⟨k, hlt, by show (numR (T k) k a == x) = true; rw [HY.out]; exact HP.out, HNO.out, rfl⟩, rfl⟩
    · obtain rfl : k = n := by omega
      have i2 : ¬ (k : Int) < (k : Int) := by omega
      go_wp2
      go_ret
      exact ⟨.inr ⟨HNO.out, rfl⟩, rfl⟩
abbrev subR (T : Nat → SR) (mx sb : Int) (k : Nat) : Bool := (decide (mx ≥ 1) && decide (mx ≤ 2)) && ((T k).mx == mx) && ((T k).sb == sb)
set_option maxRecDepth 100000 in
set_option maxHeartbeats 4000000 in
theorem refSub_any (A : Option Addr) (n cap : Nat) (T : Nat → SR) (mx sb : Int) (w : World) (hn : n ≤ 1000000) (ht : TbA w A n T) :
    Calls Try.prog 15 #[.slice A n cap, .int .i64 mx, .int .i64 sb] w (FindP (subR T mx sb) n w) := by
  have HT := Lib.hid ht
  obtain ⟨g, hg⟩ : ∃ g, (decide (mx ≥ 1) && decide (mx ≤ 2)) = g := ⟨_, rfl⟩
  have HG := Lib.hid hg
  have hcs : (mx ≥ 1 ∧ mx ≤ 2 ∧ g = true) ∨ (mx ≥ 1 ∧ ¬ mx ≤ 2 ∧ g = false) ∨ (¬ mx ≥ 1 ∧ g = false) := by
    rw [← hg]
    by_cases h1 : mx ≥ 1 <;> by_cases h2 : mx ≤ 2 <;> simp [h1, h2]
  have HC := Lib.hid hcs
  clear ht hg hcs
  go_enter Try.func15, Try.ntmps15
  go_wp2_with fail
  go_loopw [7] (fun i wr => ∃ k : Nat, k ≤ n ∧ i = .int .i64 k ∧ (∀ i, i < k → subR T mx sb i = false) ∧ w = wr)
    (fun i _ => n - (intOf i).toNat)
  case atStart => exact ⟨0, by omega, rfl, fun i h => by omega, rfl⟩
  case round =>
    obtain ⟨k, hk, rfl, hno, rfl⟩ := hrel
    have HNO := Lib.hid hno
    clear hno
    by_cases hlt : k < n
    · obtain ⟨b, o, rfl, hTb⟩ := HT.out.at_ hlt
      obtain ⟨-, -, -, -, -, -, q6, q7⟩ := hTb.2 k hlt
      clear hTb
      have i1 : (0 : Int) ≤ (k : Int) := by omega
      have i2 : (k : Int) < (n : Int) := by omega
      have hno' : subR T mx sb k = false → ∃ k', k' ≤ n ∧ (Value.int .i64 ((k : Int) + 1)) = .int .i64 (k' : Nat) ∧ (∀ i, i < k' → subR T mx sb i = false) := fun h => ⟨k + 1, by omega, by go_num, fun i hi => by
          by_cases h' : i = k
          · subst h'; exact h
          · exact HNO.out i (by omega)⟩
      have HNX := Lib.hid hno'
      clear hno'
      rcases HC.out with ⟨m1, m2, rfl⟩ | ⟨m1, m2, rfl⟩ | ⟨m1, rfl⟩
      · have f1 : decide (mx ≥ 1) = true := decide_eq_true m1
        have f2 : decide (mx ≤ 2) = true := decide_eq_true m2
        cases h1 : ((T k).mx == mx)
        · have HX := Lib.hid (HNX.out (by simp [subR, h1]))
          go_wp2
          obtain ⟨k', a1, a2, a3⟩ := HX.out
          exact ⟨⟨k', a1, a2, a3, trivial⟩, by simp [intOf]; omega⟩
        · cases h2 : ((T k).sb == sb)
          · have HX := Lib.hid (HNX.out (by simp [subR, h2]))
            go_wp2
            obtain ⟨k', a1, a2, a3⟩ := HX.out
            exact ⟨⟨k', a1, a2, a3, trivial⟩, by simp [intOf]; omega⟩
          · have HX : Hid (subR T mx sb k = true) := Lib.hid (by simp only [subR, h1, h2, f1, f2]; rfl)
            go_wp2
            go_ret
            exact ⟨.inl ⟨k, hlt, HX.out, HNO.out, rfl⟩, rfl⟩
      · have f1 : decide (mx ≥ 1) = true := decide_eq_true m1
        have f2 : decide (mx ≤ 2) = false := decide_eq_false (by omega)
        have HX := Lib.hid (HNX.out (by simp only [subR, f1, f2]; simp))
        go_wp2
        obtain ⟨k', a1, a2, a3⟩ := HX.out
        exact ⟨⟨k', a1, a2, a3, trivial⟩, by simp [intOf]; omega⟩
      · have f1 : decide (mx ≥ 1) = false := decide_eq_false (by omega)
        have HX := Lib.hid (HNX.out (by simp only [subR, f1]; simp))
        go_wp2
        obtain ⟨k', a1, a2, a3⟩ := HX.out
        exact ⟨⟨k', a1, a2, a3, trivial⟩, by simp [intOf]; omega⟩
    · obtain rfl : k = n := by omega
      have i2 : ¬ (k : Int) < (k : Int) := by omega
      go_wp2
      go_ret
      exact ⟨.inr ⟨HNO.out, rfl⟩, rfl⟩
end Go.Proofs.Ytlninlempefjcaa
