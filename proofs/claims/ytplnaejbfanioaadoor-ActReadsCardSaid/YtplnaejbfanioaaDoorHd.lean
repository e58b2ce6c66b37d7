/-
  The contract of the document's own Number of layer 9.
-/
import Derived.Test.YtplnaejbfanioaaDoorHc
import Derived.RegionTactic
namespace Go.Proofs.YtplnaejbfanioaaDoor
open Go.Shelf Go.RowKit
set_option linter.unusedVariables false

theorem ixS (S : ByteArray) (p : Nat) (b : UInt8) (h : S.data.toList[p]? = some b) (W : World) : (Instr.index 9 (.string S) (.int .i64 p)).run Tryd.prog W = .ok (.int .u8 b.toNat) W := by
  have hp : p < S.size := by
    have := (List.getElem?_eq_some_iff.1 h).1
    simpa using this
  have hb : S[p] = b := by
    have := (List.getElem?_eq_some_iff.1 h).2
    show S.data[p] = b
    simpa using this
  have h1 : (0 ≤ (p : Int) ∧ (p : Int) < S.size) := by omega
  simp [Instr.index, run_underlying Tryd.underlying9, asIntOf, h1, hp, hb, go_sem]
theorem valD_lt : ∀ (n : Nat) (l : List UInt8), l.length = n → Dig l → valD l < 10 ^ n := by
  intro n
  induction n with
  | zero => intro l hl _; rw [List.eq_nil_of_length_eq_zero hl]; show (0 : Nat) < _; omega
  | succ n ih =>
    intro l hl hd
    rcases List.eq_nil_or_concat l with rfl | ⟨L, c, rfl⟩
    · simp at hl
    · simp only [List.concat_eq_append] at hl hd ⊢
      have hc := hd c (by simp)
      have := ih L (by simpa using hl) (fun b hb => hd b (by simp [hb]))
      rw [valD_snoc, Nat.pow_succ]
      omega
theorem valD_take {l : List UInt8} {k : Nat} {b : UInt8} (h : l[k]? = some b) : valD (l.take (k + 1)) = 10 * valD (l.take k) + (b.toNat - 48) := by
  rw [List.take_add_one, h, ← valD_snoc]
  rfl
theorem dig_take {l : List UInt8} {k : Nat} {b : UInt8} (h : l[k]? = some b) (hd : Dig (l.take k)) (hb : 48 ≤ b.toNat ∧ b.toNat ≤ 57) : Dig (l.take (k + 1)) := by
  intro c hc
  rw [List.take_add_one, h] at hc
  rcases List.mem_append.1 hc with hc | hc
  · exact hd c hc
  · simp at hc; subst hc; exact hb
set_option maxRecDepth 100000 in
set_option maxHeartbeats 4000000 in
theorem refNum_any (s : ByteArray) (hs : s.size ≤ 30) (w : World) :
    Calls Tryd.prog 43 #[.string s] w fun e w' => ((Tst s.data.toList ∧ e = .returned (.tuple #[.int .i64 (valD s.data.toList), .bool true])) ∨ (¬ Tst s.data.toList ∧ e = .returned (.tuple #[.int .i64 0, .bool false]))) ∧ w = w' := by
  obtain ⟨l, hl⟩ : ∃ l, s.data.toList = l := ⟨_, rfl⟩
  have hlen : l.length = s.size := by rw [← hl]; exact Array.length_toList
  rw [hl]
  by_cases h0 : s.size = 0
  · have q0 : ((s.size : Int) == 0) = true := by rw [h0]; rfl
    have HN : Hid (¬ Tst l) := Lib.hid fun h => h.1 (List.eq_nil_of_length_eq_zero (by omega))
    clear hl hlen
    go_enter Tryd.func43, Tryd.ntmps43
    go_wp2
    go_ret2
    exact ⟨.inr ⟨HN.out, rfl⟩, rfl⟩
  have q0 : ((s.size : Int) == 0) = false := beq_eq_false_iff_ne.2 (by omega)
  by_cases h9 : s.size > 9
  · have q1 : (s.size : Int) > 9 := by omega
    have q2 : decide ((s.size : Int) > 9) = true := by simpa using q1
    have HN : Hid (¬ Tst l) := Lib.hid fun h => by have := h.2.1; omega
    clear hl hlen
    go_enter Tryd.func43, Tryd.ntmps43
    go_wp2
    go_ret2
    exact ⟨.inr ⟨HN.out, rfl⟩, rfl⟩
  have q1 : ¬ (s.size : Int) > 9 := by omega
  have q2 : decide ((s.size : Int) > 9) = false := by simpa using q1
  obtain ⟨c, hc⟩ : ∃ c, l[0]? = some c := ⟨_, List.getElem?_eq_getElem (by omega)⟩
  have hhd : l.head? = some c := by rw [List.head?_eq_getElem?]; exact hc
  have hix0 := ixS s 0 c (by rw [hl]; exact hc)
  have hix0' : ∀ W, (Instr.index 9 (.string s) (.int .i64 0)).run Tryd.prog W = .ok (.int .u8 c.toNat) W := fun W => hix0 W
  have p0 : (0 : Int) < (s.size : Int) := by omega
  have ec : ((c.toNat : Int) == 48) = (c == 48) := by rw [Bool.eq_iff_iff]; simp [← UInt8.toNat_inj]; omega
  clear hix0
  by_cases hbad : (c == 48) = true ∧ s.size > 1
  · have q3 : ((c.toNat : Int) == 48) = true := ec.trans hbad.1
    have q4 : (s.size : Int) > 1 := by omega
    have q5 : decide ((s.size : Int) > 1) = true := by simpa using q4
    have HN : Hid (¬ Tst l) := Lib.hid fun h => by
      have h1 : c = 48 := by simpa using hbad.1
      have := h.2.2.1 (by rw [hhd, h1])
      omega
    clear hl hlen hbad hc hhd ec
    go_enter Tryd.func43, Tryd.ntmps43
    go_wp2
    go_ret2
    exact ⟨.inr ⟨HN.out, rfl⟩, rfl⟩
  have HH : Hid (l.head? = some 48 → l.length ≤ 1) := Lib.hid fun h => by
    rw [hhd] at h
    have h1 : c = 48 := by simpa using h
    have h2 : ¬ s.size > 1 := fun h3 => hbad ⟨by simpa using h1, h3⟩
    omega
  have HL := Lib.hid hlen
  have HS := Lib.hid hl
  have hcs : ((c.toNat : Int) == 48) = false ∨ (((c.toNat : Int) == 48) = true ∧ decide ((s.size : Int) > 1) = false ∧ ¬ (s.size : Int) > 1) := by
    rw [ec]
    cases hq : (c == 48)
    · exact .inl rfl
    · refine .inr ⟨rfl, ?_, ?_⟩
      · have : ¬ s.size > 1 := fun h => hbad ⟨hq, h⟩
        simp; omega
      · have : ¬ s.size > 1 := fun h => hbad ⟨hq, h⟩
        omega
  clear hl hlen hbad hhd ec
  have HC := Lib.hid hcs
  clear hcs
  rcases HC.out with q3 | ⟨q3, q5, q6⟩
  all_goals
    go_enter Tryd.func43, Tryd.ntmps43
    go_wp2
    go_loopw [4, 5] (fun nv i wr => ∃ k : Nat, k ≤ s.size ∧ i = .int .i64 k ∧ nv = .int .i64 (valD (l.take k)) ∧ Dig (l.take k) ∧ w = wr)
      (fun _ i _ => s.size - (intOf i).toNat)
    case atStart => exact ⟨0, by omega, rfl, rfl, fun b hb => by simp at hb, rfl⟩
    case round =>
      obtain ⟨k, hk, rfl, rfl, hd, rfl⟩ := hrel
      have HD := Lib.hid hd
      clear hd
      by_cases hlt : k < s.size
      · have g1 : (k : Int) < (s.size : Int) := by omega
        obtain ⟨b, hb⟩ : ∃ b, l[k]? = some b := ⟨_, List.getElem?_eq_getElem (by rw [HL.out]; exact hlt)⟩
        have hix := ixS s k b (by rw [HS.out]; exact hb)
        have HB := Lib.hid hb
        clear hb
        by_cases hlo : b.toNat < 48
        · have g2 : (b.toNat : Int) < 48 := by omega
          have g3 : decide ((b.toNat : Int) < 48) = true := by simpa using g2
          have HN : Hid (¬ Tst l) := Lib.hid fun h => by have := (h.2.2.2 b (List.mem_of_getElem? HB.out)).1; omega
          go_wp2
          go_ret2
          exact ⟨.inr ⟨HN.out, rfl⟩, rfl⟩
        have g2 : ¬ (b.toNat : Int) < 48 := by omega
        have g3 : decide ((b.toNat : Int) < 48) = false := by simpa using g2
        by_cases hhi : b.toNat > 57
        · have g4 : (b.toNat : Int) > 57 := by omega
          have g5 : decide ((b.toNat : Int) > 57) = true := by simpa using g4
          have HN : Hid (¬ Tst l) := Lib.hid fun h => by have := (h.2.2.2 b (List.mem_of_getElem? HB.out)).2; omega
          go_wp2
          go_ret2
          exact ⟨.inr ⟨HN.out, rfl⟩, rfl⟩
        have g4 : ¬ (b.toNat : Int) > 57 := by omega
        have g5 : decide ((b.toNat : Int) > 57) = false := by simpa using g4
        have hv : valD (l.take k) < 10 ^ 9 := by
          have h1 := valD_lt k (l.take k) (by rw [List.length_take, HL.out]; omega) HD.out
          have h2 : 10 ^ k ≤ 10 ^ 9 := Nat.pow_le_pow_right (by omega) (by omega)
          omega
        have HE := Lib.hid (valD_take HB.out)
        have HD2 := Lib.hid (dig_take HB.out HD.out (by omega))
        obtain ⟨x, hx⟩ : ∃ x, valD (l.take k) = x := ⟨_, rfl⟩
        have HX := Lib.hid hx
        rw [hx] at hv
        rw [hx]
        clear hx
        have v1 : IntKind.i64.wrap (10 * (x : Int)) = 10 * (x : Int) := by rw [IntKind.wrap_i64]; omega
        have v2 : IntKind.u8.wrap ((b.toNat : Int) - 48) = (b.toNat : Int) - 48 := by rw [IntKind.wrap_u8]; omega
        have v3 : IntKind.i64.wrap ((b.toNat : Int) - 48) = (b.toNat : Int) - 48 := by rw [IntKind.wrap_i64]; omega
        have v4 : IntKind.i64.wrap (10 * (x : Int) + ((b.toNat : Int) - 48)) = 10 * (x : Int) + ((b.toNat : Int) - 48) := by rw [IntKind.wrap_i64]; omega
        go_wp2
        refine ⟨⟨k + 1, by omega, by go_num, ?_, HD2.out, trivial⟩, by simp [intOf]; omega⟩
        rw [HE.out, HX.out]
        congr 1
        omega
      · obtain rfl : k = s.size := by omega
        have g1 : ¬ ((s.size : Nat) : Int) < (s.size : Int) := by omega
        have ht : l.take s.size = l := List.take_of_length_le (by rw [HL.out]; omega)
        have HN : Hid (Tst l) := Lib.hid ⟨fun e => by rw [e] at HL; have := HL.out; simp at this; omega, by rw [HL.out]; omega, HH.out, by rw [← ht]; exact HD.out⟩
        rw [ht]
        go_wp2
        go_ret2
        exact ⟨.inl ⟨HN.out, rfl⟩, rfl⟩
end Go.Proofs.YtplnaejbfanioaaDoor
