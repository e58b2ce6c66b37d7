/-
  The document's own Name of layer 11.
-/
import Derived.Test.YtlpcallgkciklaaGreatDoorSe
import Derived.Deep.Cut
namespace Go.Proofs.YtlpcallgkciklaaGreatDoor
open Go.RowKit
set_option linter.unusedVariables false

theorem ixStr (S : ByteArray) (p : Nat) (b : UInt8) (h : S.data.toList[p]? = some b) (W : World) : (Instr.index 9 (.string S) (.int .i64 p)).run Tryz.prog W = .ok (.int .u8 b.toNat) W := by
  have hp : p < S.size := by
    have := (List.getElem?_eq_some_iff.1 h).1
    simpa using this
  have hb : S[p] = b := by
    have := (List.getElem?_eq_some_iff.1 h).2
    show S.data[p] = b
    simpa using this
  have h1 : (0 ≤ (p : Int) ∧ (p : Int) < S.size) := by omega
  simp [Instr.index, run_underlying Tryz.underlying9, asIntOf, h1, hp, hb, go_sem]
/-- The bytes of a name. -/
def ChN (b : UInt8) : Prop := (97 ≤ b.toNat ∧ b.toNat ≤ 122) ∨ (48 ≤ b.toNat ∧ b.toNat ≤ 57) ∨ b.toNat = 95
/-- Which names may be. -/
def NmP (s : ByteArray) : Prop := s.size ≠ 0 ∧ s.size ≤ 30 ∧ (∀ c, s.data.toList[0]? = some c → 97 ≤ c.toNat ∧ c.toNat ≤ 122) ∧ (s.toList == ([100, 101, 102, 97, 117, 108, 116] : List UInt8)) = false ∧ (s.toList == ([120, 51, 50] : List UInt8)) = false ∧ ∀ b ∈ s.data.toList, ChN b
set_option maxRecDepth 100000 in
set_option maxHeartbeats 8000000 in
theorem refName_any (s : ByteArray) (w : World) :
    Calls Tryz.prog 87 #[.string s] w fun e w' => ((NmP s ∧ e = .returned (.bool true)) ∨ (¬ NmP s ∧ e = .returned (.bool false))) ∧ w = w' := by
  have hlen : s.data.toList.length = s.size := Array.length_toList
  have HL := Lib.hid hlen
  by_cases h0 : s.size = 0
  · have q0 : ((s.size : Int) == 0) = true := by rw [h0]; rfl
    have HN : Hid (¬ NmP s) := Lib.hid fun h => h.1 h0
    go_enter Tryz.func87, Tryz.ntmps87
    go_wp2
    go_ret
    exact ⟨.inr ⟨HN.out, rfl⟩, rfl⟩
  have q0 : ((s.size : Int) == 0) = false := beq_eq_false_iff_ne.2 (by omega)
  by_cases h9 : s.size > 30
  · have q1 : (s.size : Int) > 30 := by omega
    have q2 : decide ((s.size : Int) > 30) = true := decide_eq_true q1
    have HN : Hid (¬ NmP s) := Lib.hid fun h => by have := h.2.1; omega
    go_enter Tryz.func87, Tryz.ntmps87
    go_wp2
    go_ret
    exact ⟨.inr ⟨HN.out, rfl⟩, rfl⟩
  have q1 : ¬ (s.size : Int) > 30 := by omega
  have q2 : decide ((s.size : Int) > 30) = false := decide_eq_false q1
  obtain ⟨c, hc⟩ : ∃ c, s.data.toList[0]? = some c := ⟨_, List.getElem?_eq_getElem (by omega)⟩
  have hix0 : ∀ W, (Instr.index 9 (.string s) (.int .i64 0)).run Tryz.prog W = .ok (.int .u8 c.toNat) W := fun W => ixStr s 0 c hc W
  have p0 : (0 : Int) < (s.size : Int) := by omega
  have HC := Lib.hid hc
  clear hlen hc
  by_cases hlo : c.toNat < 97
  · have g1 : (c.toNat : Int) < 97 := by omega
    have g2 : decide ((c.toNat : Int) < 97) = true := decide_eq_true g1
    have HN : Hid (¬ NmP s) := Lib.hid fun h => by have := (h.2.2.1 c HC.out).1; omega
    go_enter Tryz.func87, Tryz.ntmps87
    go_wp2
    go_ret
    exact ⟨.inr ⟨HN.out, rfl⟩, rfl⟩
  have g1 : ¬ (c.toNat : Int) < 97 := by omega
  have g2 : decide ((c.toNat : Int) < 97) = false := decide_eq_false g1
  by_cases hhi : c.toNat > 122
  · have g3 : (c.toNat : Int) > 122 := by omega
    have g4 : decide ((c.toNat : Int) > 122) = true := decide_eq_true g3
    have HN : Hid (¬ NmP s) := Lib.hid fun h => by have := (h.2.2.1 c HC.out).2; omega
    go_enter Tryz.func87, Tryz.ntmps87
    go_wp2
    go_ret
    exact ⟨.inr ⟨HN.out, rfl⟩, rfl⟩
  have g3 : ¬ (c.toNat : Int) > 122 := by omega
  have g4 : decide ((c.toNat : Int) > 122) = false := decide_eq_false g3
  cases hd : (s.toList == ([100, 101, 102, 97, 117, 108, 116] : List UInt8))
  case true =>
    have HN : Hid (¬ NmP s) := Lib.hid fun h => by rw [h.2.2.2.1] at hd; cases hd
    go_enter Tryz.func87, Tryz.ntmps87
    go_wp2
    go_ret
    exact ⟨.inr ⟨HN.out, rfl⟩, rfl⟩
  cases hx : (s.toList == ([120, 51, 50] : List UInt8))
  case true =>
    have HN : Hid (¬ NmP s) := Lib.hid fun h => by rw [h.2.2.2.2.1] at hx; cases hx
    go_enter Tryz.func87, Tryz.ntmps87
    go_wp2
    go_ret
    exact ⟨.inr ⟨HN.out, rfl⟩, rfl⟩
  have HH : Hid ((∀ b ∈ s.data.toList, ChN b) → NmP s) := Lib.hid fun h => ⟨h0, by omega, fun c' hc' => by rw [HC.out] at hc'; cases hc'; omega, hd, hx, h⟩
  go_enter Tryz.func87, Tryz.ntmps87
  go_wp2_with fail
  go_loopw [3] (fun i wr => ∃ k : Nat, k ≤ s.size ∧ i = .int .i64 k ∧ (∀ b ∈ s.data.toList.take k, ChN b) ∧ w = wr)
    (fun i _ => s.size - (intOf i).toNat)
  case atStart => exact ⟨0, by omega, rfl, fun b hb => by simp at hb, rfl⟩
  case round =>
    clear hd hx hix0 q0 q1 q2 g1 g2 g3 g4
    obtain ⟨k, hk, rfl, hall, rfl⟩ := hrel
    have HA := Lib.hid hall
    clear hall
    by_cases hlt : k < s.size
    · have i1 : (k : Int) < (s.size : Int) := by omega
      obtain ⟨b, hb⟩ : ∃ b, s.data.toList[k]? = some b := ⟨_, List.getElem?_eq_getElem (by rw [HL.out]; exact hlt)⟩
      have hix := ixStr s k b hb
      have HB := Lib.hid hb
      clear hb
      by_cases hch : ChN b
      · have HT : Hid (∀ b ∈ s.data.toList.take (k + 1), ChN b) := Lib.hid fun c hc => by
          rw [List.take_add_one, HB.out] at hc
          rcases List.mem_append.1 hc with hc | hc
          · exact HA.out c hc
          · simp at hc; subst hc; exact hch
        have HE := Lib.hid hch
        clear hch
        rcases HE.out with ⟨a1, a2⟩ | ⟨a1, a2⟩ | a1
        · have e1 : (b.toNat : Int) ≥ 97 := by omega
          have e2 : (b.toNat : Int) ≤ 122 := by omega
          have f1 : decide ((b.toNat : Int) ≥ 97) = true := decide_eq_true e1
          have f2 : decide ((b.toNat : Int) ≤ 122) = true := decide_eq_true e2
          go_wp2
          exact ⟨⟨k + 1, by omega, by go_num, HT.out, trivial⟩, by simp [intOf]; omega⟩
        · have e1 : ¬ (b.toNat : Int) ≥ 97 := by omega
          have e2 : (b.toNat : Int) ≥ 48 := by omega
          have e3 : (b.toNat : Int) ≤ 57 := by omega
          have f1 : decide ((b.toNat : Int) ≥ 97) = false := decide_eq_false e1
          have f2 : decide ((b.toNat : Int) ≥ 48) = true := decide_eq_true e2
          have f3 : decide ((b.toNat : Int) ≤ 57) = true := decide_eq_true e3
          go_wp2
          exact ⟨⟨k + 1, by omega, by go_num, HT.out, trivial⟩, by simp [intOf]; omega⟩
        · have e1 : ¬ (b.toNat : Int) ≥ 97 := by omega
          have e2 : (b.toNat : Int) ≥ 48 := by omega
          have e3 : ¬ (b.toNat : Int) ≤ 57 := by omega
          have e4 : ((b.toNat : Int) == 95) = true := by rw [a1]; rfl
          have f1 : decide ((b.toNat : Int) ≥ 97) = false := decide_eq_false e1
          have f2 : decide ((b.toNat : Int) ≥ 48) = true := decide_eq_true e2
          have f3 : decide ((b.toNat : Int) ≤ 57) = false := decide_eq_false e3
          go_wp2
          exact ⟨⟨k + 1, by omega, by go_num, HT.out, trivial⟩, by simp [intOf]; omega⟩
      · have HN : Hid (¬ NmP s) := Lib.hid fun h => hch (h.2.2.2.2.2 b (List.mem_of_getElem? HB.out))
        unfold ChN at hch
        have e4 : ((b.toNat : Int) == 95) = false := beq_eq_false_iff_ne.2 (by omega)
        by_cases a1 : 97 ≤ b.toNat
        · have e1 : (b.toNat : Int) ≥ 97 := by omega
          have e2 : ¬ (b.toNat : Int) ≤ 122 := by omega
          have e5 : (b.toNat : Int) ≥ 48 := by omega
          have e6 : ¬ (b.toNat : Int) ≤ 57 := by omega
          have f1 : decide ((b.toNat : Int) ≥ 97) = true := decide_eq_true e1
          have f2 : decide ((b.toNat : Int) ≤ 122) = false := decide_eq_false e2
          have f5 : decide ((b.toNat : Int) ≥ 48) = true := decide_eq_true e5
          have f6 : decide ((b.toNat : Int) ≤ 57) = false := decide_eq_false e6
          clear hch
          go_wp2
          go_ret
          exact ⟨.inr ⟨HN.out, rfl⟩, rfl⟩
        · have e1 : ¬ (b.toNat : Int) ≥ 97 := by omega
          have f1 : decide ((b.toNat : Int) ≥ 97) = false := decide_eq_false e1
          by_cases a5 : 48 ≤ b.toNat
          · have e5 : (b.toNat : Int) ≥ 48 := by omega
            have e6 : ¬ (b.toNat : Int) ≤ 57 := by omega
            have f5 : decide ((b.toNat : Int) ≥ 48) = true := decide_eq_true e5
            have f6 : decide ((b.toNat : Int) ≤ 57) = false := decide_eq_false e6
            clear hch
            go_wp2
            go_ret
            exact ⟨.inr ⟨HN.out, rfl⟩, rfl⟩
          · have e5 : ¬ (b.toNat : Int) ≥ 48 := by omega
            have f5 : decide ((b.toNat : Int) ≥ 48) = false := decide_eq_false e5
            clear hch
            go_wp2
            go_ret
            exact ⟨.inr ⟨HN.out, rfl⟩, rfl⟩
    · obtain rfl : k = s.size := by omega
      have g1 : ¬ ((s.size : Nat) : Int) < (s.size : Int) := by omega
      have HN : Hid (NmP s) := Lib.hid (HH.out fun b hb => HA.out b (by rw [List.take_of_length_le (by rw [HL.out]; omega)]; exact hb))
      go_wp2
      go_ret
      exact ⟨.inl ⟨HN.out, rfl⟩, rfl⟩
end Go.Proofs.YtlpcallgkciklaaGreatDoor
