/-
  The document's number, digits and Words.
-/
import Derived.Test.YtebeoadmdflfcaaGreatDoorQa
import Derived.Test.YtebeoadmdflfcaaGreatDoorRw
namespace Go.Proofs.YtebeoadmdflfcaaGreatDoor
open Go.RowKit Go.Shelf
set_option linter.unusedVariables false

theorem ixQ (S : ByteArray) (p : Nat) (b : UInt8) (h : S.data.toList[p]? = some b) (W : World) : (Instr.index 9 (.string S) (.int .i64 p)).run Tryz.prog W = .ok (.int .u8 b.toNat) W := by
  have hp : p < S.size := by
    have := (List.getElem?_eq_some_iff.1 h).1
    simpa using this
  have hb : S[p] = b := by
    have := (List.getElem?_eq_some_iff.1 h).2
    show S.data[p] = b
    simpa using this
  have h1 : (0 ≤ (p : Int) ∧ (p : Int) < S.size) := by omega
  simp [Instr.index, run_underlying Tryz.underlying9, asIntOf, h1, hp, hb, go_sem]
theorem valD_bound : ∀ (n : Nat) (l : List UInt8), l.length = n → (∀ b ∈ l, isDg b = true) → valD l 0 < 10 ^ n := by
  intro n
  induction n with
  | zero => intro l h _; rw [List.length_eq_zero_iff.1 h]; decide
  | succ n ih =>
    intro l h hd
    have hne : l ≠ [] := fun e => by rw [e] at h; cases h
    obtain ⟨m, b, rfl⟩ : ∃ m b, l = m ++ [b] := ⟨l.dropLast, l.getLast hne, (List.dropLast_concat_getLast hne).symm⟩
    have hb : 48 ≤ b.toNat ∧ b.toNat ≤ 57 := of_decide_eq_true (hd b (by simp))
    have h1 := ih m (by simpa using h) fun x hx => hd x (by simp [hx])
    rw [valD_app]
    show 10 * valD m 0 + (b.toNat - 48) < _
    rw [Nat.pow_succ]
    omega
theorem valD_small (l : List UInt8) (h : l.length ≤ 10) (hd : ∀ b ∈ l, isDg b = true) : valD l 0 < 10000000000 := by
  have h1 := valD_bound l.length l rfl hd
  have h2 : 10 ^ l.length ≤ 10 ^ 10 := Nat.pow_le_pow_right (by decide) h
  have h3 : (10 : Nat) ^ 10 = 10000000000 := by decide
  omega
theorem numW_bad {wd : Nat} (hw : Wd wd) {l : List UInt8} (h : l = [] ∨ 10 < l.length ∨ (l.head? = some 48 ∧ 1 < l.length) ∨ ∃ b ∈ l, isDg b = false) : numW wd l = none := by
  refine numW_none hw fun u hu e => ?_
  subst e
  have hu' : u < 4294967296 := by
    have : 2 ^ wd ≤ 2 ^ 32 := Nat.pow_le_pow_right (by decide) (by rcases hw with rfl | rfl | rfl <;> decide)
    have e : (2 : Nat) ^ 32 = 4294967296 := by decide
    omega
  rcases h with h | h | ⟨h, h2⟩ | ⟨b, hb, h⟩
  · exact dd_ne u h
  · have := dd_len10 u hu'; omega
  · rw [dd_head u h, show dd 0 = [UInt8.ofNat (48 + 0)] from Lib.decDigits_one (by decide)] at h2
    exact absurd h2 (by decide)
  · rw [dd_isDg u b hb] at h; cases h
theorem numW_good {wd : Nat} (hw : Wd wd) {l : List UInt8} (h1 : l ≠ []) (h2 : ∀ b ∈ l, isDg b = true) (h3 : l.head? = some 48 → l.length = 1) : numW wd l = if valD l 0 < 2 ^ wd then some (valD l 0) else none := by
  have e := dd_valD l.length l rfl h1 h2 h3
  by_cases h : valD l 0 < 2 ^ wd
  · rw [if_pos h]
    exact (numW_iff hw).2 ⟨e.symm, h⟩
  · rw [if_neg h]
    refine numW_none hw fun u hu he => h ?_
    rw [he, valD_dd]
    exact hu
set_option maxRecDepth 100000 in
set_option maxHeartbeats 8000000 in
theorem refNum_any (s : ByteArray) (hs : s.size ≤ 100000) (wd : Nat) (hw : Wd wd) (w : World) :
    Calls Tryz.prog 17 #[.string s, .int .i64 ((2 ^ wd : Nat) : Int)] w fun e w' => (∃ x : Nat, e = .returned (.tuple #[.int .i64 x, .bool (numW wd s.data.toList).isSome]) ∧ ∀ u, numW wd s.data.toList = some u → x = u) ∧ w' = w := by
  obtain ⟨M, hM⟩ : ∃ M, 2 ^ wd = M := ⟨_, rfl⟩
  rw [hM]
  have hlen : s.data.toList.length = s.size := Array.length_toList
  obtain ⟨l, hl⟩ : ∃ l, s.data.toList = l := ⟨_, rfl⟩
  have HIX : Hid (∀ (p : Nat) (b : UInt8), l[p]? = some b → ∀ W, (Instr.index 9 (.string s) (.int .i64 p)).run Tryz.prog W = .ok (.int .u8 b.toNat) W) := Lib.hid fun p b h W => ixQ s p b (by rw [hl]; exact h) W
  rw [hl] at hlen ⊢
  clear hl
  have hno : numW wd l = none → (∃ x : Nat, Ending.returned (.tuple #[.int .i64 0, .bool false]) = .returned (.tuple #[.int .i64 x, .bool (numW wd l).isSome]) ∧ ∀ u, numW wd l = some u → x = u) := fun h => ⟨0, by rw [h]; rfl, fun u hu => by rw [h] at hu; cases hu⟩
  have HNO := Lib.hid hno
  clear hno
  by_cases h0 : s.size = 0
  · have HB := Lib.hid (HNO.out (numW_bad hw (.inl (List.length_eq_zero_iff.1 (by omega)))))
    have g0 : ((s.size : Int) == 0) = true := beq_iff_eq.2 (by omega)
    clear HNO HIX
    go_enter Tryz.func17, Tryz.ntmps17
    go_wp2
    go_ret2
    exact ⟨HB.out, rfl⟩
  have g0 : ((s.size : Int) == 0) = false := beq_eq_false_iff_ne.2 (by omega)
  by_cases h10 : 10 < s.size
  · have HB := Lib.hid (HNO.out (numW_bad hw (.inr (.inl (by omega)))))
    have g1 : decide ((s.size : Int) > 10) = true := decide_eq_true (by omega)
    clear HNO HIX
    go_enter Tryz.func17, Tryz.ntmps17
    go_wp2
    go_ret2
    exact ⟨HB.out, rfl⟩
  have g1 : decide ((s.size : Int) > 10) = false := decide_eq_false (by omega)
  obtain ⟨b0, hb0⟩ : ∃ b, l[0]? = some b := ⟨_, List.getElem?_eq_getElem (by omega)⟩
  have hh0 : l.head? = some b0 := by rw [List.head?_eq_getElem?]; exact hb0
  have ix0 : ∀ W, (Instr.index 9 (.string s) (.int .i64 0)).run Tryz.prog W = .ok (.int .u8 b0.toNat) W := HIX.out 0 b0 hb0
  obtain ⟨x, hx⟩ : ∃ x, ((b0.toNat : Int) == 48) = x := ⟨_, rfl⟩
  obtain ⟨y, hy⟩ : ∃ y, decide ((s.size : Int) > 1) = y := ⟨_, rfl⟩
  by_cases hxy : x = true ∧ y = true
  · obtain ⟨rfl, rfl⟩ := hxy
    have e48 : b0 = 48 := UInt8.toNat_inj.1 (by have := beq_iff_eq.1 hx; show b0.toNat = 48; omega)
    have HB := Lib.hid (HNO.out (numW_bad hw (.inr (.inr (.inl ⟨by rw [hh0, e48], by have := of_decide_eq_true hy; omega⟩)))))
    clear HNO HIX
    go_enter Tryz.func17, Tryz.ntmps17
    go_wp2
    go_ret2
    exact ⟨HB.out, rfl⟩
  · have HC : Hid (l.head? = some 48 → l.length = 1) := Lib.hid fun h => by
      rw [hh0] at h
      obtain rfl : b0 = 48 := Option.some.inj h
      have hxt : x = true := by rw [← hx]; decide
      have hyf : y = false := by
        cases y with
        | false => rfl
        | true => exact absurd ⟨hxt, rfl⟩ hxy
      rw [hyf] at hy
      have := of_decide_eq_false hy
      omega
    have hxy2 : (x && y) = false := by
      cases x with
      | false => rfl
      | true => cases y with
        | false => rfl
        | true => exact absurd ⟨rfl, rfl⟩ hxy
    have HLN := Lib.hid hlen
    clear hxy hh0 hb0
    cases x <;> cases y <;> first | (exfalso; exact absurd hxy2 (by decide)) | skip
    all_goals
      go_enter Tryz.func17, Tryz.ntmps17
      go_wp2
      go_loopw [6, 7] (fun v i wr => ∃ q : Nat, q ≤ l.length ∧ v = .int .i64 (valD (l.take q) 0 : Nat) ∧ i = .int .i64 q ∧ (∀ b ∈ l.take q, isDg b = true) ∧ wr = w) (fun _ i _ => l.length - (intOf i).toNat)
    all_goals first
      | (case atStart => exact ⟨0, Nat.zero_le _, rfl, rfl, by simp, rfl⟩)
      | skip
    all_goals
      obtain ⟨q, hq, rfl, rfl, hd, rfl⟩ := hrel
      have hLN := HLN.out
      by_cases hlt : q < l.length
      · obtain ⟨b, hb⟩ : ∃ b, l[q]? = some b := ⟨_, List.getElem?_eq_getElem hlt⟩
        have hix := HIX.out q b hb
        have htk : l.take (q + 1) = l.take q ++ [b] := by rw [List.take_add_one, hb]; rfl
        have hmem : b ∈ l := List.mem_of_getElem? hb
        have hsm := valD_small (l.take q) (by rw [List.length_take]; omega) hd
        have k1 : (q : Int) < (s.size : Int) := by omega
        have k2 : (0 : Int) ≤ (q : Int) := by omega
        by_cases hlo : b.toNat < 48
        · have HB := Lib.hid (HNO.out (numW_bad hw (.inr (.inr (.inr ⟨b, hmem, decide_eq_false (by omega)⟩)))))
          have k3 : decide ((b.toNat : Int) < 48) = true := decide_eq_true (by omega)
          clear HNO HIX hb hlo hmem hd
          go_wp2
          go_ret2
          exact ⟨HB.out, rfl⟩
        · by_cases hhi : 57 < b.toNat
          · have HB := Lib.hid (HNO.out (numW_bad hw (.inr (.inr (.inr ⟨b, hmem, decide_eq_false (by omega)⟩)))))
            have k3 : decide ((b.toNat : Int) < 48) = false := decide_eq_false (by omega)
            have k4 : decide ((b.toNat : Int) > 57) = true := decide_eq_true (by omega)
            clear HNO HIX hb hlo hmem hd
            go_wp2
            go_ret2
            exact ⟨HB.out, rfl⟩
          · have k3 : decide ((b.toNat : Int) < 48) = false := decide_eq_false (by omega)
            have k4 : decide ((b.toNat : Int) > 57) = false := decide_eq_false (by omega)
            have HD : Hid (∀ b ∈ l.take (q + 1), isDg b = true) := Lib.hid fun x hx => by
              rw [htk, List.mem_append, List.mem_singleton] at hx
              rcases hx with hx | rfl
              · exact hd x hx
              · exact decide_eq_true ⟨by omega, by omega⟩
            have HV : Hid (valD (l.take (q + 1)) 0 = 10 * valD (l.take q) 0 + (b.toNat - 48)) := Lib.hid (by rw [htk, valD_app]; rfl)
            generalize valD (l.take q) 0 = V at *
            generalize b.toNat = B at *
            have m1 : IntKind.i64.wrap (10 * (V : Int)) = 10 * (V : Int) := IntWalk.i64_in _ (by omega)
            have m2 : IntKind.u8.wrap ((B : Int) - 48) = (B : Int) - 48 := IntWalk.u8_in _ (by omega)
            have m3 : IntKind.i64.wrap ((B : Int) - 48) = (B : Int) - 48 := IntWalk.i64_in _ (by omega)
            have m4 : IntKind.i64.wrap (10 * (V : Int) + ((B : Int) - 48)) = 10 * (V : Int) + ((B : Int) - 48) := IntWalk.i64_in _ (by omega)
            clear HNO HIX hb hmem hd htk
            go_wp2
            exact ⟨⟨q + 1, by omega, by rw [HV.out]; congr 1; omega, by go_num, HD.out, by trivial⟩, by simp [intOf]; omega⟩
      · obtain rfl : q = l.length := by omega
        rw [List.take_length] at hd ⊢
        have hsm := valD_small l (by omega) hd
        have hg := numW_good hw (fun e => h0 (by rw [e] at hLN; simpa using hLN.symm)) hd HC.out
        rw [hM] at hg
        have k1 : ¬ (l.length : Int) < (s.size : Int) := by omega
        generalize valD l 0 = V at *
        clear HNO HIX hd
        by_cases hv : V < M
        · rw [if_pos hv] at hg
          have k5 : decide ((V : Int) < (M : Int)) = true := decide_eq_true (by omega)
          have HB : Hid (∃ x : Nat, Ending.returned (.tuple #[.int .i64 (V : Int), .bool true]) = .returned (.tuple #[.int .i64 x, .bool (numW wd l).isSome]) ∧ ∀ u, numW wd l = some u → x = u) := Lib.hid ⟨V, by rw [hg]; rfl, fun u hu => by rw [hg] at hu; exact Option.some.inj hu⟩
          clear hg
          go_wp2
          go_ret2
          exact ⟨HB.out, rfl⟩
        · rw [if_neg hv] at hg
          have k5 : decide ((V : Int) < (M : Int)) = false := decide_eq_false (by omega)
          have HB : Hid (∃ x : Nat, Ending.returned (.tuple #[.int .i64 (V : Int), .bool false]) = .returned (.tuple #[.int .i64 x, .bool (numW wd l).isSome]) ∧ ∀ u, numW wd l = some u → x = u) := Lib.hid ⟨V, by rw [hg]; rfl, fun u hu => by rw [hg] at hu; cases hu⟩
          clear hg
          go_wp2
          go_ret2
          exact ⟨HB.out, rfl⟩
end Go.Proofs.YtebeoadmdflfcaaGreatDoor
