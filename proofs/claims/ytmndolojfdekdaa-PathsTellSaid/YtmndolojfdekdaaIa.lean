/-
  Contracts of inst.codes and inst.Of, and of the reference's Of: each computes what the named plain function says, for every code.
-/
import Derived.Test.YtmndolojfdekdaaWa
import Derived.Test.YtmndolojfdekdaaMem
import Derived.Deep.QuietTactic
import Derived.BigQuiet
namespace Go.Proofs.Ytmndolojfdekdaa
open Go.RowKit

def codesKV : List (Int × Int) := [(32, 1), (0, 2), (96, 3), (128, 4), (1, 5), (97, 6), (129, 7), (2, 8), (3, 9), (7, 10), (135, 11), (132, 12), (5, 13), (6, 14), (22, 15), (4, 16), (20, 17), (36, 18), (52, 19), (68, 20), (84, 21), (100, 22), (116, 23), (164, 24), (21, 25), (37, 26), (53, 27), (69, 28)]

set_option maxRecDepth 100000 in
set_option maxHeartbeats 4000000 in
theorem codes_any (w : World) : Calls Try.prog 80 #[] w fun e w' => ∃ b, e = .returned (.map (some b)) ∧ w.heap.size ≤ b ∧ b < w'.heap.size ∧ IsMap .u16 .i64 w' b codesKV ∧ Below w.heap.size w w' := by
  have hmm := @run_makeMap Try.prog
  have hm := IsMap.new .u16 .i64 w
  have hB : Below w.heap.size w (w.alloc (.map #[] 0)) := (Below.refl _ _).alloc (Nat.le_refl _) _
  go_enter Try.func80, Try.ntmps80
  go_wp2_with (refine wpList_ins rfl _ _ _ rfl Try.underlying158 Try.underlying68 _ _ rfl rfl rfl hm (by rfl) hB (Nat.le_refl _) ?_; clear hm hB; intro w' hm hB)
  go_ret
  exact ⟨_, rfl, Nat.le_refl _, by obtain ⟨es, c, h1, _⟩ := hm; exact (Array.getElem?_eq_some_iff.1 h1).1, hm, hB⟩

/-- What Of answers: the kind, whether its other side is X, whether there is one. -/
def ofF (code : Int) : Int × Bool × Bool :=
  match assoc codesKV code with
  | some k => (k, false, true)
  | none => if 16 ≤ (assoc codesKV ((code - 8) % 65536)).getD 0 then ((assoc codesKV ((code - 8) % 65536)).getD 0, true, true) else (0, false, false)

set_option maxRecDepth 100000 in
set_option maxHeartbeats 4000000 in
theorem of_any (code : Int) (w : World) (_h0 : 0 ≤ code) (_h1 : code ≤ 65535) :
    Calls Try.prog 55 #[.int .u16 code] w fun e w' => e = .returned (.tuple #[.int .i64 (ofF code).1, .bool (ofF code).2.1, .bool (ofF code).2.2]) ∧ Below w.heap.size w w' := by
  have HZ := Lib.hid Try.zeroValue78
  rcases ha : assoc codesKV code with _ | k
  · have HA := Lib.hid ha
    have hA0 : ∀ v, ofF code = v → Hid (ofF code = v) := fun _ h => h
    by_cases hk : 16 ≤ (assoc codesKV ((code - 8) % 65536)).getD 0
    · have e1 : ofF code = ((assoc codesKV ((code - 8) % 65536)).getD 0, true, true) := by simp [ofF, ha, hk]
      rw [e1]
      dsimp only
      obtain ⟨k, hkk⟩ : ∃ k, (assoc codesKV ((code - 8) % 65536)).getD 0 = k := ⟨_, rfl⟩
      rw [hkk] at hk ⊢
      have HK : Hid ((assoc codesKV (IntKind.u16.wrap (code - 8))).getD 0 = k) := by rw [IntKind.wrap_u16]; exact hkk
      clear ha e1 hkk hA0
      go_enter Try.func55, Try.ntmps55
      go_wp2_with fail
      refine (codes_any _).mono ?_
      rintro e w1 ⟨b, rfl, hb0, hb1, hm, hB⟩
      have hl := hm.look Try.underlying158 Try.underlying68 (Try.zeroValue78 w1) code true
      have hl2 := hm.look Try.underlying158 Try.underlying68 (Try.zeroValue78 w1) (IntKind.u16.wrap (code - 8)) false
      rw [HA.out] at hl
      rw [HK.out] at hl2
      simp only [Option.getD_none, Option.isSome_none, if_true, if_false, Bool.false_eq_true] at hl hl2
      go_wp2
      go_ret3
      exact ⟨rfl, hB⟩
    · have e1 : ofF code = (0, false, false) := by simp only [ofF, ha]; rw [if_neg hk]
      rw [e1]
      dsimp only
      obtain ⟨k, hkk⟩ : ∃ k, (assoc codesKV ((code - 8) % 65536)).getD 0 = k := ⟨_, rfl⟩
      rw [hkk] at hk
      have hk' : k < 16 := by omega
      have HK : Hid ((assoc codesKV (IntKind.u16.wrap (code - 8))).getD 0 = k) := by rw [IntKind.wrap_u16]; exact hkk
      clear ha e1 hkk hA0 hk
      go_enter Try.func55, Try.ntmps55
      go_wp2_with fail
      refine (codes_any _).mono ?_
      rintro e w1 ⟨b, rfl, hb0, hb1, hm, hB⟩
      have hl := hm.look Try.underlying158 Try.underlying68 (Try.zeroValue78 w1) code true
      have hl2 := hm.look Try.underlying158 Try.underlying68 (Try.zeroValue78 w1) (IntKind.u16.wrap (code - 8)) false
      rw [HA.out] at hl
      rw [HK.out] at hl2
      simp only [Option.getD_none, Option.isSome_none, if_true, if_false, Bool.false_eq_true] at hl hl2
      go_wp2
      go_ret3
      exact ⟨rfl, hB⟩
  · have e1 : ofF code = (k, false, true) := by simp [ofF, ha]
    rw [e1]
    have HA := Lib.hid ha
    clear ha e1
    go_enter Try.func55, Try.ntmps55
    go_wp2_with fail
    refine (codes_any _).mono ?_
    rintro e w1 ⟨b, rfl, hb0, hb1, hm, hB⟩
    have hl := hm.look Try.underlying158 Try.underlying68 (Try.zeroValue78 w1) code true
    rw [HA.out] at hl
    simp only [Option.getD_some, Option.isSome_some, if_true] at hl
    go_wp2
    go_ret3
    exact ⟨rfl, hB⟩

def aloneL : List Int := [32, 0, 96, 128, 1, 97, 129, 2, 3, 7, 135, 132, 5, 6, 22]
def bothL : List Int := [4, 20, 36, 52, 68, 84, 100, 116, 164, 21, 37, 53, 69]
theorem of_alone : ∀ i : Nat, i < 15 → ofF (aloneL[i]?.getD 0) = ((i : Int) + 1, false, true) := by decide +kernel
theorem of_both : ∀ i : Nat, i < 13 → ofF (bothL[i]?.getD 0) = ((i : Int) + 16, false, true) ∧ ofF (bothL[i]?.getD 0 + 8) = ((i : Int) + 16, true, true) := by decide +kernel
theorem keys_in : ∀ p ∈ codesKV, p.1 ∈ aloneL ∨ p.1 ∈ bothL := by decide +kernel
theorem keys_big : ∀ p ∈ codesKV, 16 ≤ p.2 → p.1 ∈ bothL := by decide +kernel
theorem both_small : ∀ x ∈ bothL, 0 ≤ x ∧ x ≤ 255 := by decide +kernel
theorem of_none (code : Int) (h0 : 0 ≤ code) (h1 : code ≤ 65535) (ha : ∀ i : Nat, i < 15 → code ≠ aloneL[i]?.getD 0) (hb : ∀ i : Nat, i < 13 → code ≠ bothL[i]?.getD 0 ∧ code ≠ bothL[i]?.getD 0 + 8) : ofF code = (0, false, false) := by
  have hna : code ∉ aloneL := fun h => by
    obtain ⟨i, hi, he⟩ := List.mem_iff_getElem.1 h
    exact ha i hi (by rw [List.getElem?_eq_getElem hi]; exact he.symm)
  have hnb : code ∉ bothL ∧ code - 8 ∉ bothL := by
    constructor
    · intro h
      obtain ⟨i, hi, he⟩ := List.mem_iff_getElem.1 h
      exact (hb i hi).1 (by rw [List.getElem?_eq_getElem hi]; exact he.symm)
    · intro h
      obtain ⟨i, hi, he⟩ := List.mem_iff_getElem.1 h
      exact (hb i hi).2 (by rw [List.getElem?_eq_getElem hi]; show code = bothL[i] + 8; omega)
  have h1' : assoc codesKV code = none := by
    unfold assoc
    rw [List.find?_eq_none.2]; rfl
    intro p hp he
    have hp1 : p.1 = code := by simpa using he
    rcases keys_in p hp with h | h
    · exact hna (hp1 ▸ h)
    · exact hnb.1 (hp1 ▸ h)
  have h2' : ¬ 16 ≤ (assoc codesKV ((code - 8) % 65536)).getD 0 := by
    intro hge
    unfold assoc at hge
    rcases hf : codesKV.find? (fun p => p.1 == (code - 8) % 65536) with _ | p
    · rw [hf] at hge; simp at hge
    · rw [hf] at hge
      have hp := List.mem_of_find?_eq_some hf
      have he : p.1 = (code - 8) % 65536 := by simpa using List.find?_some hf
      have hin := keys_big p hp (by simpa using hge)
      have hr := both_small p.1 hin
      have : p.1 = code - 8 := by omega
      exact hnb.2 (this ▸ hin)
  simp only [ofF, h1']
  rw [if_neg h2']
theorem alone_cells (w : World) (t : TypeId) (i : Nat) (hi : i < 15) : (w.alloc (.cells #[.int .i64 32, .int .i64 0, .int .i64 96, .int .i64 128, .int .i64 1, .int .i64 97, .int .i64 129, .int .i64 2, .int .i64 3, .int .i64 7, .int .i64 135, .int .i64 132, .int .i64 5, .int .i64 6, .int .i64 22] t)).cell? ⟨w.heap.size, i, none⟩ = some (.int .i64 (aloneL[i]?.getD 0)) := by
  rw [World.cell?_alloc_at _ _ _ _ rfl]
  match i, hi with
  | 0, _ | 1, _ | 2, _ | 3, _ | 4, _ | 5, _ | 6, _ | 7, _ | 8, _ | 9, _ | 10, _ | 11, _ | 12, _ | 13, _ | 14, _ => rfl
theorem both_cells (w : World) (t : TypeId) (i : Nat) (hi : i < 13) : (w.alloc (.cells #[.int .i64 4, .int .i64 20, .int .i64 36, .int .i64 52, .int .i64 68, .int .i64 84, .int .i64 100, .int .i64 116, .int .i64 164, .int .i64 21, .int .i64 37, .int .i64 53, .int .i64 69] t)).cell? ⟨w.heap.size, i, none⟩ = some (.int .i64 (bothL[i]?.getD 0)) := by
  rw [World.cell?_alloc_at _ _ _ _ rfl]
  match i, hi with
  | 0, _ | 1, _ | 2, _ | 3, _ | 4, _ | 5, _ | 6, _ | 7, _ | 8, _ | 9, _ | 10, _ | 11, _ | 12, _ => rfl

set_option maxRecDepth 100000 in
set_option maxHeartbeats 4000000 in
theorem refOf_any (code : Int) (w : World) (h0 : 0 ≤ code) (h1 : code ≤ 65535) :
    Calls Try.prog 41 #[.int .u16 code] w fun e w' => e = .returned (.tuple #[.int .i64 (ofF code).1, .bool (ofF code).2.1]) ∧ Below w.heap.size w w' := by
  have hca := alone_cells w 3
  have HCA := Lib.hid hca
  clear hca
  go_enter Try.func41, Try.ntmps41
  go_wp2
  obtain ⟨W1, hW1⟩ : ∃ W1, w.alloc (.cells #[.int .i64 32, .int .i64 0, .int .i64 96, .int .i64 128, .int .i64 1, .int .i64 97, .int .i64 129, .int .i64 2, .int .i64 3, .int .i64 7, .int .i64 135, .int .i64 132, .int .i64 5, .int .i64 6, .int .i64 22] 3) = W1 := ⟨_, rfl⟩
  have hB1 : Below w.heap.size w W1 := by rw [← hW1]; exact (Below.refl _ _).alloc (Nat.le_refl _) _
  have HC1 : Hid (∀ i, i < 15 → W1.cell? ⟨w.heap.size, i, none⟩ = some (.int .i64 (aloneL[i]?.getD 0))) := by rw [← hW1]; exact HCA.out
  rw [hW1]
  clear hW1 HCA
  go_loop [5] (fun i => ∃ k : Nat, k ≤ 15 ∧ i = .int .i64 k ∧ ∀ j, j < k → code ≠ aloneL[j]?.getD 0) (fun i => 15 - (intOf i).toNat)
  case atStart => exact ⟨0, by decide, rfl, fun j h => by omega⟩
  case round =>
    obtain ⟨k, hk, rfl, hall⟩ := hrel
    have HL := Lib.hid hall
    clear hall
    by_cases hlt : k < 15
    · have hcell := HC1.out k hlt
      obtain ⟨y, hy⟩ : ∃ y, aloneL[k]?.getD 0 = y := ⟨_, rfl⟩
      rw [hy] at hcell
      have HY := Lib.hid hy
      clear hy
      by_cases hc : code = y
      · have hq : (code == y) = true := by simpa using hc
        have hr : ofF code = ((k : Int) + 1, false, true) := by rw [hc, ← HY.out]; exact of_alone k hlt
        have HR := Lib.hid hr
        clear hc hr
        go_wp2
        go_ret2
        rw [HR.out]
        exact ⟨rfl, hB1⟩
      · have hq : (code == y) = false := by simpa using hc
        have HN := Lib.hid hc
        clear hc
        go_wp2
        go_round
        case rel => exact ⟨k + 1, by omega, by go_num, fun j hj => (Nat.lt_or_ge j k).elim (HL.out j) (fun h => by rw [show j = k from by omega, HY.out]; exact HN.out)⟩
        case measure => simp [intOf]; omega
    · obtain rfl : k = 15 := by omega
      have hcb := both_cells W1 3
      have HCB := Lib.hid hcb
      clear hcb
      go_wp2
      obtain ⟨W2, hW2⟩ : ∃ W2, W1.alloc (.cells #[.int .i64 4, .int .i64 20, .int .i64 36, .int .i64 52, .int .i64 68, .int .i64 84, .int .i64 100, .int .i64 116, .int .i64 164, .int .i64 21, .int .i64 37, .int .i64 53, .int .i64 69] 3) = W2 := ⟨_, rfl⟩
      have hB2 : Below w.heap.size w W2 := by rw [← hW2]; exact hB1.alloc hB1.size _
      have HC2 : Hid (∀ i, i < 13 → W2.cell? ⟨W1.heap.size, i, none⟩ = some (.int .i64 (bothL[i]?.getD 0))) := by rw [← hW2]; exact HCB.out
      rw [hW2]
      clear hW2 HCB
      go_loop [7] (fun i => ∃ k : Nat, k ≤ 13 ∧ i = .int .i64 k ∧ ∀ j, j < k → code ≠ bothL[j]?.getD 0 ∧ code ≠ bothL[j]?.getD 0 + 8) (fun i => 13 - (intOf i).toNat)
      case atStart => exact ⟨0, by decide, rfl, fun j h => by omega⟩
      case round =>
        obtain ⟨k, hk, rfl, hall⟩ := hrel
        have HM := Lib.hid hall
        clear hall
        by_cases hlt : k < 13
        · have hcell := HC2.out k hlt
          obtain ⟨y, hy⟩ : ∃ y, bothL[k]?.getD 0 = y := ⟨_, rfl⟩
          have hyb : 0 ≤ y ∧ y ≤ 255 := by rw [← hy]; have : ∀ i : Nat, i < 13 → 0 ≤ bothL[i]?.getD 0 ∧ bothL[i]?.getD 0 ≤ 255 := by decide +kernel
                                           exact this k hlt
          obtain ⟨hy0, hy1⟩ := hyb
          rw [hy] at hcell
          have HY := Lib.hid hy
          clear hy
          by_cases hc : code = y
          · have hq : (code == y) = true := by simpa using hc
            have hr : ofF code = ((k : Int) + 16, false, true) := by rw [hc, ← HY.out]; exact (of_both k hlt).1
            have HR := Lib.hid hr
            clear hc hr
            go_wp2
            go_ret2
            rw [HR.out]
            exact ⟨rfl, hB2⟩
          · have hq : (code == y) = false := by simpa using hc
            have HN := Lib.hid hc
            clear hc
            by_cases hc8 : code = y + 8
            · have hq8 : (code == y + 8) = true := by simpa using hc8
              have hr : ofF code = ((k : Int) + 16, true, true) := by rw [hc8, ← HY.out]; exact (of_both k hlt).2
              have HR := Lib.hid hr
              clear hc8 hr
              go_wp2
              go_ret2
              rw [HR.out]
              exact ⟨rfl, hB2⟩
            · have hq8 : (code == y + 8) = false := by simpa using hc8
              have HN8 := Lib.hid hc8
              clear hc8
              go_wp2
              go_round
              case rel => exact ⟨k + 1, by omega, by go_num, fun j hj => (Nat.lt_or_ge j k).elim (HM.out j) (fun h => by rw [show j = k from by omega, HY.out]; exact ⟨HN.out, HN8.out⟩)⟩
              case measure => simp [intOf]; omega
        · obtain rfl : k = 13 := by omega
          have hr : ofF code = (0, false, false) := of_none code h0 h1 HL.out HM.out
          have HR := Lib.hid hr
          clear hr
          go_wp2
          go_ret2
          rw [HR.out]
          exact ⟨rfl, hB2⟩
end Go.Proofs.Ytmndolojfdekdaa
