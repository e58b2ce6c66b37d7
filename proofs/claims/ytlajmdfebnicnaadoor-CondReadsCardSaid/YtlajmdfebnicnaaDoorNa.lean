/-
  The contract of the document's own Number of layer 10: what it makes of every text.
-/
import Derived.Test.YtlajmdfebnicnaaDoorGw
import Derived.RegionTactic
namespace Go.Proofs.YtlajmdfebnicnaaDoor
open Go.Shelf Go.RowKit
set_option linter.unusedVariables false

/-- A figure's value, as the document says it. -/
def dgF (c : UInt8) : Nat := if 48 ≤ c.toNat ∧ c.toNat ≤ 57 then c.toNat - 48 else if 97 ≤ c.toNat ∧ c.toNat ≤ 102 then c.toNat - 87 else 16
/-- What the document makes of figures behind a number. -/
def lpN (b : Nat) (n : Nat) : List UInt8 → Option Nat
  | [] => some n
  | c :: l => if b ≤ dgF c ∨ (18446744073709551615 - dgF c) / b < n then none else lpN b (n * b + dgF c) l
def num1 (b : Nat) (l : List UInt8) : Option Nat := if l = [] ∨ (l.head? = some 48 ∧ 1 < l.length) then none else lpN b 0 l
def numO (l : List UInt8) : Option Nat := if 2 < l.length ∧ List.isPrefixOf [48, 120] l = true then num1 16 (l.drop 2) else num1 10 l

theorem lpN_app (b : Nat) (l m : List UInt8) : ∀ n, lpN b n (l ++ m) = (lpN b n l).bind fun k => lpN b k m := by
  induction l with
  | nil => intro n; rfl
  | cons c l ih =>
    intro n
    rw [List.cons_append, lpN, lpN]
    split
    · rfl
    · exact ih _
theorem lpN_lt (b : Nat) (hb : 0 < b) (l : List UInt8) : ∀ n v, n < 18446744073709551616 → lpN b n l = some v → v < 18446744073709551616 := by
  induction l with
  | nil => intro n v hn h; rw [lpN] at h; cases h; exact hn
  | cons c l ih =>
    intro n v hn h
    rw [lpN] at h
    split at h
    · exact nomatch h
    · rename_i hc
      refine ih _ v ?_ h
      have h1 : n ≤ (18446744073709551615 - dgF c) / b := by omega
      have h2 := (Nat.le_div_iff_mul_le hb).1 h1
      have h3 : dgF c ≤ 16 := by
        unfold dgF
        split
        · omega
        · split <;> omega
      omega
theorem dgF_dig (d : Nat) (h : d < 10) : dgF (UInt8.ofNat (48 + d)) = d := by
  unfold dgF
  rw [dig_nat h, if_pos (by omega)]
  omega
theorem dgF_hex (d : Nat) (h : d < 16) : dgF (hexC d) = d := by
  have h' : d = 0 ∨ d = 1 ∨ d = 2 ∨ d = 3 ∨ d = 4 ∨ d = 5 ∨ d = 6 ∨ d = 7 ∨ d = 8 ∨ d = 9 ∨ d = 10 ∨ d = 11 ∨ d = 12 ∨ d = 13 ∨ d = 14 ∨ d = 15 := by omega
  rcases h' with rfl | rfl | rfl | rfl | rfl | rfl | rfl | rfl | rfl | rfl | rfl | rfl | rfl | rfl | rfl | rfl <;> decide +kernel
theorem dgF_ten {c : UInt8} (h : dgF c < 10) : c = UInt8.ofNat (48 + dgF c) := by
  have h1 : 48 ≤ c.toNat ∧ c.toNat ≤ 57 := by
    unfold dgF at h
    by_cases q : 48 ≤ c.toNat ∧ c.toNat ≤ 57
    · exact q
    · rw [if_neg q] at h
      split at h <;> omega
  have h2 : dgF c = c.toNat - 48 := by unfold dgF; rw [if_pos h1]
  rw [← UInt8.toNat_inj, dig_nat h, h2]
  omega
theorem dgF_sixteen {c : UInt8} (h : dgF c < 16) : c = hexC (dgF c) := by
  unfold hexC
  by_cases q : 48 ≤ c.toNat ∧ c.toNat ≤ 57
  · have h2 : dgF c = c.toNat - 48 := by unfold dgF; rw [if_pos q]
    rw [if_pos (by omega), ← UInt8.toNat_inj, UInt8.toNat_ofNat', h2]
    show _ = (48 + (c.toNat - 48)) % 256
    omega
  · by_cases q2 : 97 ≤ c.toNat ∧ c.toNat ≤ 102
    · have h2 : dgF c = c.toNat - 87 := by unfold dgF; rw [if_neg q, if_pos q2]
      rw [if_neg (by omega), ← UInt8.toNat_inj, UInt8.toNat_ofNat', h2]
      show _ = (87 + (c.toNat - 87)) % 256
      omega
    · have h2 : dgF c = 16 := by unfold dgF; rw [if_neg q, if_neg q2]
      omega
theorem lpN_one (b n : Nat) (c : UInt8) : lpN b n [c] = if b ≤ dgF c ∨ (18446744073709551615 - dgF c) / b < n then none else some (n * b + dgF c) := by
  rw [lpN]
  split
  · rfl
  · rw [lpN]
theorem lpN_dec : ∀ (u : Nat), u < 18446744073709551616 → lpN 10 0 (Lib.decDigits u) = some u := by
  intro u
  induction u using Nat.strongRecOn with
  | _ u ih =>
    intro hu
    by_cases h : u < 10
    · rw [Lib.decDigits_one h, lpN_one, dgF_dig u h, if_neg (by omega)]
      congr 1
      omega
    · rw [Lib.decDigits, dif_neg h, lpN_app, ih (u / 10) (by omega) (by omega)]
      show lpN 10 (u / 10) [_] = _
      rw [lpN_one, dgF_dig (u % 10) (by omega), if_neg (by omega)]
      congr 1
      omega
theorem lpN_hex : ∀ (u : Nat), u < 18446744073709551616 → lpN 16 0 (hexL u) = some u := by
  intro u
  induction u using Nat.strongRecOn with
  | _ u ih =>
    intro hu
    by_cases h : u < 16
    · rw [hexL_small h, lpN_one, dgF_hex u h, if_neg (by omega)]
      congr 1
      omega
    · rw [hexL_more h, lpN_app, ih (u / 16) (by omega) (by omega)]
      show lpN 16 (u / 16) [_] = _
      rw [lpN_one, dgF_hex (u % 16) (by omega), if_neg (by omega)]
      congr 1
      omega
theorem head_appN {l m : List UInt8} (h : l ≠ []) : (l ++ m).head? = l.head? := by
  cases l with
  | nil => exact absurd rfl h
  | cons a l => rfl
theorem dec_head : ∀ (u : Nat), (Lib.decDigits u).head? = some 48 → u = 0 := by
  intro u
  induction u using Nat.strongRecOn with
  | _ u ih =>
    intro h
    by_cases hu : u < 10
    · rw [Lib.decDigits_one hu] at h
      have h1 : UInt8.ofNat (48 + u) = 48 := by simpa using h
      have h2 := dig_nat hu
      rw [h1] at h2
      have h3 : (48 : UInt8).toNat = 48 := rfl
      omega
    · rw [Lib.decDigits, dif_neg hu, head_appN (decDigits_ne _)] at h
      have := ih (u / 10) (by omega) h
      omega
theorem hexC_zero {d : Nat} (h : d < 16) (e : hexC d = 48) : d = 0 := by
  have h1 := dgF_hex d h
  rw [e] at h1
  exact h1.symm
theorem hexL_ne (u : Nat) : hexL u ≠ [] := by
  have := hexL_pos u
  intro e
  rw [e] at this
  simp at this
theorem hex_head : ∀ (u : Nat), (hexL u).head? = some 48 → u = 0 := by
  intro u
  induction u using Nat.strongRecOn with
  | _ u ih =>
    intro h
    by_cases hu : u < 16
    · rw [hexL_small hu] at h
      exact hexC_zero hu (by simpa using h)
    · rw [hexL_more hu, head_appN (hexL_ne _)] at h
      have := ih (u / 16) (by omega) h
      omega
theorem num1_dec (u : Nat) (hu : u < 18446744073709551616) : num1 10 (Lib.decDigits u) = some u := by
  rw [num1, if_neg, lpN_dec u hu]
  rintro (h | ⟨h1, h2⟩)
  · exact decDigits_ne u h
  · obtain rfl := dec_head u h1
    rw [Lib.decDigits_one (by omega)] at h2
    simp at h2
theorem num1_hex (u : Nat) (hu : u < 18446744073709551616) : num1 16 (hexL u) = some u := by
  rw [num1, if_neg, lpN_hex u hu]
  rintro (h | ⟨h1, h2⟩)
  · exact hexL_ne u h
  · obtain rfl := hex_head u h1
    rw [hexL_small (by omega)] at h2
    simp at h2
/-- Figures that are read are the number's own. -/
theorem lpN_own10 : ∀ (k : Nat) (l : List UInt8), l.length = k + 1 → ∀ v, (l.head? = some 48 → l.length ≤ 1) → lpN 10 0 l = some v → l = Lib.decDigits v := by
  intro k
  induction k with
  | zero =>
    intro l hl v _ h
    obtain ⟨c, rfl⟩ := List.length_eq_one_iff.1 hl
    rw [lpN_one] at h
    split at h
    · exact nomatch h
    · rename_i hc
      have hv : v = dgF c := by simpa using h.symm
      have hd : dgF c < 10 := by omega
      rw [hv, Lib.decDigits_one hd, ← dgF_ten hd]
  | succ k ih =>
    intro l hl v h0 h
    rcases List.eq_nil_or_concat l with rfl | ⟨L, c, rfl⟩
    · simp at hl
    · simp only [List.concat_eq_append] at hl h0 h ⊢
      have hL : L.length = k + 1 := by simpa using hl
      have hne : L ≠ [] := fun e => by rw [e] at hL; simp at hL
      rw [lpN_app] at h
      obtain ⟨w, hw, hs⟩ := Option.bind_eq_some_iff.1 h
      have hz : L.head? ≠ some 48 := fun e => by
        have h9 := h0 (by rw [head_appN hne]; exact e)
        rw [List.length_append, List.length_singleton] at h9
        omega
      have hLw := ih L hL w (fun e => absurd e hz) hw
      have hw0 : w ≠ 0 := fun e => hz (by rw [hLw, e, Lib.decDigits_one (by omega)]; rfl)
      rw [lpN_one] at hs
      split at hs
      · exact nomatch hs
      · rename_i hc
        have hv : w * 10 + dgF c = v := by simpa using hs
        have hd : dgF c < 10 := by omega
        rw [Lib.decDigits, dif_neg (by omega : ¬ v < 10), show v / 10 = w by omega, ← hLw, show v % 10 = dgF c by omega, ← dgF_ten hd]
theorem lpN_own16 : ∀ (k : Nat) (l : List UInt8), l.length = k + 1 → ∀ v, (l.head? = some 48 → l.length ≤ 1) → lpN 16 0 l = some v → l = hexL v := by
  intro k
  induction k with
  | zero =>
    intro l hl v _ h
    obtain ⟨c, rfl⟩ := List.length_eq_one_iff.1 hl
    rw [lpN_one] at h
    split at h
    · exact nomatch h
    · rename_i hc
      have hv : v = dgF c := by simpa using h.symm
      have hd : dgF c < 16 := by omega
      rw [hv, hexL_small hd, ← dgF_sixteen hd]
  | succ k ih =>
    intro l hl v h0 h
    rcases List.eq_nil_or_concat l with rfl | ⟨L, c, rfl⟩
    · simp at hl
    · simp only [List.concat_eq_append] at hl h0 h ⊢
      have hL : L.length = k + 1 := by simpa using hl
      have hne : L ≠ [] := fun e => by rw [e] at hL; simp at hL
      rw [lpN_app] at h
      obtain ⟨w, hw, hs⟩ := Option.bind_eq_some_iff.1 h
      have hz : L.head? ≠ some 48 := fun e => by
        have h9 := h0 (by rw [head_appN hne]; exact e)
        rw [List.length_append, List.length_singleton] at h9
        omega
      have hLw := ih L hL w (fun e => absurd e hz) hw
      have hw0 : w ≠ 0 := fun e => hz (by rw [hLw, e, hexL_small (by omega)]; rfl)
      rw [lpN_one] at hs
      split at hs
      · exact nomatch hs
      · rename_i hc
        have hv : w * 16 + dgF c = v := by simpa using hs
        have hd : dgF c < 16 := by omega
        rw [hexL_more (by omega : ¬ v < 16), show v / 16 = w by omega, ← hLw, show v % 16 = dgF c by omega, ← dgF_sixteen hd]
theorem num1_own10 {l : List UInt8} {v : Nat} (h : num1 10 l = some v) : l = Lib.decDigits v := by
  rw [num1] at h
  split at h
  · exact nomatch h
  · rename_i hc
    have hne : l ≠ [] := fun e => hc (.inl e)
    refine lpN_own10 (l.length - 1) l ?_ v (fun e => ?_) h
    · have := List.length_pos_iff.2 hne; omega
    · by_cases q : 1 < l.length
      · exact absurd (.inr ⟨e, q⟩) hc
      · omega
theorem num1_own16 {l : List UInt8} {v : Nat} (h : num1 16 l = some v) : l = hexL v := by
  rw [num1] at h
  split at h
  · exact nomatch h
  · rename_i hc
    have hne : l ≠ [] := fun e => hc (.inl e)
    refine lpN_own16 (l.length - 1) l ?_ v (fun e => ?_) h
    · have := List.length_pos_iff.2 hne; omega
    · by_cases q : 1 < l.length
      · exact absurd (.inr ⟨e, q⟩) hc
      · omega
theorem num1_lt {b : Nat} (hb : 0 < b) {l : List UInt8} {v : Nat} (h : num1 b l = some v) : v < 18446744073709551616 := by
  rw [num1] at h
  split at h
  · exact nomatch h
  · exact lpN_lt b hb l 0 v (by omega) h
theorem oxT_list (u : Nat) : (oxT u).data.toList = 48 :: 120 :: hexL u := by
  show ((⟨#[48, 120]⟩ : ByteArray) ++ hexT u).data.toList = _
  rw [ByteArray.data_append]
  simp
/-- A text is a number's in figures, or behind 0x, or none: and the document says so. -/
theorem numO_cases (s : ByteArray) : (∃ u, u < 18446744073709551616 ∧ s = dec u ∧ numO s.data.toList = some u) ∨ (∃ u, u < 18446744073709551616 ∧ s = oxT u ∧ numO s.data.toList = some u) ∨ ((∀ u, u < 18446744073709551616 → s ≠ dec u) ∧ (∀ u, u < 18446744073709551616 → s ≠ oxT u) ∧ numO s.data.toList = none) := by
  have hnd : ∀ u, ¬ List.isPrefixOf [48, 120] (Lib.decDigits u) = true := fun u e => by
    have h : List.isPrefixOf [48, 120] (Lib.decDigits u) = false := dec_no0x u
    rw [h] at e
    cases e
  by_cases hd : ∃ u, u < 18446744073709551616 ∧ s = dec u
  · obtain ⟨u, hu, rfl⟩ := hd
    refine .inl ⟨u, hu, rfl, ?_⟩
    show numO (Lib.decDigits u) = _
    rw [numO, if_neg (fun h => hnd u h.2), num1_dec u hu]
  by_cases ho : ∃ u, u < 18446744073709551616 ∧ s = oxT u
  · obtain ⟨u, hu, rfl⟩ := ho
    refine .inr (.inl ⟨u, hu, rfl, ?_⟩)
    rw [oxT_list, numO, if_pos ⟨by have := hexL_pos u; simp; omega, rfl⟩]
    exact num1_hex u hu
  refine .inr (.inr ⟨fun u hu e => hd ⟨u, hu, e⟩, fun u hu e => ho ⟨u, hu, e⟩, ?_⟩)
  rw [numO]
  split
  · rename_i hp
    cases hn : num1 16 (s.data.toList.drop 2) with
    | none => rfl
    | some v =>
      refine absurd ⟨v, num1_lt (by omega) hn, ?_⟩ ho
      have h1 := num1_own16 hn
      refine ByteArray.ext (Array.toList_inj.1 ?_)
      rw [oxT_list, ← h1]
      have h2 := hp.2
      match hl : s.data.toList with
      | [] => rw [hl] at h2; simp [List.isPrefixOf] at h2
      | [a] => rw [hl] at h2; simp [List.isPrefixOf] at h2
      | a :: b :: r =>
        rw [hl] at h2
        simp only [List.isPrefixOf, Bool.and_eq_true, beq_iff_eq] at h2
        obtain ⟨rfl, rfl, _⟩ := h2
        rfl
  · cases hn : num1 10 s.data.toList with
    | none => rfl
    | some v =>
      refine absurd ⟨v, num1_lt (by omega) hn, ?_⟩ hd
      have h1 := num1_own10 hn
      exact ByteArray.ext (Array.toList_inj.1 h1)
theorem dgF_le (c : UInt8) : dgF c ≤ 16 := by
  unfold dgF
  split
  · omega
  · split <;> omega
set_option maxHeartbeats 1000000 in
theorem digit_any (c : UInt8) (w : World) : Calls Tryd.prog 18 #[.int .u8 c.toNat] w fun e w' => e = .returned (.int .u64 (dgF c)) ∧ w = w' := by
  have hc : c.toNat < 256 := c.toNat_lt
  obtain ⟨x, hx⟩ : ∃ x, c.toNat = x := ⟨_, rfl⟩
  obtain ⟨d, hd⟩ : ∃ d, dgF c = d := ⟨_, rfl⟩
  have hdx : d = if 48 ≤ x ∧ x ≤ 57 then x - 48 else if 97 ≤ x ∧ x ≤ 102 then x - 87 else 16 := by rw [← hd, ← hx]; rfl
  rw [hd, hx]
  rw [hx] at hc
  clear hd hx
  by_cases h1 : 48 ≤ x
  · have g1 : (x : Int) ≥ 48 := by omega
    have g1' : decide ((x : Int) ≥ 48) = true := by simpa using g1
    by_cases h2 : x ≤ 57
    · rw [if_pos ⟨h1, h2⟩] at hdx
      have g2 : (x : Int) ≤ 57 := by omega
      have g2' : decide ((x : Int) ≤ 57) = true := by simpa using g2
      have v1 : IntKind.u8.wrap ((x : Int) - 48) = (d : Int) := by rw [IntKind.wrap_u8]; omega
      have v2 : IntKind.u64.wrap (d : Int) = (d : Int) := by rw [IntKind.wrap_u64]; omega
      clear hdx
      go_enter Tryd.func18, Tryd.ntmps18
      go_wp2
      go_ret
      exact ⟨rfl, rfl⟩
    rw [if_neg (by omega)] at hdx
    have g2 : ¬ (x : Int) ≤ 57 := by omega
    have g2' : decide ((x : Int) ≤ 57) = false := by simpa using g2
    by_cases h3 : 97 ≤ x
    · have g3 : (x : Int) ≥ 97 := by omega
      have g3' : decide ((x : Int) ≥ 97) = true := by simpa using g3
      by_cases h4 : x ≤ 102
      · rw [if_pos ⟨h3, h4⟩] at hdx
        have g4 : (x : Int) ≤ 102 := by omega
        have g4' : decide ((x : Int) ≤ 102) = true := by simpa using g4
        have v1 : IntKind.u8.wrap ((x : Int) - 97) = (x : Int) - 97 := by rw [IntKind.wrap_u8]; omega
        have v2 : IntKind.u64.wrap ((x : Int) - 97) = (x : Int) - 97 := by rw [IntKind.wrap_u64]; omega
        have v3 : IntKind.u64.wrap ((x : Int) - 97 + 10) = (d : Int) := by rw [IntKind.wrap_u64]; omega
        clear hdx
        go_enter Tryd.func18, Tryd.ntmps18
        go_wp2
        go_ret
        exact ⟨rfl, rfl⟩
      rw [if_neg (by omega)] at hdx
      have g4 : ¬ (x : Int) ≤ 102 := by omega
      have g4' : decide ((x : Int) ≤ 102) = false := by simpa using g4
      subst hdx
      go_enter Tryd.func18, Tryd.ntmps18
      go_wp2
      go_ret
      exact ⟨rfl, rfl⟩
    rw [if_neg (by omega)] at hdx
    have g3 : ¬ (x : Int) ≥ 97 := by omega
    have g3' : decide ((x : Int) ≥ 97) = false := by simpa using g3
    subst hdx
    go_enter Tryd.func18, Tryd.ntmps18
    go_wp2
    go_ret
    exact ⟨rfl, rfl⟩
  rw [if_neg (by omega), if_neg (by omega)] at hdx
  have g1 : ¬ (x : Int) ≥ 48 := by omega
  have g1' : decide ((x : Int) ≥ 48) = false := by simpa using g1
  have g3 : ¬ (x : Int) ≥ 97 := by omega
  have g3' : decide ((x : Int) ≥ 97) = false := by simpa using g3
  subst hdx
  go_enter Tryd.func18, Tryd.ntmps18
  go_wp2
  go_ret
  exact ⟨rfl, rfl⟩
theorem ixSb (S : ByteArray) (p : Nat) (b : UInt8) (h : S.data.toList[p]? = some b) (W : World) : (Instr.index 9 (.string S) (.int .i64 p)).run Tryd.prog W = .ok (.int .u8 b.toNat) W := by
  have hp : p < S.size := by
    have := (List.getElem?_eq_some_iff.1 h).1
    simpa using this
  have hb : S[p] = b := by
    have := (List.getElem?_eq_some_iff.1 h).2
    show S.data[p] = b
    simpa using this
  have h1 : (0 ≤ (p : Int) ∧ (p : Int) < S.size) := by omega
  simp [Instr.index, run_underlying Tryd.underlying9, asIntOf, h1, hp, hb, go_sem]
/-- The answer of Number. -/
def numE : Option Nat → Value
  | some u => .tuple #[.int .u64 u, .bool true]
  | none => .tuple #[.int .u64 0, .bool false]
/-- Whether 0x is ahead, as the document asks it, and what is left. -/
theorem head_cases (s : ByteArray) : (¬ s.size > 2 ∧ numO s.data.toList = num1 10 s.data.toList) ∨ (s.size > 2 ∧ ((s.extract 0 2).toList == [48, 120]) = false ∧ numO s.data.toList = num1 10 s.data.toList) ∨ (s.size > 2 ∧ ((s.extract 0 2).toList == [48, 120]) = true ∧ (s.extract 2 s.size).size = s.size - 2 ∧ numO s.data.toList = num1 16 (s.extract 2 s.size).data.toList) := by
  have hlen : s.data.toList.length = s.size := Array.length_toList
  by_cases h2 : s.size > 2
  · refine .inr ?_
    have e2 : s.extract 0 2 = ⟨(s.data.toList.take 2).toArray⟩ := by
      have := Lib.extract_eq s 0 2
      simpa using this
    have e3 : s.extract 2 s.size = ⟨(s.data.toList.drop 2).toArray⟩ := by
      rw [Lib.extract_eq s 2 s.size]
      congr 2
      exact List.take_of_length_le (by rw [List.length_drop, hlen]; omega)
    have e4 : (s.extract 2 s.size).data.toList = s.data.toList.drop 2 := by rw [e3]
    have e5 : (s.extract 2 s.size).size = s.size - 2 := by
      rw [show (s.extract 2 s.size).size = (s.extract 2 s.size).data.toList.length by rw [Lib.size_eq], e4, List.length_drop, hlen]
    have e6 : ((s.extract 0 2).toList == [48, 120]) = List.isPrefixOf [48, 120] s.data.toList := by
      rw [Lib.toList_data, e2]
      show (s.data.toList.take 2 == [48, 120]) = _
      match hl : s.data.toList with
      | [] => rfl
      | [a] => simp [List.isPrefixOf]
      | a :: b :: r =>
        simp only [List.isPrefixOf, List.take, Bool.and_true]
        rw [Bool.eq_iff_iff]
        simp
        constructor
        · rintro ⟨rfl, rfl⟩; exact ⟨rfl, rfl⟩
        · rintro ⟨rfl, rfl⟩; exact ⟨rfl, rfl⟩
    cases hp : List.isPrefixOf [48, 120] s.data.toList
    · exact .inl ⟨h2, e6.trans hp, by rw [numO, if_neg (fun h => by rw [hp] at h; exact nomatch h.2)]⟩
    · exact .inr ⟨h2, e6.trans hp, e5, by rw [numO, if_pos ⟨by omega, hp⟩, e4]⟩
  · exact .inl ⟨h2, by rw [numO, if_neg (fun h => by omega)]⟩
/-- What is asked of a text's first byte. -/
theorem first_cases (b : Nat) (T : ByteArray) : (T.size = 0 ∧ num1 b T.data.toList = none) ∨ (∃ c, T.size > 0 ∧ T.data.toList[0]? = some c ∧ ((c.toNat : Int) == 48) = true ∧ T.size > 1 ∧ num1 b T.data.toList = none) ∨ (∃ c, T.size > 0 ∧ T.data.toList[0]? = some c ∧ ((c.toNat : Int) == 48) = true ∧ ¬ T.size > 1 ∧ num1 b T.data.toList = lpN b 0 T.data.toList) ∨ (∃ c, T.size > 0 ∧ T.data.toList[0]? = some c ∧ ((c.toNat : Int) == 48) = false ∧ num1 b T.data.toList = lpN b 0 T.data.toList) := by
  have hlen : T.data.toList.length = T.size := Array.length_toList
  by_cases h0 : T.size = 0
  · exact .inl ⟨h0, by rw [num1, if_pos (.inl (List.eq_nil_of_length_eq_zero (by omega)))]⟩
  refine .inr ?_
  obtain ⟨c, hc⟩ : ∃ c, T.data.toList[0]? = some c := ⟨_, List.getElem?_eq_getElem (by omega)⟩
  have hh : T.data.toList.head? = some c := by rw [List.head?_eq_getElem?]; exact hc
  have hne : T.data.toList ≠ [] := fun e => by rw [e] at hlen; simp at hlen; omega
  have ec : ((c.toNat : Int) == 48) = (c == 48) := by rw [Bool.eq_iff_iff]; simp [← UInt8.toNat_inj]; omega
  cases hq : (c == 48)
  · refine .inr (.inr ⟨c, by omega, hc, ec.trans hq, ?_⟩)
    rw [num1, if_neg]
    rintro (h | ⟨h, _⟩)
    · exact hne h
    · rw [hh] at h
      have : c = 48 := by simpa using h
      rw [this] at hq
      exact absurd hq (by decide)
  · have h48 : c = 48 := by simpa using hq
    by_cases h1 : T.size > 1
    · exact .inl ⟨c, by omega, hc, ec.trans hq, h1, by rw [num1, if_pos (.inr ⟨by rw [hh, h48], by omega⟩)]⟩
    · refine .inr (.inl ⟨c, by omega, hc, ec.trans hq, h1, ?_⟩)
      rw [num1, if_neg]
      rintro (h | ⟨_, h⟩)
      · exact hne h
      · omega
set_option maxRecDepth 100000 in
set_option maxHeartbeats 8000000 in
theorem refNumber_any (s : ByteArray) (hs : s.size ≤ 60) (w : World) :
    Calls Tryd.prog 7 #[.string s] w fun e w' => e = .returned (numE (numO s.data.toList)) ∧ Below w.heap.size w w' := by
  have x1 : ∀ d : Nat, d ≤ 16 → IntKind.u64.wrap (18446744073709551615 - (d : Int)) = ((18446744073709551615 - d : Nat) : Int) := fun d hd => by rw [IntKind.wrap_u64]; omega
  have x2 : ∀ d : Nat, d ≤ 16 → Int.tdiv ((18446744073709551615 - d : Nat) : Int) 10 = (((18446744073709551615 - d) / 10 : Nat) : Int) := fun d hd => by rw [Int.tdiv_eq_ediv_of_nonneg (by omega)]; omega
  have x3 : ∀ d : Nat, d ≤ 16 → Int.tdiv ((18446744073709551615 - d : Nat) : Int) 16 = (((18446744073709551615 - d) / 16 : Nat) : Int) := fun d hd => by rw [Int.tdiv_eq_ediv_of_nonneg (by omega)]; omega
  have x4 : ∀ y : Nat, y < 18446744073709551616 → IntKind.u64.wrap (y : Int) = (y : Int) := fun y hy => by rw [IntKind.wrap_u64]; omega
  have X1 := Lib.hid x1
  have X2 := Lib.hid x2
  have X3 := Lib.hid x3
  have X4 := Lib.hid x4
  clear x1 x2 x3 x4
  rcases head_cases s with ⟨h2, hN⟩ | ⟨h2, hx, hN⟩ | ⟨h2, hx, hsz, hN⟩
  · rw [hN]
    have q1 : ¬ (s.size : Int) > 2 := by omega
    have q2 : decide ((s.size : Int) > 2) = false := by simpa using q1
    obtain ⟨T, hT⟩ : ∃ T, s = T := ⟨_, rfl⟩
    have htz : T.size ≤ 60 := by rw [← hT]; exact hs
    subst hT
    clear hN hs
    rcases first_cases 10 s with ⟨h0, hF⟩ | ⟨c, h0, hc, ec, h1, hF⟩ | ⟨c, h0, hc, ec, h1, hF⟩ | ⟨c, h0, hc, ec, hF⟩
    · rw [hF]
      have p0 : ((s.size : Int) == 0) = true := by rw [h0]; rfl
      clear hF h0
      go_enter Tryd.func7, Tryd.ntmps7
      go_wp2
      go_ret2
      exact ⟨rfl, Below.refl _ _⟩
    · rw [hF]
      have p0 : ((s.size : Int) == 0) = false := beq_eq_false_iff_ne.2 (by omega)
      have p1 : (0 : Int) < (s.size : Int) := by omega
      have hix0 := ixSb s 0 c hc
      have hix0' : ∀ W, (Instr.index 9 (.string s) (.int .i64 0)).run Tryd.prog W = .ok (.int .u8 c.toNat) W := fun W => hix0 W
      clear hix0
      have p2 : (s.size : Int) > 1 := by omega
      have p3 : decide ((s.size : Int) > 1) = true := by simpa using p2
      clear hF hc h0
      go_enter Tryd.func7, Tryd.ntmps7
      go_wp2
      go_ret2
      exact ⟨rfl, Below.refl _ _⟩
    · rw [hF]
      have p0 : ((s.size : Int) == 0) = false := beq_eq_false_iff_ne.2 (by omega)
      have p1 : (0 : Int) < (s.size : Int) := by omega
      have hix0 := ixSb s 0 c hc
      have hix0' : ∀ W, (Instr.index 9 (.string s) (.int .i64 0)).run Tryd.prog W = .ok (.int .u8 c.toNat) W := fun W => hix0 W
      clear hix0
      have p2 : ¬ (s.size : Int) > 1 := by omega
      have p3 : decide ((s.size : Int) > 1) = false := by simpa using p2
      obtain ⟨l, hl⟩ : ∃ l, s.data.toList = l := ⟨_, rfl⟩
      have hlen : l.length = s.size := by rw [← hl]; exact Array.length_toList
      rw [hl]
      have HL := Lib.hid hlen
      have HS := Lib.hid hl
      clear hF hc h0 hl hlen
      go_enter Tryd.func7, Tryd.ntmps7
      go_wp2
      have HB0 : Hid (Below w.heap.size w w) := Lib.hid (Below.refl _ _)
      go_loopw [5, 6] (fun nv i wr => ∃ (k n : Nat), k ≤ s.size ∧ i = .int .i64 k ∧ nv = .int .u64 n ∧ Hid (n < 18446744073709551616 ∧ lpN 10 0 l = lpN 10 n (l.drop k)) ∧ Hid (Below w.heap.size w wr))
        (fun _ i _ => s.size - (intOf i).toNat)
      case atStart => exact ⟨0, 0, by omega, rfl, rfl, Lib.hid ⟨by omega, rfl⟩, HB0⟩
      case round =>
        obtain ⟨k, n, hk, rfl, rfl, HN, HBW⟩ := hrel
        by_cases hlt : k < s.size
        · have g1 : (k : Int) < (s.size : Int) := by omega
          obtain ⟨e, he⟩ : ∃ e, l[k]? = some e := ⟨_, List.getElem?_eq_getElem (by rw [HL.out]; exact hlt)⟩
          have hix := ixSb s k e (by rw [HS.out]; exact he)
          have hdrop : l.drop k = e :: l.drop (k + 1) := by
            rw [List.drop_eq_getElem_cons (by rw [HL.out]; exact hlt)]
            congr 1
            exact (List.getElem?_eq_some_iff.1 he).2
          have hstep := HN.out.2
          rw [hdrop, lpN] at hstep
          have hd16 := dgF_le e
          have HDG := Lib.hid fun W => digit_any e W
          obtain ⟨d, hd⟩ : ∃ d, dgF e = d := ⟨_, rfl⟩
          rw [hd] at hstep hd16 HDG
          have hn64 := HN.out.1
          clear he hdrop hd HN
          by_cases g2 : 10 ≤ d
          · rw [if_pos (.inl g2)] at hstep
            have g3 : (d : Int) ≥ 10 := by omega
            have g4 : decide ((d : Int) ≥ 10) = true := by simpa using g3
            have HE := Lib.hid hstep
            clear hstep g2
            go_wp2_with (go_at_call 18; refine (HDG.out _).mono ?_; rintro e w5 ⟨rfl, rfl⟩)
            go_ret2
            exact ⟨by rw [HE.out]; rfl, HBW.out⟩
          have g3 : ¬ (d : Int) ≥ 10 := by omega
          have g4 : decide ((d : Int) ≥ 10) = false := by simpa using g3
          have v1 := X1.out d hd16
          have v2 := X2.out d hd16
          have v3 := X4.out ((18446744073709551615 - d) / 10) (by omega)
          by_cases g5 : (18446744073709551615 - d) / 10 < n
          · rw [if_pos (.inr g5)] at hstep
            have g6 : (n : Int) > (((18446744073709551615 - d) / 10 : Nat) : Int) := by omega
            have g7 : decide ((n : Int) > (((18446744073709551615 - d) / 10 : Nat) : Int)) = true := by simpa using g6
            have HE := Lib.hid hstep
            clear hstep g2
            generalize (18446744073709551615 - d) / 10 = Q at *
            generalize 18446744073709551615 - d = Y at *
            go_wp2_with (go_at_call 18; refine (HDG.out _).mono ?_; rintro e w5 ⟨rfl, rfl⟩)
            go_ret2
            exact ⟨by rw [HE.out]; rfl, HBW.out⟩
          rw [if_neg (by omega)] at hstep
          have hnew : n * 10 + d < 18446744073709551616 := by omega
          have g6 : ¬ (n : Int) > (((18446744073709551615 - d) / 10 : Nat) : Int) := by omega
          have g7 : decide ((n : Int) > (((18446744073709551615 - d) / 10 : Nat) : Int)) = false := by simpa using g6
          have HE := Lib.hid (And.intro hnew hstep)
          have v5 : IntKind.u64.wrap ((n : Int) * 10) = (n : Int) * 10 := by rw [IntKind.wrap_u64]; omega
          have v6 : IntKind.u64.wrap ((n : Int) * 10 + (d : Int)) = (n : Int) * 10 + (d : Int) := by rw [IntKind.wrap_u64]; omega
          clear hstep g2
          generalize (18446744073709551615 - d) / 10 = Q at *
          generalize 18446744073709551615 - d = Y at *
          go_wp2_with (go_at_call 18; refine (HDG.out _).mono ?_; rintro e w5 ⟨rfl, rfl⟩)
          exact ⟨⟨k + 1, n * 10 + d, by omega, by go_num, by go_num, HE, HBW⟩, by simp [intOf]; omega⟩
        · obtain rfl : k = s.size := by omega
          have g1 : ¬ ((s.size : Nat) : Int) < (s.size : Int) := by omega
          have hend : lpN 10 0 l = some n := by
            rw [HN.out.2, List.drop_eq_nil_of_le (by rw [HL.out]; omega), lpN]
          have HE := Lib.hid hend
          clear hend HN
          go_wp2
          go_ret2
          exact ⟨by rw [HE.out]; rfl, HBW.out⟩
    · rw [hF]
      have p0 : ((s.size : Int) == 0) = false := beq_eq_false_iff_ne.2 (by omega)
      have p1 : (0 : Int) < (s.size : Int) := by omega
      have hix0 := ixSb s 0 c hc
      have hix0' : ∀ W, (Instr.index 9 (.string s) (.int .i64 0)).run Tryd.prog W = .ok (.int .u8 c.toNat) W := fun W => hix0 W
      clear hix0
      obtain ⟨l, hl⟩ : ∃ l, s.data.toList = l := ⟨_, rfl⟩
      have hlen : l.length = s.size := by rw [← hl]; exact Array.length_toList
      rw [hl]
      have HL := Lib.hid hlen
      have HS := Lib.hid hl
      clear hF hc h0 hl hlen
      go_enter Tryd.func7, Tryd.ntmps7
      go_wp2
      have HB0 : Hid (Below w.heap.size w w) := Lib.hid (Below.refl _ _)
      go_loopw [5, 6] (fun nv i wr => ∃ (k n : Nat), k ≤ s.size ∧ i = .int .i64 k ∧ nv = .int .u64 n ∧ Hid (n < 18446744073709551616 ∧ lpN 10 0 l = lpN 10 n (l.drop k)) ∧ Hid (Below w.heap.size w wr))
        (fun _ i _ => s.size - (intOf i).toNat)
      case atStart => exact ⟨0, 0, by omega, rfl, rfl, Lib.hid ⟨by omega, rfl⟩, HB0⟩
      case round =>
        obtain ⟨k, n, hk, rfl, rfl, HN, HBW⟩ := hrel
        by_cases hlt : k < s.size
        · have g1 : (k : Int) < (s.size : Int) := by omega
          obtain ⟨e, he⟩ : ∃ e, l[k]? = some e := ⟨_, List.getElem?_eq_getElem (by rw [HL.out]; exact hlt)⟩
          have hix := ixSb s k e (by rw [HS.out]; exact he)
          have hdrop : l.drop k = e :: l.drop (k + 1) := by
            rw [List.drop_eq_getElem_cons (by rw [HL.out]; exact hlt)]
            congr 1
            exact (List.getElem?_eq_some_iff.1 he).2
          have hstep := HN.out.2
          rw [hdrop, lpN] at hstep
          have hd16 := dgF_le e
          have HDG := Lib.hid fun W => digit_any e W
          obtain ⟨d, hd⟩ : ∃ d, dgF e = d := ⟨_, rfl⟩
          rw [hd] at hstep hd16 HDG
          have hn64 := HN.out.1
          clear he hdrop hd HN
          by_cases g2 : 10 ≤ d
          · rw [if_pos (.inl g2)] at hstep
            have g3 : (d : Int) ≥ 10 := by omega
            have g4 : decide ((d : Int) ≥ 10) = true := by simpa using g3
            have HE := Lib.hid hstep
            clear hstep g2
            go_wp2_with (go_at_call 18; refine (HDG.out _).mono ?_; rintro e w5 ⟨rfl, rfl⟩)
            go_ret2
            exact ⟨by rw [HE.out]; rfl, HBW.out⟩
          have g3 : ¬ (d : Int) ≥ 10 := by omega
          have g4 : decide ((d : Int) ≥ 10) = false := by simpa using g3
          have v1 := X1.out d hd16
          have v2 := X2.out d hd16
          have v3 := X4.out ((18446744073709551615 - d) / 10) (by omega)
          by_cases g5 : (18446744073709551615 - d) / 10 < n
          · rw [if_pos (.inr g5)] at hstep
            have g6 : (n : Int) > (((18446744073709551615 - d) / 10 : Nat) : Int) := by omega
            have g7 : decide ((n : Int) > (((18446744073709551615 - d) / 10 : Nat) : Int)) = true := by simpa using g6
            have HE := Lib.hid hstep
            clear hstep g2
            generalize (18446744073709551615 - d) / 10 = Q at *
            generalize 18446744073709551615 - d = Y at *
            go_wp2_with (go_at_call 18; refine (HDG.out _).mono ?_; rintro e w5 ⟨rfl, rfl⟩)
            go_ret2
            exact ⟨by rw [HE.out]; rfl, HBW.out⟩
          rw [if_neg (by omega)] at hstep
          have hnew : n * 10 + d < 18446744073709551616 := by omega
          have g6 : ¬ (n : Int) > (((18446744073709551615 - d) / 10 : Nat) : Int) := by omega
          have g7 : decide ((n : Int) > (((18446744073709551615 - d) / 10 : Nat) : Int)) = false := by simpa using g6
          have HE := Lib.hid (And.intro hnew hstep)
          have v5 : IntKind.u64.wrap ((n : Int) * 10) = (n : Int) * 10 := by rw [IntKind.wrap_u64]; omega
          have v6 : IntKind.u64.wrap ((n : Int) * 10 + (d : Int)) = (n : Int) * 10 + (d : Int) := by rw [IntKind.wrap_u64]; omega
          clear hstep g2
          generalize (18446744073709551615 - d) / 10 = Q at *
          generalize 18446744073709551615 - d = Y at *
          go_wp2_with (go_at_call 18; refine (HDG.out _).mono ?_; rintro e w5 ⟨rfl, rfl⟩)
          exact ⟨⟨k + 1, n * 10 + d, by omega, by go_num, by go_num, HE, HBW⟩, by simp [intOf]; omega⟩
        · obtain rfl : k = s.size := by omega
          have g1 : ¬ ((s.size : Nat) : Int) < (s.size : Int) := by omega
          have hend : lpN 10 0 l = some n := by
            rw [HN.out.2, List.drop_eq_nil_of_le (by rw [HL.out]; omega), lpN]
          have HE := Lib.hid hend
          clear hend HN
          go_wp2
          go_ret2
          exact ⟨by rw [HE.out]; rfl, HBW.out⟩
  · rw [hN]
    have q1 : (s.size : Int) > 2 := by omega
    have q2 : decide ((s.size : Int) > 2) = true := by simpa using q1
    have q3 : (2 : Int) ≤ (s.size : Int) := by omega
    have q4 : 2 ≤ s.size := by omega
    obtain ⟨T, hT⟩ : ∃ T, s = T := ⟨_, rfl⟩
    have htz : T.size ≤ 60 := by rw [← hT]; exact hs
    subst hT
    obtain ⟨H, hH⟩ : ∃ H, s.extract 0 2 = H := ⟨_, rfl⟩
    rw [hH] at hx
    clear hN hs
    rcases first_cases 10 s with ⟨h0, hF⟩ | ⟨c, h0, hc, ec, h1, hF⟩ | ⟨c, h0, hc, ec, h1, hF⟩ | ⟨c, h0, hc, ec, hF⟩
    · rw [hF]
      have p0 : ((s.size : Int) == 0) = true := by rw [h0]; rfl
      clear hF h0
      go_enter Tryd.func7, Tryd.ntmps7
      go_wp2
      go_ret2
      exact ⟨rfl, Below.refl _ _⟩
    · rw [hF]
      have p0 : ((s.size : Int) == 0) = false := beq_eq_false_iff_ne.2 (by omega)
      have p1 : (0 : Int) < (s.size : Int) := by omega
      have hix0 := ixSb s 0 c hc
      have hix0' : ∀ W, (Instr.index 9 (.string s) (.int .i64 0)).run Tryd.prog W = .ok (.int .u8 c.toNat) W := fun W => hix0 W
      clear hix0
      have p2 : (s.size : Int) > 1 := by omega
      have p3 : decide ((s.size : Int) > 1) = true := by simpa using p2
      clear hF hc h0
      go_enter Tryd.func7, Tryd.ntmps7
      go_wp2
      go_ret2
      exact ⟨rfl, Below.refl _ _⟩
    · rw [hF]
      have p0 : ((s.size : Int) == 0) = false := beq_eq_false_iff_ne.2 (by omega)
      have p1 : (0 : Int) < (s.size : Int) := by omega
      have hix0 := ixSb s 0 c hc
      have hix0' : ∀ W, (Instr.index 9 (.string s) (.int .i64 0)).run Tryd.prog W = .ok (.int .u8 c.toNat) W := fun W => hix0 W
      clear hix0
      have p2 : ¬ (s.size : Int) > 1 := by omega
      have p3 : decide ((s.size : Int) > 1) = false := by simpa using p2
      obtain ⟨l, hl⟩ : ∃ l, s.data.toList = l := ⟨_, rfl⟩
      have hlen : l.length = s.size := by rw [← hl]; exact Array.length_toList
      rw [hl]
      have HL := Lib.hid hlen
      have HS := Lib.hid hl
      clear hF hc h0 hl hlen
      go_enter Tryd.func7, Tryd.ntmps7
      go_wp2
      have HB0 : Hid (Below w.heap.size w w) := Lib.hid (Below.refl _ _)
      go_loopw [5, 6] (fun nv i wr => ∃ (k n : Nat), k ≤ s.size ∧ i = .int .i64 k ∧ nv = .int .u64 n ∧ Hid (n < 18446744073709551616 ∧ lpN 10 0 l = lpN 10 n (l.drop k)) ∧ Hid (Below w.heap.size w wr))
        (fun _ i _ => s.size - (intOf i).toNat)
      case atStart => exact ⟨0, 0, by omega, rfl, rfl, Lib.hid ⟨by omega, rfl⟩, HB0⟩
      case round =>
        obtain ⟨k, n, hk, rfl, rfl, HN, HBW⟩ := hrel
        by_cases hlt : k < s.size
        · have g1 : (k : Int) < (s.size : Int) := by omega
          obtain ⟨e, he⟩ : ∃ e, l[k]? = some e := ⟨_, List.getElem?_eq_getElem (by rw [HL.out]; exact hlt)⟩
          have hix := ixSb s k e (by rw [HS.out]; exact he)
          have hdrop : l.drop k = e :: l.drop (k + 1) := by
            rw [List.drop_eq_getElem_cons (by rw [HL.out]; exact hlt)]
            congr 1
            exact (List.getElem?_eq_some_iff.1 he).2
          have hstep := HN.out.2
          rw [hdrop, lpN] at hstep
          have hd16 := dgF_le e
          have HDG := Lib.hid fun W => digit_any e W
          obtain ⟨d, hd⟩ : ∃ d, dgF e = d := ⟨_, rfl⟩
          rw [hd] at hstep hd16 HDG
          have hn64 := HN.out.1
          clear he hdrop hd HN
          by_cases g2 : 10 ≤ d
          · rw [if_pos (.inl g2)] at hstep
            have g3 : (d : Int) ≥ 10 := by omega
            have g4 : decide ((d : Int) ≥ 10) = true := by simpa using g3
            have HE := Lib.hid hstep
            clear hstep g2
            go_wp2_with (go_at_call 18; refine (HDG.out _).mono ?_; rintro e w5 ⟨rfl, rfl⟩)
            go_ret2
            exact ⟨by rw [HE.out]; rfl, HBW.out⟩
          have g3 : ¬ (d : Int) ≥ 10 := by omega
          have g4 : decide ((d : Int) ≥ 10) = false := by simpa using g3
          have v1 := X1.out d hd16
          have v2 := X2.out d hd16
          have v3 := X4.out ((18446744073709551615 - d) / 10) (by omega)
          by_cases g5 : (18446744073709551615 - d) / 10 < n
          · rw [if_pos (.inr g5)] at hstep
            have g6 : (n : Int) > (((18446744073709551615 - d) / 10 : Nat) : Int) := by omega
            have g7 : decide ((n : Int) > (((18446744073709551615 - d) / 10 : Nat) : Int)) = true := by simpa using g6
            have HE := Lib.hid hstep
            clear hstep g2
            generalize (18446744073709551615 - d) / 10 = Q at *
            generalize 18446744073709551615 - d = Y at *
            go_wp2_with (go_at_call 18; refine (HDG.out _).mono ?_; rintro e w5 ⟨rfl, rfl⟩)
            go_ret2
            exact ⟨by rw [HE.out]; rfl, HBW.out⟩
          rw [if_neg (by omega)] at hstep
          have hnew : n * 10 + d < 18446744073709551616 := by omega
          have g6 : ¬ (n : Int) > (((18446744073709551615 - d) / 10 : Nat) : Int) := by omega
          have g7 : decide ((n : Int) > (((18446744073709551615 - d) / 10 : Nat) : Int)) = false := by simpa using g6
          have HE := Lib.hid (And.intro hnew hstep)
          have v5 : IntKind.u64.wrap ((n : Int) * 10) = (n : Int) * 10 := by rw [IntKind.wrap_u64]; omega
          have v6 : IntKind.u64.wrap ((n : Int) * 10 + (d : Int)) = (n : Int) * 10 + (d : Int) := by rw [IntKind.wrap_u64]; omega
          clear hstep g2
          generalize (18446744073709551615 - d) / 10 = Q at *
          generalize 18446744073709551615 - d = Y at *
          go_wp2_with (go_at_call 18; refine (HDG.out _).mono ?_; rintro e w5 ⟨rfl, rfl⟩)
          exact ⟨⟨k + 1, n * 10 + d, by omega, by go_num, by go_num, HE, HBW⟩, by simp [intOf]; omega⟩
        · obtain rfl : k = s.size := by omega
          have g1 : ¬ ((s.size : Nat) : Int) < (s.size : Int) := by omega
          have hend : lpN 10 0 l = some n := by
            rw [HN.out.2, List.drop_eq_nil_of_le (by rw [HL.out]; omega), lpN]
          have HE := Lib.hid hend
          clear hend HN
          go_wp2
          go_ret2
          exact ⟨by rw [HE.out]; rfl, HBW.out⟩
    · rw [hF]
      have p0 : ((s.size : Int) == 0) = false := beq_eq_false_iff_ne.2 (by omega)
      have p1 : (0 : Int) < (s.size : Int) := by omega
      have hix0 := ixSb s 0 c hc
      have hix0' : ∀ W, (Instr.index 9 (.string s) (.int .i64 0)).run Tryd.prog W = .ok (.int .u8 c.toNat) W := fun W => hix0 W
      clear hix0
      obtain ⟨l, hl⟩ : ∃ l, s.data.toList = l := ⟨_, rfl⟩
      have hlen : l.length = s.size := by rw [← hl]; exact Array.length_toList
      rw [hl]
      have HL := Lib.hid hlen
      have HS := Lib.hid hl
      clear hF hc h0 hl hlen
      go_enter Tryd.func7, Tryd.ntmps7
      go_wp2
      have HB0 : Hid (Below w.heap.size w w) := Lib.hid (Below.refl _ _)
      go_loopw [5, 6] (fun nv i wr => ∃ (k n : Nat), k ≤ s.size ∧ i = .int .i64 k ∧ nv = .int .u64 n ∧ Hid (n < 18446744073709551616 ∧ lpN 10 0 l = lpN 10 n (l.drop k)) ∧ Hid (Below w.heap.size w wr))
        (fun _ i _ => s.size - (intOf i).toNat)
      case atStart => exact ⟨0, 0, by omega, rfl, rfl, Lib.hid ⟨by omega, rfl⟩, HB0⟩
      case round =>
        obtain ⟨k, n, hk, rfl, rfl, HN, HBW⟩ := hrel
        by_cases hlt : k < s.size
        · have g1 : (k : Int) < (s.size : Int) := by omega
          obtain ⟨e, he⟩ : ∃ e, l[k]? = some e := ⟨_, List.getElem?_eq_getElem (by rw [HL.out]; exact hlt)⟩
          have hix := ixSb s k e (by rw [HS.out]; exact he)
          have hdrop : l.drop k = e :: l.drop (k + 1) := by
            rw [List.drop_eq_getElem_cons (by rw [HL.out]; exact hlt)]
            congr 1
            exact (List.getElem?_eq_some_iff.1 he).2
          have hstep := HN.out.2
          rw [hdrop, lpN] at hstep
          have hd16 := dgF_le e
          have HDG := Lib.hid fun W => digit_any e W
          obtain ⟨d, hd⟩ : ∃ d, dgF e = d := ⟨_, rfl⟩
          rw [hd] at hstep hd16 HDG
          have hn64 := HN.out.1
          clear he hdrop hd HN
          by_cases g2 : 10 ≤ d
          · rw [if_pos (.inl g2)] at hstep
            have g3 : (d : Int) ≥ 10 := by omega
            have g4 : decide ((d : Int) ≥ 10) = true := by simpa using g3
            have HE := Lib.hid hstep
            clear hstep g2
            go_wp2_with (go_at_call 18; refine (HDG.out _).mono ?_; rintro e w5 ⟨rfl, rfl⟩)
            go_ret2
            exact ⟨by rw [HE.out]; rfl, HBW.out⟩
          have g3 : ¬ (d : Int) ≥ 10 := by omega
          have g4 : decide ((d : Int) ≥ 10) = false := by simpa using g3
          have v1 := X1.out d hd16
          have v2 := X2.out d hd16
          have v3 := X4.out ((18446744073709551615 - d) / 10) (by omega)
          by_cases g5 : (18446744073709551615 - d) / 10 < n
          · rw [if_pos (.inr g5)] at hstep
            have g6 : (n : Int) > (((18446744073709551615 - d) / 10 : Nat) : Int) := by omega
            have g7 : decide ((n : Int) > (((18446744073709551615 - d) / 10 : Nat) : Int)) = true := by simpa using g6
            have HE := Lib.hid hstep
            clear hstep g2
            generalize (18446744073709551615 - d) / 10 = Q at *
            generalize 18446744073709551615 - d = Y at *
            go_wp2_with (go_at_call 18; refine (HDG.out _).mono ?_; rintro e w5 ⟨rfl, rfl⟩)
            go_ret2
            exact ⟨by rw [HE.out]; rfl, HBW.out⟩
          rw [if_neg (by omega)] at hstep
          have hnew : n * 10 + d < 18446744073709551616 := by omega
          have g6 : ¬ (n : Int) > (((18446744073709551615 - d) / 10 : Nat) : Int) := by omega
          have g7 : decide ((n : Int) > (((18446744073709551615 - d) / 10 : Nat) : Int)) = false := by simpa using g6
          have HE := Lib.hid (And.intro hnew hstep)
          have v5 : IntKind.u64.wrap ((n : Int) * 10) = (n : Int) * 10 := by rw [IntKind.wrap_u64]; omega
          have v6 : IntKind.u64.wrap ((n : Int) * 10 + (d : Int)) = (n : Int) * 10 + (d : Int) := by rw [IntKind.wrap_u64]; omega
          clear hstep g2
          generalize (18446744073709551615 - d) / 10 = Q at *
          generalize 18446744073709551615 - d = Y at *
          go_wp2_with (go_at_call 18; refine (HDG.out _).mono ?_; rintro e w5 ⟨rfl, rfl⟩)
          exact ⟨⟨k + 1, n * 10 + d, by omega, by go_num, by go_num, HE, HBW⟩, by simp [intOf]; omega⟩
        · obtain rfl : k = s.size := by omega
          have g1 : ¬ ((s.size : Nat) : Int) < (s.size : Int) := by omega
          have hend : lpN 10 0 l = some n := by
            rw [HN.out.2, List.drop_eq_nil_of_le (by rw [HL.out]; omega), lpN]
          have HE := Lib.hid hend
          clear hend HN
          go_wp2
          go_ret2
          exact ⟨by rw [HE.out]; rfl, HBW.out⟩
  · rw [hN]
    have q1 : (s.size : Int) > 2 := by omega
    have q2 : decide ((s.size : Int) > 2) = true := by simpa using q1
    have q3 : (2 : Int) ≤ (s.size : Int) := by omega
    have q4 : 2 ≤ s.size := by omega
    obtain ⟨T, hT⟩ : ∃ T, s.extract 2 s.size = T := ⟨_, rfl⟩
    have htz : T.size ≤ 60 := by rw [← hT, hsz]; omega
    rw [hT]
    clear hsz
    obtain ⟨H, hH⟩ : ∃ H, s.extract 0 2 = H := ⟨_, rfl⟩
    rw [hH] at hx
    clear hN hs
    rcases first_cases 16 T with ⟨h0, hF⟩ | ⟨c, h0, hc, ec, h1, hF⟩ | ⟨c, h0, hc, ec, h1, hF⟩ | ⟨c, h0, hc, ec, hF⟩
    · rw [hF]
      have p0 : ((T.size : Int) == 0) = true := by rw [h0]; rfl
      clear hF h0
      go_enter Tryd.func7, Tryd.ntmps7
      go_wp2
      go_region
      go_wp2
      go_ret2
      exact ⟨rfl, (Below.refl _ _).drew⟩
    · rw [hF]
      have p0 : ((T.size : Int) == 0) = false := beq_eq_false_iff_ne.2 (by omega)
      have p1 : (0 : Int) < (T.size : Int) := by omega
      have hix0 := ixSb T 0 c hc
      have hix0' : ∀ W, (Instr.index 9 (.string T) (.int .i64 0)).run Tryd.prog W = .ok (.int .u8 c.toNat) W := fun W => hix0 W
      clear hix0
      have p2 : (T.size : Int) > 1 := by omega
      have p3 : decide ((T.size : Int) > 1) = true := by simpa using p2
      clear hF hc h0
      go_enter Tryd.func7, Tryd.ntmps7
      go_wp2
      go_region
      go_wp2
      go_ret2
      exact ⟨rfl, (Below.refl _ _).drew⟩
    · rw [hF]
      have p0 : ((T.size : Int) == 0) = false := beq_eq_false_iff_ne.2 (by omega)
      have p1 : (0 : Int) < (T.size : Int) := by omega
      have hix0 := ixSb T 0 c hc
      have hix0' : ∀ W, (Instr.index 9 (.string T) (.int .i64 0)).run Tryd.prog W = .ok (.int .u8 c.toNat) W := fun W => hix0 W
      clear hix0
      have p2 : ¬ (T.size : Int) > 1 := by omega
      have p3 : decide ((T.size : Int) > 1) = false := by simpa using p2
      obtain ⟨l, hl⟩ : ∃ l, T.data.toList = l := ⟨_, rfl⟩
      have hlen : l.length = T.size := by rw [← hl]; exact Array.length_toList
      rw [hl]
      have HL := Lib.hid hlen
      have HS := Lib.hid hl
      clear hF hc h0 hl hlen
      go_enter Tryd.func7, Tryd.ntmps7
      go_wp2
      go_region
      go_wp2
      have HB0 : Hid (Below w.heap.size w w.drew) := Lib.hid (Below.refl _ _).drew
      go_loopw [5, 6] (fun nv i wr => ∃ (k n : Nat), k ≤ T.size ∧ i = .int .i64 k ∧ nv = .int .u64 n ∧ Hid (n < 18446744073709551616 ∧ lpN 16 0 l = lpN 16 n (l.drop k)) ∧ Hid (Below w.heap.size w wr))
        (fun _ i _ => T.size - (intOf i).toNat)
      case atStart => exact ⟨0, 0, by omega, rfl, rfl, Lib.hid ⟨by omega, rfl⟩, HB0⟩
      case round =>
        obtain ⟨k, n, hk, rfl, rfl, HN, HBW⟩ := hrel
        by_cases hlt : k < T.size
        · have g1 : (k : Int) < (T.size : Int) := by omega
          obtain ⟨e, he⟩ : ∃ e, l[k]? = some e := ⟨_, List.getElem?_eq_getElem (by rw [HL.out]; exact hlt)⟩
          have hix := ixSb T k e (by rw [HS.out]; exact he)
          have hdrop : l.drop k = e :: l.drop (k + 1) := by
            rw [List.drop_eq_getElem_cons (by rw [HL.out]; exact hlt)]
            congr 1
            exact (List.getElem?_eq_some_iff.1 he).2
          have hstep := HN.out.2
          rw [hdrop, lpN] at hstep
          have hd16 := dgF_le e
          have HDG := Lib.hid fun W => digit_any e W
          obtain ⟨d, hd⟩ : ∃ d, dgF e = d := ⟨_, rfl⟩
          rw [hd] at hstep hd16 HDG
          have hn64 := HN.out.1
          clear he hdrop hd HN
          by_cases g2 : 16 ≤ d
          · rw [if_pos (.inl g2)] at hstep
            have g3 : (d : Int) ≥ 16 := by omega
            have g4 : decide ((d : Int) ≥ 16) = true := by simpa using g3
            have HE := Lib.hid hstep
            clear hstep g2
            go_wp2_with (go_at_call 18; refine (HDG.out _).mono ?_; rintro e w5 ⟨rfl, rfl⟩)
            go_ret2
            exact ⟨by rw [HE.out]; rfl, HBW.out⟩
          have g3 : ¬ (d : Int) ≥ 16 := by omega
          have g4 : decide ((d : Int) ≥ 16) = false := by simpa using g3
          have v1 := X1.out d hd16
          have v2 := X3.out d hd16
          have v3 := X4.out ((18446744073709551615 - d) / 16) (by omega)
          by_cases g5 : (18446744073709551615 - d) / 16 < n
          · rw [if_pos (.inr g5)] at hstep
            have g6 : (n : Int) > (((18446744073709551615 - d) / 16 : Nat) : Int) := by omega
            have g7 : decide ((n : Int) > (((18446744073709551615 - d) / 16 : Nat) : Int)) = true := by simpa using g6
            have HE := Lib.hid hstep
            clear hstep g2
            generalize (18446744073709551615 - d) / 16 = Q at *
            generalize 18446744073709551615 - d = Y at *
            go_wp2_with (go_at_call 18; refine (HDG.out _).mono ?_; rintro e w5 ⟨rfl, rfl⟩)
            go_ret2
            exact ⟨by rw [HE.out]; rfl, HBW.out⟩
          rw [if_neg (by omega)] at hstep
          have hnew : n * 16 + d < 18446744073709551616 := by omega
          have g6 : ¬ (n : Int) > (((18446744073709551615 - d) / 16 : Nat) : Int) := by omega
          have g7 : decide ((n : Int) > (((18446744073709551615 - d) / 16 : Nat) : Int)) = false := by simpa using g6
          have HE := Lib.hid (And.intro hnew hstep)
          have v5 : IntKind.u64.wrap ((n : Int) * 16) = (n : Int) * 16 := by rw [IntKind.wrap_u64]; omega
          have v6 : IntKind.u64.wrap ((n : Int) * 16 + (d : Int)) = (n : Int) * 16 + (d : Int) := by rw [IntKind.wrap_u64]; omega
          clear hstep g2
          generalize (18446744073709551615 - d) / 16 = Q at *
          generalize 18446744073709551615 - d = Y at *
          go_wp2_with (go_at_call 18; refine (HDG.out _).mono ?_; rintro e w5 ⟨rfl, rfl⟩)
          exact ⟨⟨k + 1, n * 16 + d, by omega, by go_num, by go_num, HE, HBW⟩, by simp [intOf]; omega⟩
        · obtain rfl : k = T.size := by omega
          have g1 : ¬ ((T.size : Nat) : Int) < (T.size : Int) := by omega
          have hend : lpN 16 0 l = some n := by
            rw [HN.out.2, List.drop_eq_nil_of_le (by rw [HL.out]; omega), lpN]
          have HE := Lib.hid hend
          clear hend HN
          go_wp2
          go_ret2
          exact ⟨by rw [HE.out]; rfl, HBW.out⟩
    · rw [hF]
      have p0 : ((T.size : Int) == 0) = false := beq_eq_false_iff_ne.2 (by omega)
      have p1 : (0 : Int) < (T.size : Int) := by omega
      have hix0 := ixSb T 0 c hc
      have hix0' : ∀ W, (Instr.index 9 (.string T) (.int .i64 0)).run Tryd.prog W = .ok (.int .u8 c.toNat) W := fun W => hix0 W
      clear hix0
      obtain ⟨l, hl⟩ : ∃ l, T.data.toList = l := ⟨_, rfl⟩
      have hlen : l.length = T.size := by rw [← hl]; exact Array.length_toList
      rw [hl]
      have HL := Lib.hid hlen
      have HS := Lib.hid hl
      clear hF hc h0 hl hlen
      go_enter Tryd.func7, Tryd.ntmps7
      go_wp2
      go_region
      go_wp2
      have HB0 : Hid (Below w.heap.size w w.drew) := Lib.hid (Below.refl _ _).drew
      go_loopw [5, 6] (fun nv i wr => ∃ (k n : Nat), k ≤ T.size ∧ i = .int .i64 k ∧ nv = .int .u64 n ∧ Hid (n < 18446744073709551616 ∧ lpN 16 0 l = lpN 16 n (l.drop k)) ∧ Hid (Below w.heap.size w wr))
        (fun _ i _ => T.size - (intOf i).toNat)
      case atStart => exact ⟨0, 0, by omega, rfl, rfl, Lib.hid ⟨by omega, rfl⟩, HB0⟩
      case round =>
        obtain ⟨k, n, hk, rfl, rfl, HN, HBW⟩ := hrel
        by_cases hlt : k < T.size
        · have g1 : (k : Int) < (T.size : Int) := by omega
          obtain ⟨e, he⟩ : ∃ e, l[k]? = some e := ⟨_, List.getElem?_eq_getElem (by rw [HL.out]; exact hlt)⟩
          have hix := ixSb T k e (by rw [HS.out]; exact he)
          have hdrop : l.drop k = e :: l.drop (k + 1) := by
            rw [List.drop_eq_getElem_cons (by rw [HL.out]; exact hlt)]
            congr 1
            exact (List.getElem?_eq_some_iff.1 he).2
          have hstep := HN.out.2
          rw [hdrop, lpN] at hstep
          have hd16 := dgF_le e
          have HDG := Lib.hid fun W => digit_any e W
          obtain ⟨d, hd⟩ : ∃ d, dgF e = d := ⟨_, rfl⟩
          rw [hd] at hstep hd16 HDG
          have hn64 := HN.out.1
          clear he hdrop hd HN
          by_cases g2 : 16 ≤ d
          · rw [if_pos (.inl g2)] at hstep
            have g3 : (d : Int) ≥ 16 := by omega
            have g4 : decide ((d : Int) ≥ 16) = true := by simpa using g3
            have HE := Lib.hid hstep
            clear hstep g2
            go_wp2_with (go_at_call 18; refine (HDG.out _).mono ?_; rintro e w5 ⟨rfl, rfl⟩)
            go_ret2
            exact ⟨by rw [HE.out]; rfl, HBW.out⟩
          have g3 : ¬ (d : Int) ≥ 16 := by omega
          have g4 : decide ((d : Int) ≥ 16) = false := by simpa using g3
          have v1 := X1.out d hd16
          have v2 := X3.out d hd16
          have v3 := X4.out ((18446744073709551615 - d) / 16) (by omega)
          by_cases g5 : (18446744073709551615 - d) / 16 < n
          · rw [if_pos (.inr g5)] at hstep
            have g6 : (n : Int) > (((18446744073709551615 - d) / 16 : Nat) : Int) := by omega
            have g7 : decide ((n : Int) > (((18446744073709551615 - d) / 16 : Nat) : Int)) = true := by simpa using g6
            have HE := Lib.hid hstep
            clear hstep g2
            generalize (18446744073709551615 - d) / 16 = Q at *
            generalize 18446744073709551615 - d = Y at *
            go_wp2_with (go_at_call 18; refine (HDG.out _).mono ?_; rintro e w5 ⟨rfl, rfl⟩)
            go_ret2
            exact ⟨by rw [HE.out]; rfl, HBW.out⟩
          rw [if_neg (by omega)] at hstep
          have hnew : n * 16 + d < 18446744073709551616 := by omega
          have g6 : ¬ (n : Int) > (((18446744073709551615 - d) / 16 : Nat) : Int) := by omega
          have g7 : decide ((n : Int) > (((18446744073709551615 - d) / 16 : Nat) : Int)) = false := by simpa using g6
          have HE := Lib.hid (And.intro hnew hstep)
          have v5 : IntKind.u64.wrap ((n : Int) * 16) = (n : Int) * 16 := by rw [IntKind.wrap_u64]; omega
          have v6 : IntKind.u64.wrap ((n : Int) * 16 + (d : Int)) = (n : Int) * 16 + (d : Int) := by rw [IntKind.wrap_u64]; omega
          clear hstep g2
          generalize (18446744073709551615 - d) / 16 = Q at *
          generalize 18446744073709551615 - d = Y at *
          go_wp2_with (go_at_call 18; refine (HDG.out _).mono ?_; rintro e w5 ⟨rfl, rfl⟩)
          exact ⟨⟨k + 1, n * 16 + d, by omega, by go_num, by go_num, HE, HBW⟩, by simp [intOf]; omega⟩
        · obtain rfl : k = T.size := by omega
          have g1 : ¬ ((T.size : Nat) : Int) < (T.size : Int) := by omega
          have hend : lpN 16 0 l = some n := by
            rw [HN.out.2, List.drop_eq_nil_of_le (by rw [HL.out]; omega), lpN]
          have HE := Lib.hid hend
          clear hend HN
          go_wp2
          go_ret2
          exact ⟨by rw [HE.out]; rfl, HBW.out⟩
/-- Both Numbers say the same of a text. -/
theorem nums_same (s : ByteArray) (hs : s.size ≤ 60) : ∃ o : Option Nat, numO s.data.toList = o ∧ (∀ X, TabP X → Tz X → ErrC X → Calls Tryd.prog 6 #[.string s] X fun e w' => e = .returned (numE o) ∧ Below X.heap.size X w') ∧ (∀ X, Calls Tryd.prog 7 #[.string s] X fun e w' => e = .returned (numE o) ∧ Below X.heap.size X w') := by
  refine ⟨_, rfl, fun X ht hz hv => ?_, fun X => refNumber_any s hs X⟩
  rcases numO_cases s with ⟨u, hu, rfl, hn⟩ | ⟨u, hu, rfl, hn⟩ | ⟨h1, h2, hn⟩
  · rw [hn]; exact number_dec u hu X ht
  · rw [hn]; exact number_hex u hu X hz
  · rw [hn]; exact number_no s hs h1 h2 X ht hz hv
end Go.Proofs.YtlajmdfebnicnaaDoor
