/-
  The contract of cond.argument at every word.
-/
import Derived.Test.YtlajmdfebnicnaaDoorNa
import Derived.RegionTactic
namespace Go.Proofs.YtlajmdfebnicnaaDoor
open Go.Shelf Go.RowKit Go.Sort Go.Lib
set_option linter.unusedVariables false

abbrev figs10 : List UInt8 := [48, 49, 50, 51, 52, 53, 54, 55, 56, 57]
theorem figs10_has (c : UInt8) : figs10.contains c = true ↔ 48 ≤ c.toNat ∧ c.toNat ≤ 57 := by
  constructor
  · intro h
    have : c = 48 ∨ c = 49 ∨ c = 50 ∨ c = 51 ∨ c = 52 ∨ c = 53 ∨ c = 54 ∨ c = 55 ∨ c = 56 ∨ c = 57 := by simpa using h
    rcases this with rfl | rfl | rfl | rfl | rfl | rfl | rfl | rfl | rfl | rfl <;> decide
  · intro hc
    have : c = UInt8.ofNat c.toNat := (UInt8.ofNat_toNat).symm
    rw [this]
    have h : c.toNat = 48 ∨ c.toNat = 49 ∨ c.toNat = 50 ∨ c.toNat = 51 ∨ c.toNat = 52 ∨ c.toNat = 53 ∨ c.toNat = 54 ∨ c.toNat = 55 ∨ c.toNat = 56 ∨ c.toNat = 57 := by omega
    rcases h with h | h | h | h | h | h | h | h | h | h <;> rw [h] <;> decide
theorem mem_dropWhile_not {p : UInt8 → Bool} {c : UInt8} (hc : p c = false) : ∀ l : List UInt8, c ∈ l → c ∈ l.dropWhile p := by
  intro l
  induction l with
  | nil => intro h; exact h
  | cons a l ih =>
    intro h
    rw [List.dropWhile_cons]
    split
    · rename_i hp
      rcases List.mem_cons.1 h with rfl | h
      · rw [hc] at hp; exact nomatch hp
      · exact ih h
    · exact h
theorem dropWhile_all {p : UInt8 → Bool} : ∀ l : List UInt8, (∀ c ∈ l, p c = true) → l.dropWhile p = [] := by
  intro l
  induction l with
  | nil => intro _; rfl
  | cons a l ih =>
    intro h
    rw [List.dropWhile_cons, if_pos (h a (by simp))]
    exact ih fun c hc => h c (by simp [hc])
theorem trimS_all (D : List UInt8) (h : ∀ c ∈ D, 48 ≤ c.toNat ∧ c.toNat ≤ 57) : Lib.trimS D figs10 = [] := by
  simp only [Lib.trimS, Lib.trimRightS, Lib.trimLeftS]
  rw [dropWhile_all (p := fun x => figs10.contains x) D.reverse fun c hc => (figs10_has c).2 (h c (List.mem_reverse.1 hc))]
  rfl
theorem trimS_some (D : List UInt8) (c : UInt8) (hc : c ∈ D) (hn : ¬ (48 ≤ c.toNat ∧ c.toNat ≤ 57)) : Lib.trimS D figs10 ≠ [] := by
  have hp : figs10.contains c = false := by
    cases h : figs10.contains c
    · rfl
    · exact absurd ((figs10_has c).1 h) hn
  intro e
  simp only [Lib.trimS, Lib.trimRightS, Lib.trimLeftS] at e
  have h1 := mem_dropWhile_not (p := fun x => figs10.contains x) hp D.reverse (List.mem_reverse.2 hc)
  have h2 := mem_dropWhile_not (p := fun x => figs10.contains x) hp _ (List.mem_reverse.2 h1)
  rw [e] at h2
  exact nomatch h2
theorem trimAny (D : List UInt8) (hn : D ≠ []) (hl : D.length ≤ 60) (w : World) : Calls Tryd.prog 20 #[.string ⟨D.toArray⟩, .string ⟨#[48, 49, 50, 51, 52, 53, 54, 55, 56, 57]⟩] w fun e w' => e = .returned (.string ⟨(Lib.trimS D figs10).toArray⟩) ∧ Below w.heap.size w w' := by
  refine (Any.strings_Trim_laid Tryd.lays160 (by kernel_rfl) ⟨D.toArray⟩ ⟨#[48, 49, 50, 51, 52, 53, 54, 55, 56, 57]⟩ w (by show D.toArray.size ≤ _; simp; omega) (by decide) (ascii_of_all (by decide))).mono ?_
  rintro e w' ⟨he, hB⟩
  exact ⟨he, hB⟩
abbrev txt (D : List UInt8) : ByteArray := ⟨D.toArray⟩
theorem cutA (D : List UInt8) (w : World) : Calls Tryd.prog 15 #[.string (txt (97 :: D)), .string ⟨#[97]⟩] w fun e w' => e = .returned (.tuple #[.string (txt D), .bool true]) ∧ w' = w := by
  refine (Tryd.strings_CutPrefix (txt (97 :: D)) ⟨#[97]⟩ w).mono ?_
  rintro e w' ⟨he, hw⟩
  refine ⟨he.trans ?_, hw⟩
  have h1 : Lib.hasPrefix (txt (97 :: D)).data.toList (ByteArray.mk #[97]).data.toList = true := by
    show List.isPrefixOf [97] (97 :: D) = true
    simp [List.isPrefixOf]
  rw [Lib.trimPrefix, h1, if_pos rfl]
  rfl
theorem cutNoA (s : ByteArray) (h : Lib.hasPrefix s.data.toList [97] = false) (w : World) : Calls Tryd.prog 15 #[.string s, .string ⟨#[97]⟩] w fun e w' => e = .returned (.tuple #[.string s, .bool false]) ∧ w' = w := by
  refine (Tryd.strings_CutPrefix s ⟨#[97]⟩ w).mono ?_
  rintro e w' ⟨he, hw⟩
  refine ⟨he.trans ?_, hw⟩
  have h1 : Lib.hasPrefix s.data.toList (ByteArray.mk #[97]).data.toList = false := h
  rw [Lib.trimPrefix, h1, if_neg (by decide)]
set_option maxRecDepth 100000 in
set_option maxHeartbeats 4000000 in
/-- No a ahead: none. -/
theorem argument_no (s : ByteArray) (h : Lib.hasPrefix s.data.toList [97] = false) (w : World) : Calls Tryd.prog 10 #[.string s] w fun e w' => e = .returned (.tuple #[.int .i64 0, .int .i64 13]) ∧ Below w.heap.size w w' := by
  have HC := Lib.hid (cutNoA s h w)
  clear h
  go_enter Tryd.func10, Tryd.ntmps10
  go_wp2_with fail
  refine HC.out.mono ?_
  rintro e w1 ⟨rfl, rfl⟩
  go_wp2
  go_ret2
  exact ⟨rfl, Below.refl _ _⟩
set_option maxRecDepth 100000 in
set_option maxHeartbeats 4000000 in
/-- An a alone: none. -/
theorem argument_a (w : World) : Calls Tryd.prog 10 #[.string ⟨#[97]⟩] w fun e w' => e = .returned (.tuple #[.int .i64 0, .int .i64 13]) ∧ Below w.heap.size w w' := by
  have HC := Lib.hid (cutA [] w)
  go_enter Tryd.func10, Tryd.ntmps10
  go_wp2_with fail
  refine HC.out.mono ?_
  rintro e w1 ⟨rfl, rfl⟩
  go_wp2
  go_ret2
  exact ⟨rfl, Below.refl _ _⟩
set_option maxRecDepth 100000 in
set_option maxHeartbeats 4000000 in
/-- What is no figure behind the a: none. -/
theorem argument_form (D : List UInt8) (hl : D.length ≤ 60) (c : UInt8) (hc : c ∈ D) (hn : ¬ (48 ≤ c.toNat ∧ c.toNat ≤ 57)) (w : World) : Calls Tryd.prog 10 #[.string (txt (97 :: D))] w fun e w' => e = .returned (.tuple #[.int .i64 0, .int .i64 13]) ∧ Below w.heap.size w w' := by
  have hne : D ≠ [] := fun e => by rw [e] at hc; exact nomatch hc
  have HC := Lib.hid (cutA D w)
  have HT := Lib.hid (trimAny D hne hl w)
  obtain ⟨T, hT⟩ : ∃ T, Lib.trimS D figs10 = T := ⟨_, rfl⟩
  have hT0 : T ≠ [] := hT ▸ trimS_some D c hc hn
  rw [hT] at HT
  have t1 : (D == []) = false := by simpa using hne
  have t2 : D.isEmpty = false := by cases D with | nil => exact absurd rfl hne | cons _ _ => rfl
  have t3 : (T == []) = false := by simpa using hT0
  have t4 : T.isEmpty = false := by cases T with | nil => exact absurd rfl hT0 | cons _ _ => rfl
  have t5 : (T != []) = true := by simpa using hT0
  clear hl hc hn hT
  go_enter Tryd.func10, Tryd.ntmps10
  go_wp2_with fail
  refine HC.out.mono ?_
  rintro e w1 ⟨rfl, rfl⟩
  go_wp2_with (go_at_call 20; refine HT.out.mono ?_; rintro e w3 ⟨rfl, hB3⟩)
  go_ret2
  exact ⟨rfl, hB3⟩
set_option maxRecDepth 100000 in
set_option maxHeartbeats 4000000 in
/-- Figures that are no argument. -/
theorem argument_range (c : UInt8) (D : List UInt8) (hl : D.length ≤ 59) (hd : ∀ b ∈ c :: D, 48 ≤ b.toNat ∧ b.toNat ≤ 57) (hr : D ≠ [] ∨ 53 < c.toNat) (w : World) : Calls Tryd.prog 10 #[.string (txt (97 :: c :: D))] w fun e w' => e = .returned (.tuple #[.int .i64 0, .int .i64 16]) ∧ Below w.heap.size w w' := by
  have HC := Lib.hid (cutA (c :: D) w)
  have HT := Lib.hid (trimAny (c :: D) (by simp) (by simp; omega) w)
  rw [trimS_all _ hd] at HT
  obtain ⟨T, hT⟩ : ∃ T, txt (c :: D) = T := ⟨_, rfl⟩
  have hix0 := ixSb T 0 c (by rw [← hT]; rfl)
  have hix0' : ∀ W, (Instr.index 9 (.string T) (.int .i64 0)).run Tryd.prog W = .ok (.int .u8 c.toNat) W := fun W => hix0 W
  have hsz : T.size = D.length + 1 := by rw [← hT]; show (c :: D).toArray.size = _; simp
  have p0 : T.size ≠ 0 := by omega
  have p1 : (0 : Int) < (T.size : Int) := by omega
  have t0 : T.data.toList = c :: D := by rw [← hT]
  have t1 : (T.data.toList == []) = false := by rw [t0]; rfl
  have t2 : T.data.toList.isEmpty = false := by rw [t0]; rfl
  have t3 : (T.toList == []) = false := by rw [Lib.toList_data]; exact t1
  have t4 : T.toList.isEmpty = false := by rw [Lib.toList_data]; exact t2
  change Hid (Calls Tryd.prog 15 #[.string (txt (97 :: c :: D)), .string ⟨#[97]⟩] w fun e w' => e = .returned (.tuple #[.string (txt (c :: D)), .bool true]) ∧ w' = w) at HC
  change Hid (Calls Tryd.prog 20 #[.string (txt (c :: D)), .string ⟨#[48, 49, 50, 51, 52, 53, 54, 55, 56, 57]⟩] w fun e w' => e = .returned (.string ⟨#[]⟩) ∧ Below w.heap.size w w') at HT
  rw [hT] at HC HT
  obtain ⟨S, hS⟩ : ∃ S, txt (97 :: c :: D) = S := ⟨_, rfl⟩
  rw [hS] at HC
  rw [hS]
  clear hix0 hT t0 hS
  by_cases h2 : D = []
  · have h3 : 53 < c.toNat := by rcases hr with h | h; exact absurd h2 h; exact h
    subst h2
    have q1 : ¬ (T.size : Int) > 1 := by rw [hsz]; simp
    have q2 : decide ((T.size : Int) > 1) = false := by simpa using q1
    have q3 : (c.toNat : Int) ≥ 54 := by omega
    have q4 : decide ((c.toNat : Int) ≥ 54) = true := by simpa using q3
    clear hsz hl hd hr
    go_enter Tryd.func10, Tryd.ntmps10
    go_wp2_with fail
    refine HC.out.mono ?_
    rintro e w1 ⟨rfl, rfl⟩
    go_wp2_with (go_at_call 20; refine HT.out.mono ?_; rintro e w3 ⟨rfl, hB3⟩)
    go_ret2
    exact ⟨rfl, hB3⟩
  · have h4 : 0 < D.length := List.length_pos_iff.2 h2
    have q1 : (T.size : Int) > 1 := by omega
    have q2 : decide ((T.size : Int) > 1) = true := by simpa using q1
    clear hsz hl hd hr h2 h4
    go_enter Tryd.func10, Tryd.ntmps10
    go_wp2_with fail
    refine HC.out.mono ?_
    rintro e w1 ⟨rfl, rfl⟩
    go_wp2_with (go_at_call 20; refine HT.out.mono ?_; rintro e w3 ⟨rfl, hB3⟩)
    go_ret2
    exact ⟨rfl, hB3⟩
/-- The five kinds of a first word. -/
theorem arg_cases (s : ByteArray) (hs : s.size ≤ 60) : (Lib.hasPrefix s.data.toList [97] = false) ∨ s = ⟨#[97]⟩ ∨ (∃ (D : List UInt8) (c : UInt8), D.length ≤ 59 ∧ s = txt (97 :: D) ∧ c ∈ D ∧ ¬ (48 ≤ c.toNat ∧ c.toNat ≤ 57)) ∨ (∃ (c : UInt8) (D : List UInt8), D.length ≤ 58 ∧ s = txt (97 :: c :: D) ∧ (∀ b ∈ c :: D, 48 ≤ b.toNat ∧ b.toNat ≤ 57) ∧ (D ≠ [] ∨ 53 < c.toNat)) ∨ (∃ i, i < 6 ∧ s = argW i) := by
  have hlen : s.data.toList.length = s.size := Array.length_toList
  cases hp : Lib.hasPrefix s.data.toList [97]
  · exact .inl rfl
  have hp' : List.isPrefixOf [97] s.data.toList = true := hp
  have hS : s = txt s.data.toList := ByteArray.ext (by simp)
  match hl : s.data.toList with
  | [] => rw [hl] at hp'; simp [List.isPrefixOf] at hp'
  | [a] =>
    rw [hl] at hp' hS
    simp only [List.isPrefixOf, Bool.and_true, beq_iff_eq] at hp'
    subst hp'
    exact .inr (.inl hS)
  | a :: c :: D =>
    rw [hl] at hp' hS hlen
    simp only [List.isPrefixOf, Bool.and_true, beq_iff_eq] at hp'
    subst hp'
    simp only [List.length_cons] at hlen
    refine .inr (.inr ?_)
    by_cases hd : ∀ b ∈ c :: D, 48 ≤ b.toNat ∧ b.toNat ≤ 57
    · refine .inr ?_
      by_cases hr : D ≠ [] ∨ 53 < c.toNat
      · exact .inl ⟨c, D, by omega, hS, hd, hr⟩
      · have h1 : D = [] := Classical.byContradiction fun h => hr (.inl h)
        have h2 : ¬ 53 < c.toNat := fun h => hr (.inr h)
        have h3 := hd c (by simp)
        subst h1
        refine .inr ⟨c.toNat - 48, by omega, hS.trans ?_⟩
        have h4 : UInt8.ofNat (48 + (c.toNat - 48)) = c := by rw [show 48 + (c.toNat - 48) = c.toNat by omega]; exact UInt8.ofNat_toNat
        show (⟨#[97, c]⟩ : ByteArray) = ⟨#[97, UInt8.ofNat (48 + (c.toNat - 48))]⟩
        rw [h4]
    · obtain ⟨b, hb⟩ := Classical.not_forall.1 hd
      obtain ⟨hb, hn⟩ := Classical.not_imp.1 hb
      exact .inl ⟨c :: D, b, by simp; omega, hS, hb, hn⟩
end Go.Proofs.YtlajmdfebnicnaaDoor
