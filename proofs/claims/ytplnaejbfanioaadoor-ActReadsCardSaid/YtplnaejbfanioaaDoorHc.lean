/-
  Texts of plain digits, and act.plain at every text.
-/
import Derived.Test.YtplnaejbfanioaaDoorHb
import Derived.WalkSmall
import Derived.Shelf.Pu.ErrVarParseUint
import Derived.RegionTactic
namespace Go.Proofs.YtplnaejbfanioaaDoor
open Go.Shelf Go.RowKit
set_option linter.unusedVariables false

def valD (l : List UInt8) : Nat := l.foldl (fun n c => 10 * n + (c.toNat - 48)) 0
theorem valD_snoc (l : List UInt8) (c : UInt8) : valD (l ++ [c]) = 10 * valD l + (c.toNat - 48) := by simp [valD, List.foldl_append]
def Dig (l : List UInt8) : Prop := ∀ b ∈ l, 48 ≤ b.toNat ∧ b.toNat ≤ 57
/-- What the document tests of a number's text. -/
def Tst (l : List UInt8) : Prop := l ≠ [] ∧ l.length ≤ 9 ∧ (l.head? = some 48 → l.length ≤ 1) ∧ Dig l
theorem dig_back {c : UInt8} (h : 48 ≤ c.toNat ∧ c.toNat ≤ 57) : UInt8.ofNat (48 + (c.toNat - 48)) = c := by
  rw [show 48 + (c.toNat - 48) = c.toNat by omega, UInt8.ofNat_toNat]
theorem dec_valD : ∀ (n : Nat) (l : List UInt8), l.length = n → l ≠ [] → (l.head? = some 48 → l.length ≤ 1) → Dig l → Lib.decDigits (valD l) = l := by
  intro n
  induction n with
  | zero => intro l hl hne; exact absurd (List.eq_nil_of_length_eq_zero hl) hne
  | succ n ih =>
    intro l hl hne hh hd
    rcases List.eq_nil_or_concat l with rfl | ⟨L, c, rfl⟩
    · exact absurd rfl hne
    · simp only [List.concat_eq_append] at hl hne hh hd ⊢
      have hc := hd c (by simp)
      rw [valD_snoc]
      by_cases hL : L = []
      · subst hL
        rw [show 10 * valD [] + (c.toNat - 48) = c.toNat - 48 by simp [valD], Lib.decDigits_one (by omega), dig_back hc]
        rfl
      · have hlen : (L ++ [c]).length ≥ 2 := by
          have : L.length ≠ 0 := fun e => hL (List.eq_nil_of_length_eq_zero e)
          simp; omega
        have hhd : (L ++ [c]).head? = L.head? := by
          cases L with
          | nil => exact absurd rfl hL
          | cons a b => rfl
        have hn48 : L.head? ≠ some 48 := fun e => by have := hh (by rw [hhd]; exact e); omega
        have e := ih L (by simpa using hl) hL (fun e => absurd e hn48) (fun b hb => hd b (by simp [hb]))
        have hpos : 1 ≤ valD L := by
          rcases Nat.eq_zero_or_pos (valD L) with h0 | h0
          · rw [h0, Lib.decDigits_one (by omega)] at e
            exact absurd (by rw [← e]; rfl) hn48
          · exact h0
        rw [Lib.decDigits, dif_neg (by omega), show (10 * valD L + (c.toNat - 48)) / 10 = valD L by omega, show (10 * valD L + (c.toNat - 48)) % 10 = c.toNat - 48 by omega, e, dig_back hc]
theorem valD_dec (u : Nat) : valD (Lib.decDigits u) = u := by
  induction u using Nat.strongRecOn with
  | _ u ih =>
    by_cases h : u < 10
    · rw [Lib.decDigits_one h]
      show 10 * 0 + ((UInt8.ofNat (48 + u)).toNat - 48) = u
      rw [dig_nat h]; omega
    · rw [Lib.decDigits, dif_neg h, valD_snoc, ih (u / 10) (by omega), dig_nat (Nat.mod_lt _ (by omega))]
      omega
theorem dec_len_pow : ∀ (k u : Nat), u < 10 ^ (k + 1) → (Lib.decDigits u).length ≤ k + 1 := by
  intro k
  induction k with
  | zero => intro u h; rw [Lib.decDigits_one (by omega)]; simp
  | succ k ih =>
    intro u h
    by_cases h10 : u < 10
    · rw [Lib.decDigits_one h10]; simp
    · rw [Lib.decDigits, dif_neg h10, List.length_append]
      have := ih (u / 10) (by rw [Nat.pow_succ] at h; omega)
      simp
      omega
theorem dec_head (u : Nat) : (Lib.decDigits u).head? = some 48 → u < 10 := by
  induction u using Nat.strongRecOn with
  | _ u ih =>
    intro h
    by_cases h10 : u < 10
    · exact h10
    · rw [Lib.decDigits, dif_neg h10] at h
      have hne := decDigits_ne (u / 10)
      have hh : (Lib.decDigits (u / 10)).head? = some 48 := by
        cases hl : Lib.decDigits (u / 10) with
        | nil => exact absurd hl hne
        | cons a b => rw [hl] at h; exact h
      have hlt := ih (u / 10) (by omega) hh
      rw [Lib.decDigits_one hlt] at hh
      have e : UInt8.ofNat (48 + u / 10) = 48 := by simpa using hh
      have := congrArg UInt8.toNat e
      rw [dig_nat hlt] at this
      have h48 : (48 : UInt8).toNat = 48 := rfl
      omega
theorem tst_dec (u : Nat) (hu : u < 1000000000) : Tst (Lib.decDigits u) := by
  refine ⟨decDigits_ne u, dec_len_pow 8 u (by omega), fun h => ?_, decDigits_dig u⟩
  rw [Lib.decDigits_one (dec_head u h)]
  simp
theorem dec_tst {l : List UInt8} (h : Tst l) : Lib.decDigits (valD l) = l ∧ valD l < 1000000000 := by
  have e := dec_valD l.length l rfl h.1 h.2.2.1 h.2.2.2
  refine ⟨e, ?_⟩
  by_cases hb : valD l < 1000000000
  · exact hb
  · exfalso
    have hlen : ∀ (k u : Nat), 10 ^ k ≤ u → k + 1 ≤ (Lib.decDigits u).length := by
      intro k
      induction k with
      | zero =>
        intro u _
        have := decDigits_ne u
        have : (Lib.decDigits u).length ≠ 0 := fun e => this (List.eq_nil_of_length_eq_zero e)
        omega
      | succ k ih =>
        intro u h
        have h10 : ¬ u < 10 := by
          have : 10 ^ 1 ≤ 10 ^ (k + 1) := Nat.pow_le_pow_right (by omega) (by omega)
          omega
        rw [Lib.decDigits, dif_neg h10, List.length_append]
        have := ih (u / 10) (by rw [Nat.pow_succ] at h; omega)
        simp
        omega
    have := hlen 9 (valD l) (by omega)
    rw [e] at this
    have := h.2.1
    omega
/-- The number that a text is, if it is one. -/
theorem num_cases (s : ByteArray) : (∃ u, u < 1000000000 ∧ s = dec u ∧ Tst s.data.toList) ∨ ((∀ u, u < 1000000000 → s ≠ dec u) ∧ ¬ Tst s.data.toList) := by
  by_cases h : Tst s.data.toList
  · obtain ⟨e, hb⟩ := dec_tst h
    refine .inl ⟨valD s.data.toList, hb, ?_, h⟩
    apply ByteArray.ext
    show s.data = (Lib.decDigits (valD s.data.toList)).toArray
    rw [e]
  · refine .inr ⟨fun u hu e => h ?_, h⟩
    rw [e]
    exact tst_dec u hu

/-- The two listed errors are there. -/
abbrev ErrP (w : World) : Prop := (∃ tp p, w.var? Tryd.prog "strconv.ErrSyntax" = some #[.iface tp p]) ∧ (∃ tp p, w.var? Tryd.prog "strconv.ErrRange" = some #[.iface tp p])
theorem var_on {n : String} {w w' : World} {B : Nat} {cs : Array Value} (h : w.var? Tryd.prog n = some cs) (hb : Below B w w') (hB : w.heap.size ≤ B) : w'.var? Tryd.prog n = some cs := by
  cases hg : Tryd.prog.globalNamed n with
  | none => simp [World.var?, hg] at h
  | some g =>
    have hlt : g < w.heap.size := by
      unfold World.var? at h
      rw [hg] at h
      simp only [Option.bind_some] at h
      rcases Nat.lt_or_ge g w.heap.size with h' | h'
      · exact h'
      · rw [Array.getElem?_eq_none h'] at h; simp at h
    exact var?_below hb hg (by omega) h
theorem err_on {w w' : World} {B : Nat} (h : ErrP w) (hb : Below B w w') (hB : w.heap.size ≤ B) : ErrP w' := by
  obtain ⟨⟨t1, p1, h1⟩, ⟨t2, p2, h2⟩⟩ := h
  exact ⟨⟨t1, p1, var_on h1 hb hB⟩, ⟨t2, p2, var_on h2 hb hB⟩⟩
theorem parseU32_ok' (s : ByteArray) (hs : s.size ≤ 30) (u : Nat) (h : Lib.parseUintB 32 s.data.toList = .ok u) (w : World) : Calls Tryd.prog 33 #[.string s, .int .i64 10, .int .i64 32] w fun e w' => e = .returned (.tuple #[.int .u64 u, .nilIface]) ∧ Below w.heap.size w w' := by
  refine (Any.strconv_ParseUint_10_at32_ok Tryd.laysPu14 s (by omega) u h w).mono ?_
  rintro e w' ⟨he, rfl | rfl⟩
  · exact ⟨he, Below.refl _ _⟩
  · exact ⟨he, below_bytes _ _ _⟩
theorem parseU32_err (s : ByteArray) (hs : s.size ≤ 30) (h : ∀ u, Lib.parseUintB 32 s.data.toList ≠ .ok u) (w : World) (hv : ErrP w) : Calls Tryd.prog 33 #[.string s, .int .i64 10, .int .i64 32] w fun e w' => (∃ x t p, e = .returned (.tuple #[.int .u64 x, .iface t p])) ∧ Below w.heap.size w w' := by
  obtain ⟨⟨t1, p1, h1⟩, ⟨t2, p2, h2⟩⟩ := hv
  cases hp : Lib.parseUintB 32 s.data.toList with
  | ok u => exact absurd hp (h u)
  | «syntax» =>
    refine (Any.strconv_ParseUint_10_at32_syntax_var Tryd.laysPu14 s (by omega) hp t1 p1 w h1).mono ?_
    rintro e w' ⟨N, he, _, _, hB⟩
    exact ⟨⟨_, _, _, he⟩, hB⟩
  | range =>
    refine (Any.strconv_ParseUint_10_at32_range_var Tryd.laysPu14 s (by omega) hp t2 p2 w h2).mono ?_
    rintro e w' ⟨N, he, _, _, hB⟩
    exact ⟨⟨_, _, _, he⟩, hB⟩
theorem toList_ne {a b : ByteArray} (h : a ≠ b) : (a.toList != b.toList) = true := by
  rw [bne_iff_ne]
  intro e
  rw [Lib.toList_data, Lib.toList_data] at e
  exact h (ByteArray.ext (Array.toList_inj.1 e))
set_option maxRecDepth 100000 in
set_option maxHeartbeats 4000000 in
theorem plain_yes (u : Nat) (hu : u < 1000000000) (w : World) (ht : TabP w) :
    Calls Tryd.prog 41 #[.string (dec u)] w fun e w' => e = .returned (.tuple #[.int .i64 u, .bool true]) ∧ Below w.heap.size w w' := by
  have hsz : (dec u).size ≤ 9 := by
    have h := dec_len_pow 8 u (by omega)
    show (Lib.decDigits u).toArray.size ≤ _
    simpa using h
  have HP := Lib.hid (parseU32_ok' (dec u) (by omega) u (parse_ok32 u (by omega)) w)
  have HT := Lib.hid ht
  have HF := Lib.hid fun W hW => fmtU_any u (by omega) W hW
  clear ht
  generalize dec u = S at HP HF hsz ⊢
  have e0 : (S.toList != S.toList) = false := by simp
  have e1 : (S.toList == S.toList) = true := by simp
  have q0 : ¬ (S.size : Int) > 9 := by omega
  have q1 : decide ((S.size : Int) > 9) = false := by simpa using q0
  have v0 : IntKind.i64.wrap (u : Int) = u := by rw [IntKind.wrap_i64]; omega
  go_enter Tryd.func41, Tryd.ntmps41
  go_wp2_with fail
  refine HP.out.mono ?_
  rintro e w2 ⟨rfl, hB2⟩
  have HW := Lib.hid (HF.out w2 (tab_on HT.out hB2 (Nat.le_refl _)))
  have HB2 := Lib.hid hB2
  clear hB2
  go_wp2_with (go_at_call 34; refine HW.out.mono ?_; rintro e w3 ⟨rfl, hB3⟩)
  go_ret2
  exact ⟨rfl, HB2.out.trans (hB3.mono HB2.out.size)⟩
set_option maxRecDepth 100000 in
set_option maxHeartbeats 4000000 in
theorem plain_no (s : ByteArray) (hs : s.size ≤ 30) (hno : ∀ u, u < 1000000000 → s ≠ dec u) (w : World) (ht : TabP w) (hv : ErrP w) :
    Calls Tryd.prog 41 #[.string s] w fun e w' => e = .returned (.tuple #[.int .i64 0, .bool false]) ∧ Below w.heap.size w w' := by
  by_cases h9 : s.size > 9
  · have HB := Lib.hid (Below.refl w.heap.size w)
    have q0 : (s.size : Int) > 9 := by omega
    have q1 : decide ((s.size : Int) > 9) = true := by simpa using q0
    clear hno
    go_enter Tryd.func41, Tryd.ntmps41
    go_wp2
    go_ret2
    exact ⟨rfl, HB.out⟩
  · have q0 : ¬ (s.size : Int) > 9 := by omega
    have q1 : decide ((s.size : Int) > 9) = false := by simpa using q0
    by_cases hp : ∃ u, Lib.parseUintB 32 s.data.toList = .ok u
    · obtain ⟨u, hp⟩ := hp
      have hle := Lib.parseUintB_le hp
      have hu : u < 18446744073709551616 := by omega
      have hne : dec u ≠ s := by
        intro e
        by_cases hb : u < 1000000000
        · exact hno u hb e.symm
        · have h2 : (dec u).size ≤ 9 := by rw [e]; omega
          have h3 : (Lib.decDigits u).length ≤ 9 := by
            have : (dec u).size = (Lib.decDigits u).length := by show (Lib.decDigits u).toArray.size = _; simp
            omega
          have h4 : Tst (Lib.decDigits u) := ⟨decDigits_ne u, h3, fun h => by rw [Lib.decDigits_one (dec_head u h)]; simp, decDigits_dig u⟩
          have := (dec_tst h4).2
          rw [valD_dec] at this
          omega
      have HP := Lib.hid (parseU32_ok' s hs u hp w)
      have HT := Lib.hid ht
      have HF := Lib.hid fun W hW => fmtU_any u hu W hW
      have e0 := toList_ne hne
      have e1 : ((dec u).toList == s.toList) = false := by simpa using e0
      clear ht hno hp hle hne hv
      generalize dec u = S at HF e0 e1
      go_enter Tryd.func41, Tryd.ntmps41
      go_wp2_with fail
      refine HP.out.mono ?_
      rintro e w2 ⟨rfl, hB2⟩
      have HW := Lib.hid (HF.out w2 (tab_on HT.out hB2 (Nat.le_refl _)))
      have HB2 := Lib.hid hB2
      clear hB2
      go_wp2_with (go_at_call 34; refine HW.out.mono ?_; rintro e w3 ⟨rfl, hB3⟩)
      go_ret2
      exact ⟨rfl, HB2.out.trans (hB3.mono HB2.out.size)⟩
    · have HP := Lib.hid (parseU32_err s hs (fun u e => hp ⟨u, e⟩) w hv)
      clear ht hno hp hv
      go_enter Tryd.func41, Tryd.ntmps41
      go_wp2_with fail
      refine HP.out.mono ?_
      rintro e w2 ⟨⟨x, t, p, rfl⟩, hB2⟩
      go_wp2
      go_ret2
      exact ⟨rfl, hB2⟩
end Go.Proofs.YtplnaejbfanioaaDoor
