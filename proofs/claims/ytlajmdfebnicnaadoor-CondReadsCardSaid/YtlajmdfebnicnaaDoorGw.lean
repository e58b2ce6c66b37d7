/-
  cond.Number of a text that is no number's.
-/
import Derived.Test.YtlajmdfebnicnaaDoorGv
namespace Go.Proofs.YtlajmdfebnicnaaDoor
open Go.Shelf Go.RowKit Go.Sort Go.Lib
set_option linter.unusedVariables false

theorem toListG_ne {a b : ByteArray} (h : a ≠ b) : (a.toList == b.toList) = false := by
  refine beq_eq_false_iff_ne.2 fun e => ?_
  rw [Lib.toList_data, Lib.toList_data] at e
  exact h (ByteArray.ext (Array.toList_inj.1 e))
theorem pu16_lt (l : List UInt8) : ∀ (a u : Nat), a < 18446744073709551616 → pu16 a l = .ok u → u < 18446744073709551616 := by
  induction l with
  | nil =>
    intro a u ha h
    have : a = u := by
      rw [pu16] at h
      exact Lib.NumEnd.ok.inj h
    omega
  | cons c l ih =>
    intro a u ha h
    rw [pu16] at h
    split at h
    · exact nomatch h
    · split at h
      · exact nomatch h
      · exact ih _ u (by omega) h
set_option maxHeartbeats 1000000 in
theorem parse16_okG (s : ByteArray) (hne : s.size ≠ 0) (hs : s.size ≤ 60) (u : Nat) (h : pu16 0 s.data.toList = .ok u) (w : World) :
    Calls Tryd.prog 16 #[.string s, .int .i64 16, .int .i64 64] w fun e w' => e = .returned (.tuple #[.int .u64 u, .nilIface]) ∧ Below w.heap.size w w' := by
  have HI := iparse16_all s hne (by omega) w
  rw [h] at HI
  have HF := Lib.hid HI
  clear HI h
  go_enter Tryd.func16, Tryd.ntmps16
  go_wp2_with fail
  refine HF.out.mono ?_
  rintro e w1 ⟨he, hB1⟩
  replace he : e = .returned (.tuple #[.int .u64 u, .nilIface]) := he
  subst he
  go_wp2
  go_ret2
  exact ⟨rfl, hB1⟩
set_option maxHeartbeats 1000000 in
theorem parse16_nil (w : World) (hv : ErrC w) :
    Calls Tryd.prog 16 #[.string ⟨#[]⟩, .int .i64 16, .int .i64 64] w fun e w' => (∃ x t p, e = .returned (.tuple #[.int .u64 x, .iface t p])) ∧ Below w.heap.size w w' := by
  have HF := Lib.hid (AnyPu.internal_strconv_ParseUint_empty { Tryd.laysPu14 with } 16 64 w)
  have HV := Lib.hid hv
  clear hv
  go_enter Tryd.func16, Tryd.ntmps16
  go_wp2_with fail
  refine HF.out.mono ?_
  rintro e w1 ⟨he, hw⟩
  subst hw
  replace he : e = .returned (.tuple #[.int .u64 0, .iface 71 (.int .i64 2)]) := he
  subst he
  go_wp2_with (go_at_call 24; refine (toErr_syn _ _ (by decide) _ HV.out).mono ?_; rintro e w2 ⟨⟨t, p, rfl⟩, hB2⟩)
  go_ret2
  exact ⟨⟨_, _, _, rfl⟩, hB2⟩
theorem parse10_okG (s : ByteArray) (hs : s.size ≤ 60) (u : Nat) (h : Lib.parseUintB 64 s.data.toList = .ok u) (w : World) : Calls Tryd.prog 16 #[.string s, .int .i64 10, .int .i64 64] w fun e w' => e = .returned (.tuple #[.int .u64 u, .nilIface]) ∧ Below w.heap.size w w' := by
  refine (Any.strconv_ParseUint_10_at64_ok Tryd.laysPu14 s (by omega) u h w).mono ?_
  rintro e w' ⟨he, rfl | rfl⟩
  · exact ⟨he, Below.refl _ _⟩
  · exact ⟨he, below_bytes _ _ _⟩
theorem parse10_bad (s : ByteArray) (hs : s.size ≤ 60) (h : ∀ u, Lib.parseUintB 64 s.data.toList ≠ .ok u) (w : World) (hv : ErrC w) : Calls Tryd.prog 16 #[.string s, .int .i64 10, .int .i64 64] w fun e w' => (∃ x t p, e = .returned (.tuple #[.int .u64 x, .iface t p])) ∧ Below w.heap.size w w' := by
  obtain ⟨⟨t1, p1, h1⟩, ⟨t2, p2, h2⟩⟩ := hv
  cases hp : Lib.parseUintB 64 s.data.toList with
  | ok u => exact absurd hp (h u)
  | «syntax» =>
    refine (Any.strconv_ParseUint_10_at64_syntax_var Tryd.laysPu14 s (by omega) hp t1 p1 w h1).mono ?_
    rintro e w' ⟨N, he, _, _, hB⟩
    exact ⟨⟨_, _, _, he⟩, hB⟩
  | range =>
    refine (Any.strconv_ParseUint_10_at64_range_var Tryd.laysPu14 s (by omega) hp t2 p2 w h2).mono ?_
    rintro e w' ⟨N, he, _, _, hB⟩
    exact ⟨⟨_, _, _, he⟩, hB⟩
/-- What is behind 0x, or the text itself; whether 0x is ahead. -/
def figOf (s : ByteArray) : ByteArray := ⟨(Lib.trimPrefix s.data.toList [48, 120]).toArray⟩
def isOx (s : ByteArray) : Bool := Lib.hasPrefix s.data.toList [48, 120]
theorem cutG (s : ByteArray) (w : World) : Calls Tryd.prog 15 #[.string s, .string ⟨#[48, 120]⟩] w fun e w' => e = .returned (.tuple #[.string (figOf s), .bool (isOx s)]) ∧ w' = w := Tryd.strings_CutPrefix s ⟨#[48, 120]⟩ w
set_option maxRecDepth 100000 in
set_option maxHeartbeats 4000000 in
/-- Number, by what ParseUint and FormatUint say of the figures. -/
theorem number_bad (s : ByteArray) (b : Int) (hb : (isOx s = true ∧ b = 16) ∨ (isOx s = false ∧ b = 10)) (w : World)
    (hp : Calls Tryd.prog 16 #[.string (figOf s), .int .i64 b, .int .i64 64] w fun e w' => (∃ x t p, e = .returned (.tuple #[.int .u64 x, .iface t p])) ∧ Below w.heap.size w w') :
    Calls Tryd.prog 6 #[.string s] w fun e w' => e = .returned (.tuple #[.int .u64 0, .bool false]) ∧ Below w.heap.size w w' := by
  have HC := Lib.hid (fun W => cutG s W)
  have HP := Lib.hid hp
  clear hp
  generalize figOf s = F at HC HP
  rcases hb with ⟨h, rfl⟩ | ⟨h, rfl⟩
  all_goals
    rw [h] at HC
    go_enter Tryd.func6, Tryd.ntmps6
    go_wp2_with fail
    refine (HC.out _).mono ?_
    rintro e w1 ⟨rfl, rfl⟩
    go_wp2_with fail
    refine HP.out.mono ?_
    rintro e w2 ⟨⟨x, t, p, rfl⟩, hB2⟩
    go_wp2
    go_ret2
    exact ⟨rfl, hB2⟩
set_option maxRecDepth 100000 in
set_option maxHeartbeats 4000000 in
theorem number_other (s : ByteArray) (b : Int) (hb : (isOx s = true ∧ b = 16) ∨ (isOx s = false ∧ b = 10)) (u : Nat) (T : ByteArray) (hT : T ≠ figOf s) (w : World)
    (hp : Calls Tryd.prog 16 #[.string (figOf s), .int .i64 b, .int .i64 64] w fun e w' => e = .returned (.tuple #[.int .u64 u, .nilIface]) ∧ Below w.heap.size w w')
    (hf : ∀ W, Below w.heap.size w W → Calls Tryd.prog 17 #[.int .u64 u, .int .i64 b] W fun e w' => e = .returned (.string T) ∧ Below W.heap.size W w') :
    Calls Tryd.prog 6 #[.string s] w fun e w' => e = .returned (.tuple #[.int .u64 0, .bool false]) ∧ Below w.heap.size w w' := by
  have HC := Lib.hid (fun W => cutG s W)
  have HP := Lib.hid hp
  have HF := Lib.hid hf
  have e1 := toListG_ne hT
  clear hp hf hT
  generalize figOf s = F at HC HP e1
  have e0 : (T.toList != F.toList) = true := by rw [bne, e1]; rfl
  rcases hb with ⟨h, rfl⟩ | ⟨h, rfl⟩
  all_goals
    rw [h] at HC
    go_enter Tryd.func6, Tryd.ntmps6
    go_wp2_with fail
    refine (HC.out _).mono ?_
    rintro e w1 ⟨rfl, rfl⟩
    go_wp2_with fail
    refine HP.out.mono ?_
    rintro e w2 ⟨rfl, hB2⟩
    have HB2 := Lib.hid hB2
    clear hB2
    go_wp2_with (go_at_call 17; refine (HF.out _ HB2.out).mono ?_; rintro e w3 ⟨rfl, hB3⟩)
    go_ret2
    exact ⟨rfl, HB2.out.trans (hB3.mono HB2.out.size)⟩
/-- Number of a text that is no number's: none. -/
theorem number_no (s : ByteArray) (hs : s.size ≤ 60) (h1 : ∀ u, u < 18446744073709551616 → s ≠ dec u) (h2 : ∀ u, u < 18446744073709551616 → s ≠ oxT u) (w : World) (ht : TabP w) (hz : Tz w) (hv : ErrC w) :
    Calls Tryd.prog 6 #[.string s] w fun e w' => e = .returned (.tuple #[.int .u64 0, .bool false]) ∧ Below w.heap.size w w' := by
  cases hox : isOx s with
  | true =>
    have hd : ∃ r, s.data.toList = 48 :: 120 :: r := by
      have h : List.isPrefixOf [48, 120] s.data.toList = true := hox
      match hl : s.data.toList with
      | [] => rw [hl] at h; simp [List.isPrefixOf] at h
      | [a] => rw [hl] at h; simp [List.isPrefixOf] at h
      | a :: b :: r =>
        rw [hl] at h
        simp only [List.isPrefixOf, Bool.and_eq_true, beq_iff_eq] at h
        obtain ⟨rfl, rfl, _⟩ := h
        exact ⟨r, rfl⟩
    obtain ⟨r, hr⟩ := hd
    have hfig : figOf s = ⟨r.toArray⟩ := by
      have h : Lib.hasPrefix s.data.toList [48, 120] = true := hox
      unfold figOf
      rw [Lib.trimPrefix, h, if_pos rfl, hr]
      rfl
    have hsz : s.size = r.length + 2 := by
      have : s.size = s.data.toList.length := by rw [Lib.size_eq]
      rw [this, hr]; rfl
    have hrs : (⟨r.toArray⟩ : ByteArray).size = r.length := by show r.toArray.size = _; simp
    have hrl : (⟨r.toArray⟩ : ByteArray).data.toList = r := by simp
    by_cases hne : r = []
    · subst hne
      exact number_bad s 16 (.inl ⟨hox, rfl⟩) w (by rw [hfig]; exact parse16_nil w hv)
    · have hne' : r.length ≠ 0 := fun h => hne (List.length_eq_zero_iff.1 h)
      by_cases hp : ∃ u, pu16 0 r = .ok u
      · obtain ⟨u, hp⟩ := hp
        have hu := pu16_lt r 0 u (by decide) hp
        refine number_other s 16 (.inl ⟨hox, rfl⟩) u (hexT u) ?_ w (by rw [hfig]; exact parse16_okG _ (by rw [hrs]; exact hne') (by omega) u (by rw [hrl]; exact hp) w) (fun W hW => fmt16_any u hu W (tz_on hz hW (Nat.le_refl _)))
        rw [hfig]
        intro e
        refine h2 u hu (ByteArray.ext (Array.toList_inj.1 ?_))
        rw [hr]
        show 48 :: 120 :: r = ((⟨#[48, 120]⟩ : ByteArray) ++ hexT u).data.toList
        rw [e, ByteArray.data_append]
        simp
      · exact number_bad s 16 (.inl ⟨hox, rfl⟩) w (by rw [hfig]; exact parse16_bad _ (by rw [hrs]; exact hne') (by omega) (fun u e => hp ⟨u, by rw [hrl] at e; exact e⟩) w hv)
  | false =>
    have hfig : figOf s = s := by
      have h : Lib.hasPrefix s.data.toList [48, 120] = false := hox
      unfold figOf
      rw [Lib.trimPrefix, h, if_neg (by decide)]
    by_cases hp : ∃ u, Lib.parseUintB 64 s.data.toList = .ok u
    · obtain ⟨u, hp⟩ := hp
      have hu : u < 18446744073709551616 := by have := Lib.parseUintB_le hp; omega
      exact number_other s 10 (.inr ⟨hox, rfl⟩) u (dec u) (by rw [hfig]; exact fun e => h1 u hu e.symm) w (by rw [hfig]; exact parse10_okG s hs u hp w) (fun W hW => fmtU_any u hu W (tab_on ht hW (Nat.le_refl _)))
    · exact number_bad s 10 (.inr ⟨hox, rfl⟩) w (by rw [hfig]; exact parse10_bad s hs (fun u e => hp ⟨u, e⟩) w hv)
end Go.Proofs.YtlajmdfebnicnaaDoor
