/-
  Which names, and which numbers, a row of the program's may have: layer 11's isName, inRange.
-/
import Derived.Test.YtlpcallgkciklaaGreatDoorSo
import Derived.Test.YtlpcallgkciklaaGreatDoorShelf
import Derived.Shelf.Strings.SlTrimAscii
import Derived.Deep.Cut
namespace Go.Proofs.YtlpcallgkciklaaGreatDoor
open Go.RowKit
set_option linter.unusedVariables false

abbrev letS : ByteArray := ⟨#[97, 98, 99, 100, 101, 102, 103, 104, 105, 106, 107, 108, 109, 110, 111, 112, 113, 114, 115, 116, 117, 118, 119, 120, 121, 122]⟩
abbrev cutS : ByteArray := ⟨#[97, 98, 99, 100, 101, 102, 103, 104, 105, 106, 107, 108, 109, 110, 111, 112, 113, 114, 115, 116, 117, 118, 119, 120, 121, 122, 48, 49, 50, 51, 52, 53, 54, 55, 56, 57, 95]⟩
theorem let_all : ((List.range 256).all fun k => decide (0 ≤ Lib.indexByte letS.data.toList (UInt8.ofNat k)) == (decide (97 ≤ k) && decide (k ≤ 122))) = true := by kernel_rfl
theorem cut_all : ((List.range 256).all fun k => cutS.data.toList.contains (UInt8.ofNat k) == ((decide (97 ≤ k) && decide (k ≤ 122)) || (decide (48 ≤ k) && decide (k ≤ 57)) || k == 95)) = true := by kernel_rfl
theorem let_at (c : UInt8) : decide (0 ≤ Lib.indexByte letS.data.toList c) = (decide (97 ≤ c.toNat) && decide (c.toNat ≤ 122)) := by
  have h := List.all_eq_true.1 let_all c.toNat (List.mem_range.2 c.toNat_lt)
  rw [UInt8.ofNat_toNat] at h
  exact eq_of_beq h
theorem cut_at (c : UInt8) : cutS.data.toList.contains c = true ↔ ChN c := by
  have h := List.all_eq_true.1 cut_all c.toNat (List.mem_range.2 c.toNat_lt)
  rw [UInt8.ofNat_toNat] at h
  rw [eq_of_beq h]
  unfold ChN
  simp only [Bool.or_eq_true, Bool.and_eq_true, decide_eq_true_eq, beq_iff_eq]
  exact or_assoc
theorem dw_nil (p : UInt8 → Bool) (l : List UInt8) : l.dropWhile p = [] ↔ ∀ b ∈ l, p b = true := by
  induction l with
  | nil => simp
  | cons a l ih =>
    rw [List.dropWhile_cons]
    by_cases h : p a = true
    · rw [if_pos h, ih]
      simp [h]
    · rw [if_neg h]
      simp [h]
theorem tw_mem (p : UInt8 → Bool) (l : List UInt8) : ∀ b ∈ l.takeWhile p, p b = true := by
  induction l with
  | nil => simp
  | cons a l ih =>
    intro b hb
    rw [List.takeWhile_cons] at hb
    by_cases h : p a = true
    · rw [if_pos h] at hb
      rcases List.mem_cons.1 hb with rfl | hb
      · exact h
      · exact ih b hb
    · rw [if_neg h] at hb
      simp at hb
theorem trim_nil (l cs : List UInt8) : Lib.trimS l cs = [] ↔ ∀ b ∈ l, cs.contains b = true := by
  unfold Lib.trimS Lib.trimLeftS Lib.trimRightS
  rw [dw_nil]
  constructor
  · intro h b hb
    have hb' : b ∈ l.reverse := List.mem_reverse.2 hb
    rw [← List.takeWhile_append_dropWhile (p := fun x => cs.contains x) (l := l.reverse)] at hb'
    rcases List.mem_append.1 hb' with h1 | h1
    · exact tw_mem _ _ _ h1
    · exact h b (List.mem_reverse.2 h1)
  · intro h b hb
    exact h b (List.mem_reverse.1 ((List.dropWhile_sublist _).subset (List.mem_reverse.1 hb)))
set_option maxRecDepth 100000 in
set_option maxHeartbeats 8000000 in
theorem isName_any (s : ByteArray) (w : World) :
    Calls Tryz.prog 80 #[.string s] w fun e w' => ((NmP s ∧ e = .returned (.bool true)) ∨ (¬ NmP s ∧ e = .returned (.bool false))) ∧ Below w.heap.size w w' := by
  have hlen : s.data.toList.length = s.size := Array.length_toList
  by_cases h0 : s.size = 0
  · have hs : s = ⟨#[]⟩ := by
      obtain ⟨⟨l⟩⟩ := s
      have : l.length = 0 := h0
      rw [List.length_eq_zero_iff.1 this]
    subst hs
    have HN : Hid (¬ NmP ⟨#[]⟩) := Lib.hid fun h => h.1 rfl
    go_enter Tryz.func80, Tryz.ntmps80
    go_wp2
    go_ret
    exact ⟨.inr ⟨HN.out, rfl⟩, Below.refl _ _⟩
  have hsl : s.toList = s.data.toList := by rw [ByteArray.toList_eq]
  have q0 : (s.toList == ([] : List UInt8)) = false := by
    cases h : (s.toList == ([] : List UInt8))
    · rfl
    · have h' : s.toList = [] := eq_of_beq h
      rw [hsl] at h'
      rw [h'] at hlen
      simp at hlen
      omega
  have q0' : s.data.isEmpty = false := by
    rw [← Array.isEmpty_toList]
    cases h : s.data.toList
    · rw [h] at hlen; simp at hlen; omega
    · rfl
  by_cases h9 : s.size > 30
  · have q1 : (s.size : Int) > 30 := by omega
    have q2 : decide ((s.size : Int) > 30) = true := decide_eq_true q1
    have HN : Hid (¬ NmP s) := Lib.hid fun h => by have := h.2.1; omega
    go_enter Tryz.func80, Tryz.ntmps80
    go_wp2
    go_ret
    exact ⟨.inr ⟨HN.out, rfl⟩, Below.refl _ _⟩
  have q1 : ¬ (s.size : Int) > 30 := by omega
  have q2 : decide ((s.size : Int) > 30) = false := decide_eq_false q1
  cases hd : (s.toList == ([100, 101, 102, 97, 117, 108, 116] : List UInt8))
  case true =>
    have hd' := hd
    rw [hsl] at hd'
    have HN : Hid (¬ NmP s) := Lib.hid fun h => by rw [h.2.2.2.1] at hd; cases hd
    go_enter Tryz.func80, Tryz.ntmps80
    go_wp2
    go_ret
    exact ⟨.inr ⟨HN.out, rfl⟩, Below.refl _ _⟩
  have hd' := hd
  rw [hsl] at hd'
  cases hx : (s.toList == ([120, 51, 50] : List UInt8))
  case true =>
    have hx' := hx
    rw [hsl] at hx'
    have HN : Hid (¬ NmP s) := Lib.hid fun h => by rw [h.2.2.2.2.1] at hx; cases hx
    go_enter Tryz.func80, Tryz.ntmps80
    go_wp2
    go_ret
    exact ⟨.inr ⟨HN.out, rfl⟩, Below.refl _ _⟩
  have hx' := hx
  rw [hsl] at hx'
  obtain ⟨c, hc⟩ : ∃ c, s.data.toList[0]? = some c := ⟨_, List.getElem?_eq_getElem (by omega)⟩
  have hex : s.extract 0 1 = ⟨#[c]⟩ := by
    obtain ⟨⟨l⟩⟩ := s
    match l, hc with
    | a :: l, hc =>
      have : a = c := by simpa using hc
      subst this
      apply ByteArray.ext
      rw [ByteArray.data_extract]
      simp
  have HC := Lib.hid fun W => Tryz.strings_Contains_one letS c W
  have HT := Lib.hid fun W => Any.strings_Trim_laid Tryz.lays160 (by kernel_rfl) s cutS W (by omega) (by decide) (ascii_of_all (by decide))
  have hR : ∀ c' : UInt8, s.data.toList[0]? = some c' → c' = c := fun c' h => by rw [hc] at h; cases h; rfl
  obtain ⟨x, hxl⟩ : ∃ x, decide (0 ≤ Lib.indexByte letS.data.toList c) = x := ⟨_, rfl⟩
  rw [hxl] at HC
  rw [let_at] at hxl
  obtain ⟨R, hRR⟩ : ∃ R : ByteArray, (⟨(Lib.trimS s.data.toList cutS.data.toList).toArray⟩ : ByteArray) = R := ⟨_, rfl⟩
  rw [hRR] at HT
  obtain ⟨y, hy⟩ : ∃ y, (R.toList == ([] : List UInt8)) = y := ⟨_, rfl⟩
  have hy' : R.data.isEmpty = y := by
    rw [← hy, ByteArray.toList_eq, ← Array.isEmpty_toList]
    cases R.data.toList <;> rfl
  have hyt : y = true ↔ ∀ b ∈ s.data.toList, ChN b := by
    rw [← hy, ← hRR, ByteArray.toList_eq, beq_iff_eq]
    show Lib.trimS s.data.toList cutS.data.toList = [] ↔ _
    rw [trim_nil]
    exact ⟨fun h b hb => (cut_at b).1 (h b hb), fun h b hb => (cut_at b).2 (h b hb)⟩
  have HNM : Hid (NmP s ↔ x = true ∧ y = true) := Lib.hid (by
    rw [hyt, ← hxl]
    simp only [Bool.and_eq_true, decide_eq_true_eq]
    constructor
    · intro h
      exact ⟨h.2.2.1 c hc, h.2.2.2.2.2⟩
    · intro h
      exact ⟨h0, by omega, fun c' hc' => by rw [hR c' hc']; exact h.1, hd, hx, h.2⟩)
  have i1 : (1 : Int) ≤ (s.size : Int) := by omega
  have i2 : 1 ≤ s.size := by omega
  clear hlen h0 h9 hsl hc hR hxl hRR hyt
  go_enter Tryz.func80, Tryz.ntmps80
  cases x
  · have HN : Hid (¬ NmP s) := Lib.hid fun h => by have := (HNM.out.1 h).1; cases this
    go_wp2_with (go_at_call 99; refine (HC.out _).mono ?_; rintro e w1 ⟨rfl, rfl⟩)
    go_ret
    exact ⟨.inr ⟨HN.out, rfl⟩, Below.refl _ _⟩
  · go_wp2_with (first
      | (go_at_call 99; refine (HC.out _).mono ?_; rintro e w1 ⟨rfl, rfl⟩)
      | (go_at_call 100; refine (HT.out _).mono ?_; rintro e w2 ⟨rfl, hB2⟩))
    go_ret
    cases y
    · exact ⟨.inr ⟨fun h => (by have h2 := (HNM.out.1 h).2; cases h2), rfl⟩, hB2⟩
    · exact ⟨.inl ⟨HNM.out.2 (by simp), rfl⟩, hB2⟩
/-- May a row's numbers be? -/
def InR (r : SR) : Prop := RngP r ∧ MxP r
set_option maxRecDepth 100000 in
set_option maxHeartbeats 8000000 in
theorem inRange_any (r : SR) (w : World) : Calls Tryz.prog 81 #[.agg (srow r)] w fun e w' => (InR r ∧ e = .returned (.bool true) ∨ ¬ InR r ∧ e = .returned (.bool false)) ∧ Below w.heap.size w w' := by
  obtain ⟨U, hU⟩ : ∃ U, w.alloc (.cells #[.string r.nm, .int .i64 r.n0, .int .i64 r.n1, .int .i64 r.n2, .int .i64 r.n3, .int .i64 r.n4, .int .i64 r.mx, .int .i64 r.sb] 83) = U := ⟨_, rfl⟩
  have ru : RowC U w.heap.size (srow r) 83 := by rw [← hU]; exact RowC.new _ _ _ _ rfl
  have hbU : Below w.heap.size w U := by rw [← hU]; exact (Below.refl _ _).alloc (Nat.le_refl _) _
  have HIX : ∀ k, k < 5 → ∀ W, (Instr.index 63 (.agg #[.int .i64 r.n0, .int .i64 r.n1, .int .i64 r.n2, .int .i64 r.n3, .int .i64 r.n4]) (.int .i64 (k : Nat))).run Tryz.prog W = .ok (.int .i64 (numI r k)) W := fun k hk W => by
    have hc : k = 0 ∨ k = 1 ∨ k = 2 ∨ k = 3 ∨ k = 4 := by omega
    rcases hc with rfl | rfl | rfl | rfl | rfl <;> simp [Instr.index, run_underlying Tryz.underlying63, asIntOf, go_sem] <;> rfl
  have d1 := ru.cell 1 (.int .i64 r.n0) rfl
  have d2 := ru.cell 2 (.int .i64 r.n1) rfl
  have d3 := ru.cell 3 (.int .i64 r.n2) rfl
  have d4 := ru.cell 4 (.int .i64 r.n3) rfl
  have d5 := ru.cell 5 (.int .i64 r.n4) rfl
  have HRU := Lib.hid ru
  have HBU := Lib.hid hbU
  have HU := Lib.hid hU
  have HIXH := Lib.hid HIX
  clear hU hbU ru HIX
  go_enter Tryz.func81, Tryz.ntmps81
  go_upto_region 1 with fail
  rw [HU.out]
  go_wp2_with fail
  go_loopw [7] (fun s wr => ∃ k : Nat, k ≤ 5 ∧ s = .int .i64 k ∧ (∀ a, a < k → -1 ≤ numI r a ∧ numI r a ≤ 1073741823) ∧ U = wr)
    (fun s _ => 5 - (intOf s).toNat)
  case atStart => exact ⟨0, by omega, rfl, fun a h => by omega, rfl⟩
  case round =>
    obtain ⟨k, hk, rfl, hall, rfl⟩ := hrel
    have HA := Lib.hid hall
    clear hall
    by_cases hlt : k < 5
    · have e1 : (0 : Int) ≤ (k : Int) := by omega
      have e2 : (k : Int) < 5 := by omega
      have hix := HIXH.out k hlt
      obtain ⟨y, hy⟩ : ∃ y, numI r k = y := ⟨_, rfl⟩
      rw [hy] at hix
      have HY := Lib.hid hy
      clear hy
      by_cases hlo : y < -1
      · have f1 : decide (y < -1) = true := decide_eq_true hlo
        have HE : Hid (¬ InR r) := Lib.hid fun h => by have := (h.1 k hlt).1; rw [HY.out] at this; omega
        go_wp2
        go_ret
        exact ⟨.inr ⟨HE.out, rfl⟩, HBU.out⟩
      have f1 : decide (y < -1) = false := decide_eq_false hlo
      by_cases hhi : y > 1073741823
      · have f2 : decide (y > 1073741823) = true := decide_eq_true hhi
        have HE : Hid (¬ InR r) := Lib.hid fun h => by have := (h.1 k hlt).2; rw [HY.out] at this; omega
        go_wp2
        go_ret
        exact ⟨.inr ⟨HE.out, rfl⟩, HBU.out⟩
      have f2 : decide (y > 1073741823) = false := decide_eq_false hhi
      have HX : Hid (∀ a, a < k + 1 → -1 ≤ numI r a ∧ numI r a ≤ 1073741823) := Lib.hid fun a ha => by
        by_cases h : a = k
        · subst h; rw [HY.out]; omega
        · exact HA.out a (by omega)
      clear hlo hhi
      go_wp2
      exact ⟨⟨k + 1, by omega, by go_num, HX.out, trivial⟩, by simp [intOf]; omega⟩
    · obtain rfl : k = 5 := by omega
      have HRG : Hid (RngP r) := Lib.hid HA.out
      clear HA HIXH
      have d6 := HRU.out.cell 6 (.int .i64 r.mx) rfl
      have d7 := HRU.out.cell 7 (.int .i64 r.sb) rfl
      obtain ⟨m, hm⟩ : ∃ m, r.mx = m := ⟨_, rfl⟩
      obtain ⟨s, hs⟩ : ∃ s, r.sb = s := ⟨_, rfl⟩
      rw [hm] at d6
      rw [hs] at d7
      have HM : Hid (InR r ↔ (m = 0 ∧ s = 0) ∨ ((m = 1 ∨ m = 2) ∧ 1 ≤ s ∧ s ≤ 255)) := Lib.hid (by
        unfold InR MxP
        rw [hm, hs]
        exact ⟨fun h => h.2, fun h => ⟨HRG.out, h⟩⟩)
      clear hm hs
      by_cases a3 : m = 0
      · have f3 : (m == 0) = true := by simp [a3]
        by_cases a4 : s = 0
        · have f5 : (s == 0) = true := by simp [a4]
          have HV : Hid (InR r) := Lib.hid (by rw [HM.out]; omega)
          go_wp2
          go_ret
          exact ⟨.inl ⟨HV.out, by first | rfl | simp⟩, HBU.out⟩
        · have f5 : (s == 0) = false := by simp [a4]
          have HV : Hid (¬ InR r) := Lib.hid (by rw [HM.out]; omega)
          go_wp2
          go_ret
          exact ⟨.inr ⟨HV.out, by first | rfl | simp⟩, HBU.out⟩
      have f3 : (m == 0) = false := by simp [a3]
      by_cases a1 : m > 0
      case neg =>
        have f4 : decide (m > 0) = false := decide_eq_false a1
        have HV : Hid (¬ InR r) := Lib.hid (by rw [HM.out]; omega)
        go_wp2
        go_ret
        exact ⟨.inr ⟨HV.out, by first | rfl | simp⟩, HBU.out⟩
      have f4 : decide (m > 0) = true := decide_eq_true a1
      by_cases a2 : m ≤ 2
      case neg =>
        have f5 : decide (m ≤ 2) = false := decide_eq_false a2
        have HV : Hid (¬ InR r) := Lib.hid (by rw [HM.out]; omega)
        go_wp2
        go_ret
        exact ⟨.inr ⟨HV.out, by first | rfl | simp⟩, HBU.out⟩
      have f5 : decide (m ≤ 2) = true := decide_eq_true a2
      by_cases a5 : s > 0
      case neg =>
        have f6 : decide (s > 0) = false := decide_eq_false a5
        have HV : Hid (¬ InR r) := Lib.hid (by rw [HM.out]; omega)
        go_wp2
        go_ret
        exact ⟨.inr ⟨HV.out, by first | rfl | simp⟩, HBU.out⟩
      have f6 : decide (s > 0) = true := decide_eq_true a5
      by_cases a6 : s ≤ 255
      case neg =>
        have f7 : decide (s ≤ 255) = false := decide_eq_false a6
        have HV : Hid (¬ InR r) := Lib.hid (by rw [HM.out]; omega)
        go_wp2
        go_ret
        exact ⟨.inr ⟨HV.out, by first | rfl | simp⟩, HBU.out⟩
      have f7 : decide (s ≤ 255) = true := decide_eq_true a6
      have HV : Hid (InR r) := Lib.hid (by rw [HM.out]; omega)
      go_wp2
      go_ret
      exact ⟨.inl ⟨HV.out, by first | rfl | simp⟩, HBU.out⟩
end Go.Proofs.YtlpcallgkciklaaGreatDoor
