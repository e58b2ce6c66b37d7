/-
  Which names, and which numbers, a row of the program's may have: layer 11's isName, inRange.
-/
import Derived.Test.YtccklmleaffgiaaGreatDoorSoq
import Derived.Test.YtccklmleaffgiaaGreatDoorShelf
import Derived.Shelf.Strings.SlTrimAscii
import Derived.Deep.Cut
import Derived.Test.YtccklmleaffgiaaGreatDoorQ9
import Derived.Test.YtccklmleaffgiaaGreatDoorQ1
import Derived.Laws.StructEq
import Derived.Deep.RegionHeld3
import Derived.WalkKit
import Derived.ProofKit
import Derived.OpenShut
import Derived.Deep.Slices
import Derived.Deep.Fields
import Derived.Maps.OwnOps
import Derived.Deep.WholeRow
import Derived.Deep.CutRange
namespace Go.Proofs.YtccklmleaffgiaaGreatDoor
open Go.RowKit
set_option linter.unusedVariables false

abbrev letS : ByteArray := ⟨#[97, 98, 99, 100, 101, 102, 103, 104, 105, 106, 107, 108, 109, 110, 111, 112, 113, 114, 115, 116, 117, 118, 119, 120, 121, 122]⟩
abbrev cutS : ByteArray := ⟨#[97, 98, 99, 100, 101, 102, 103, 104, 105, 106, 107, 108, 109, 110, 111, 112, 113, 114, 115, 116, 117, 118, 119, 120, 121, 122, 48, 49, 50, 51, 52, 53, 54, 55, 56, 57, 95]⟩
theorem let_all : ((List.range 256).all fun k => decide (0 ≤ Lib.indexByte letS.data.toList (UInt8.ofNat k)) == (decide (97 ≤ k) && decide (k ≤ 122))) = true := by kernel_rfl
theorem cut_all : ((List.range 256).all fun k => cutS.data.toList.contains (UInt8.ofNat k) == ((decide (97 ≤ k) && decide (k ≤ 122)) || (decide (48 ≤ k) && decide (k ≤ 57)) || k == 95)) = true := by kernel_rfl
theorem let_at (c : UInt8) : decide (0 ≤ Lib.indexByte letS.data.toList c) = (decide (97 ≤ c.toNat) && decide (c.toNat ≤ 122)) := by
  have h := List.all_eq_true.1 let_all c.toNat (List.mem_range.2 c.toNat_lt)
  rw [UInt8.ofNat_toNat] at h
  exact eq_of_beq h
theorem cut_at (c : UInt8) : cutS.data.toList.contains c = true ↔ ChN c := by
  have h := List.all_eq_true.1 cut_all c.toNat (List.mem_range.2 c.toNat_lt)
  rw [UInt8.ofNat_toNat] at h
  rw [eq_of_beq h]
  unfold ChN
  simp only [Bool.or_eq_true, Bool.and_eq_true, decide_eq_true_eq, beq_iff_eq]
  exact or_assoc
theorem dw_nil (p : UInt8 → Bool) (l : List UInt8) : l.dropWhile p = [] ↔ ∀ b ∈ l, p b = true := by
  induction l with
  | nil => simp
  | cons a l ih =>
    rw [List.dropWhile_cons]
    by_cases h : p a = true
    · rw [if_pos h, ih]
      simp [h]
    · rw [if_neg h]
      simp [h]
theorem tw_mem (p : UInt8 → Bool) (l : List UInt8) : ∀ b ∈ l.takeWhile p, p b = true := by
  induction l with
  | nil => simp
  | cons a l ih =>
    intro b hb
    rw [List.takeWhile_cons] at hb
    by_cases h : p a = true
    · rw [if_pos h] at hb
      rcases List.mem_cons.1 hb with rfl | hb
      · exact h
      · exact ih b hb
    · rw [if_neg h] at hb
      simp at hb
theorem trim_nil (l cs : List UInt8) : Lib.trimS l cs = [] ↔ ∀ b ∈ l, cs.contains b = true := by
  unfold Lib.trimS Lib.trimLeftS Lib.trimRightS
  rw [dw_nil]
  constructor
  · intro h b hb
    have hb' : b ∈ l.reverse := List.mem_reverse.2 hb
    rw [← List.takeWhile_append_dropWhile (p := fun x => cs.contains x) (l := l.reverse)] at hb'
    rcases List.mem_append.1 hb' with h1 | h1
    · exact tw_mem _ _ _ h1
    · exact h b (List.mem_reverse.2 h1)
  · intro h b hb
    exact h b (List.mem_reverse.1 ((List.dropWhile_sublist _).subset (List.mem_reverse.1 hb)))
set_option maxRecDepth 100000 in
set_option maxHeartbeats 8000000 in
theorem isName_any (s : ByteArray) (w : World) :
    Calls Tryz.prog 68 #[.string s] w fun e w' => ((NmP s ∧ e = .returned (.bool true)) ∨ (¬ NmP s ∧ e = .returned (.bool false))) ∧ Below w.heap.size w w' := by
  have hlen : s.data.toList.length = s.size := Array.length_toList
  by_cases h0 : s.size = 0
  · have hs : s = ⟨#[]⟩ := by
      obtain ⟨⟨l⟩⟩ := s
      have : l.length = 0 := h0
      rw [List.length_eq_zero_iff.1 this]
    subst hs
    have HN : Hid (¬ NmP ⟨#[]⟩) := Lib.hid fun h => h.1 rfl
    go_enter Tryz.func68, Tryz.ntmps68
    go_wp2
    go_ret
    exact ⟨.inr ⟨HN.out, rfl⟩, Below.refl _ _⟩
  have hsl : s.toList = s.data.toList := by rw [ByteArray.toList_eq]
  have q0 : (s.toList == ([] : List UInt8)) = false := by
    cases h : (s.toList == ([] : List UInt8))
    · rfl
    · have h' : s.toList = [] := eq_of_beq h
      rw [hsl] at h'
      rw [h'] at hlen
      simp at hlen
      omega
  have q0' : s.data.isEmpty = false := by
    rw [← Array.isEmpty_toList]
    cases h : s.data.toList
    · rw [h] at hlen; simp at hlen; omega
    · rfl
  by_cases h9 : s.size > 30
  · have q1 : (s.size : Int) > 30 := by omega
    have q2 : decide ((s.size : Int) > 30) = true := decide_eq_true q1
    have HN : Hid (¬ NmP s) := Lib.hid fun h => by have := h.2.1; omega
    go_enter Tryz.func68, Tryz.ntmps68
    go_wp2
    go_ret
    exact ⟨.inr ⟨HN.out, rfl⟩, Below.refl _ _⟩
  have q1 : ¬ (s.size : Int) > 30 := by omega
  have q2 : decide ((s.size : Int) > 30) = false := decide_eq_false q1
  cases hd : (s.toList == ([100, 101, 102, 97, 117, 108, 116] : List UInt8))
  case true =>
    have hd' := hd
    rw [hsl] at hd'
    have HN : Hid (¬ NmP s) := Lib.hid fun h => by rw [h.2.2.2.1] at hd; cases hd
    go_enter Tryz.func68, Tryz.ntmps68
    go_wp2
    go_ret
    exact ⟨.inr ⟨HN.out, rfl⟩, Below.refl _ _⟩
  have hd' := hd
  rw [hsl] at hd'
  cases hx : (s.toList == ([120, 51, 50] : List UInt8))
  case true =>
    have hx' := hx
    rw [hsl] at hx'
    have HN : Hid (¬ NmP s) := Lib.hid fun h => by rw [h.2.2.2.2.1] at hx; cases hx
    go_enter Tryz.func68, Tryz.ntmps68
    go_wp2
    go_ret
    exact ⟨.inr ⟨HN.out, rfl⟩, Below.refl _ _⟩
  have hx' := hx
  rw [hsl] at hx'
  obtain ⟨c, hc⟩ : ∃ c, s.data.toList[0]? = some c := ⟨_, List.getElem?_eq_getElem (by omega)⟩
  have hex : s.extract 0 1 = ⟨#[c]⟩ := by
    obtain ⟨⟨l⟩⟩ := s
    match l, hc with
    | a :: l, hc =>
      have : a = c := by simpa using hc
      subst this
      apply ByteArray.ext
      rw [ByteArray.data_extract]
      simp
  have HC := Lib.hid fun W => Tryz.strings_Contains_one letS c W
  have HT := Lib.hid fun W => Any.strings_Trim_laid Tryz.lays160 (by kernel_rfl) s cutS W (by omega) (by decide) (ascii_of_all (by decide))
  have hR : ∀ c' : UInt8, s.data.toList[0]? = some c' → c' = c := fun c' h => by rw [hc] at h; cases h; rfl
  obtain ⟨x, hxl⟩ : ∃ x, decide (0 ≤ Lib.indexByte letS.data.toList c) = x := ⟨_, rfl⟩
  rw [hxl] at HC
  rw [let_at] at hxl
  obtain ⟨R, hRR⟩ : ∃ R : ByteArray, (⟨(Lib.trimS s.data.toList cutS.data.toList).toArray⟩ : ByteArray) = R := ⟨_, rfl⟩
  rw [hRR] at HT
  obtain ⟨y, hy⟩ : ∃ y, (R.toList == ([] : List UInt8)) = y := ⟨_, rfl⟩
  have hy' : R.data.isEmpty = y := by
    rw [← hy, ByteArray.toList_eq, ← Array.isEmpty_toList]
    cases R.data.toList <;> rfl
  have hyt : y = true ↔ ∀ b ∈ s.data.toList, ChN b := by
    rw [← hy, ← hRR, ByteArray.toList_eq, beq_iff_eq]
    show Lib.trimS s.data.toList cutS.data.toList = [] ↔ _
    rw [trim_nil]
    exact ⟨fun h b hb => (cut_at b).1 (h b hb), fun h b hb => (cut_at b).2 (h b hb)⟩
  have HNM : Hid (NmP s ↔ x = true ∧ y = true) := Lib.hid (by
    rw [hyt, ← hxl]
    simp only [Bool.and_eq_true, decide_eq_true_eq]
    constructor
    · intro h
      exact ⟨h.2.2.1 c hc, h.2.2.2.2.2⟩
    · intro h
      exact ⟨h0, by omega, fun c' hc' => by rw [hR c' hc']; exact h.1, hd, hx, h.2⟩)
  have i1 : (1 : Int) ≤ (s.size : Int) := by omega
  have i2 : 1 ≤ s.size := by omega
  clear hlen h0 h9 hsl hc hR hxl hRR hyt
  go_enter Tryz.func68, Tryz.ntmps68
  cases x
  · have HN : Hid (¬ NmP s) := Lib.hid fun h => by have := (HNM.out.1 h).1; cases this
    go_wp2_with (go_at_call 86; refine (HC.out _).mono ?_; rintro e w1 ⟨rfl, rfl⟩)
    go_ret
    exact ⟨.inr ⟨HN.out, rfl⟩, Below.refl _ _⟩
  · go_wp2_with (first
      | (go_at_call 86; refine (HC.out _).mono ?_; rintro e w1 ⟨rfl, rfl⟩)
      | (go_at_call 87; refine (HT.out _).mono ?_; rintro e w2 ⟨rfl, hB2⟩))
    go_ret
    cases y
    · exact ⟨.inr ⟨fun h => (by have h2 := (HNM.out.1 h).2; cases h2), rfl⟩, hB2⟩
    · exact ⟨.inl ⟨HNM.out.2 (by simp), rfl⟩, hB2⟩
/-- May a row's numbers be? -/
def InR (r : SR) : Prop := RngP r ∧ MxP r
set_option maxRecDepth 100000 in
set_option maxHeartbeats 8000000 in
theorem inRange_any (r : SR) (w : World) : Calls Tryz.prog 69 #[.agg (srow r)] w fun e w' => (InR r ∧ e = .returned (.bool true) ∨ ¬ InR r ∧ e = .returned (.bool false)) ∧ Below w.heap.size w w' := by
  obtain ⟨U, hU⟩ : ∃ U, w.alloc (.cells #[.string r.nm, .int .i64 r.n0, .int .i64 r.n1, .int .i64 r.n2, .int .i64 r.n3, .int .i64 r.n4, .int .i64 r.mx, .int .i64 r.sb] 73) = U := ⟨_, rfl⟩
  have ru : RowC U w.heap.size (srow r) 73 := by rw [← hU]; exact RowC.new _ _ _ _ rfl
  have hbU : Below w.heap.size w U := by rw [← hU]; exact (Below.refl _ _).alloc (Nat.le_refl _) _
  have HIX : ∀ k, k < 5 → ∀ W, (Instr.index 70 (.agg #[.int .i64 r.n0, .int .i64 r.n1, .int .i64 r.n2, .int .i64 r.n3, .int .i64 r.n4]) (.int .i64 (k : Nat))).run Tryz.prog W = .ok (.int .i64 (numI r k)) W := fun k hk W => by
    have hc : k = 0 ∨ k = 1 ∨ k = 2 ∨ k = 3 ∨ k = 4 := by omega
    rcases hc with rfl | rfl | rfl | rfl | rfl <;> simp [Instr.index, run_underlying Tryz.underlying70, asIntOf, go_sem] <;> rfl
  have d1 := ru.cell 1 (.int .i64 r.n0) rfl
  have d2 := ru.cell 2 (.int .i64 r.n1) rfl
  have d3 := ru.cell 3 (.int .i64 r.n2) rfl
  have d4 := ru.cell 4 (.int .i64 r.n3) rfl
  have d5 := ru.cell 5 (.int .i64 r.n4) rfl
  have HRU := Lib.hid ru
  have HBU := Lib.hid hbU
  have HU := Lib.hid hU
  have HIXH := Lib.hid HIX
  clear hU hbU ru HIX
  go_enter Tryz.func69, Tryz.ntmps69
  go_upto_region 1 with fail
  rw [HU.out]
  go_wp2_with fail
  go_loopw [7] (fun s wr => ∃ k : Nat, k ≤ 5 ∧ s = .int .i64 k ∧ (∀ a, a < k → -1 ≤ numI r a ∧ numI r a ≤ 1073741823) ∧ U = wr)
    (fun s _ => 5 - (intOf s).toNat)
  case atStart => exact ⟨0, by omega, rfl, fun a h => by omega, rfl⟩
  case round =>
    obtain ⟨k, hk, rfl, hall, rfl⟩ := hrel
    have HA := Lib.hid hall
    clear hall
    by_cases hlt : k < 5
    · have e1 : (0 : Int) ≤ (k : Int) := by omega
      have e2 : (k : Int) < 5 := by omega
      have hix := HIXH.out k hlt
      obtain ⟨y, hy⟩ : ∃ y, numI r k = y := ⟨_, rfl⟩
      rw [hy] at hix
      have HY := Lib.hid hy
      clear hy
      by_cases hlo : y < -1
      · have f1 : decide (y < -1) = true := decide_eq_true hlo
        have HE : Hid (¬ InR r) := Lib.hid fun h => by have := (h.1 k hlt).1; rw [HY.out] at this; omega
        go_wp2
        go_ret
        exact ⟨.inr ⟨HE.out, rfl⟩, HBU.out⟩
      have f1 : decide (y < -1) = false := decide_eq_false hlo
      by_cases hhi : y > 1073741823
      · have f2 : decide (y > 1073741823) = true := decide_eq_true hhi
        have HE : Hid (¬ InR r) := Lib.hid fun h => by have := (h.1 k hlt).2; rw [HY.out] at this; omega
        go_wp2
        go_ret
        exact ⟨.inr ⟨HE.out, rfl⟩, HBU.out⟩
      have f2 : decide (y > 1073741823) = false := decide_eq_false hhi
      have HX : Hid (∀ a, a < k + 1 → -1 ≤ numI r a ∧ numI r a ≤ 1073741823) := Lib.hid fun a ha => by
        by_cases h : a = k
        · subst h; rw [HY.out]; omega
        · exact HA.out a (by omega)
      clear hlo hhi
      go_wp2
      exact ⟨⟨k + 1, by omega, by go_num, HX.out, trivial⟩, by simp [intOf]; omega⟩
    · obtain rfl : k = 5 := by omega
      have HRG : Hid (RngP r) := Lib.hid HA.out
      clear HA HIXH
      have d6 := HRU.out.cell 6 (.int .i64 r.mx) rfl
      have d7 := HRU.out.cell 7 (.int .i64 r.sb) rfl
      obtain ⟨m, hm⟩ : ∃ m, r.mx = m := ⟨_, rfl⟩
      obtain ⟨s, hs⟩ : ∃ s, r.sb = s := ⟨_, rfl⟩
      rw [hm] at d6
      rw [hs] at d7
      have HM : Hid (InR r ↔ (m = 0 ∧ s = 0) ∨ ((m = 1 ∨ m = 2) ∧ 1 ≤ s ∧ s ≤ 255)) := Lib.hid (by
        unfold InR MxP
        rw [hm, hs]
        exact ⟨fun h => h.2, fun h => ⟨HRG.out, h⟩⟩)
      clear hm hs
      by_cases a3 : m = 0
      · have f3 : (m == 0) = true := by simp [a3]
        by_cases a4 : s = 0
        · have f5 : (s == 0) = true := by simp [a4]
          have HV : Hid (InR r) := Lib.hid (by rw [HM.out]; omega)
          go_wp2
          go_ret
          exact ⟨.inl ⟨HV.out, by first | rfl | simp⟩, HBU.out⟩
        · have f5 : (s == 0) = false := by simp [a4]
          have HV : Hid (¬ InR r) := Lib.hid (by rw [HM.out]; omega)
          go_wp2
          go_ret
          exact ⟨.inr ⟨HV.out, by first | rfl | simp⟩, HBU.out⟩
      have f3 : (m == 0) = false := by simp [a3]
      by_cases a1 : m > 0
      case neg =>
        have f4 : decide (m > 0) = false := decide_eq_false a1
        have HV : Hid (¬ InR r) := Lib.hid (by rw [HM.out]; omega)
        go_wp2
        go_ret
        exact ⟨.inr ⟨HV.out, by first | rfl | simp⟩, HBU.out⟩
      have f4 : decide (m > 0) = true := decide_eq_true a1
      by_cases a2 : m ≤ 2
      case neg =>
        have f5 : decide (m ≤ 2) = false := decide_eq_false a2
        have HV : Hid (¬ InR r) := Lib.hid (by rw [HM.out]; omega)
        go_wp2
        go_ret
        exact ⟨.inr ⟨HV.out, by first | rfl | simp⟩, HBU.out⟩
      have f5 : decide (m ≤ 2) = true := decide_eq_true a2
      by_cases a5 : s > 0
      case neg =>
        have f6 : decide (s > 0) = false := decide_eq_false a5
        have HV : Hid (¬ InR r) := Lib.hid (by rw [HM.out]; omega)
        go_wp2
        go_ret
        exact ⟨.inr ⟨HV.out, by first | rfl | simp⟩, HBU.out⟩
      have f6 : decide (s > 0) = true := decide_eq_true a5
      by_cases a6 : s ≤ 255
      case neg =>
        have f7 : decide (s ≤ 255) = false := decide_eq_false a6
        have HV : Hid (¬ InR r) := Lib.hid (by rw [HM.out]; omega)
        go_wp2
        go_ret
        exact ⟨.inr ⟨HV.out, by first | rfl | simp⟩, HBU.out⟩
      have f7 : decide (s ≤ 255) = true := decide_eq_true a6
      have HV : Hid (InR r) := Lib.hid (by rw [HM.out]; omega)
      go_wp2
      go_ret
      exact ⟨.inl ⟨HV.out, by first | rfl | simp⟩, HBU.out⟩
end Go.Proofs.YtccklmleaffgiaaGreatDoor

/-
  The numbers of a row, each with the place it counts in: layer 11's placed; sets of such pairs as a map has them.
-/
namespace Go.Proofs.YtccklmleaffgiaaGreatDoor
open Go.RowKit
set_option linter.unusedVariables false

def plN (r : SR) : Nat → List (Int × Int)
  | 0 => []
  | k + 1 => plN r k ++ (if numI r k = -1 then [] else [((k : Int), numI r k)])
/-- A row's numbers, each with the place it counts in. -/
def plc (r : SR) : List (Int × Int) := plN r 5 ++ (if r.mx = 0 then [] else [(5 + r.mx, r.sb)])
def pcell (L : List (Int × Int)) (q : Nat) : Value := if q % 2 = 0 then .int .i64 (L.getD (q / 2) (0, 0)).1 else .int .i64 (L.getD (q / 2) (0, 0)).2
theorem plN_len (r : SR) (k : Nat) : (plN r k).length ≤ k := by
  induction k with
  | zero => simp [plN]
  | succ k ih =>
    rw [plN, List.length_append]
    split <;> simp <;> omega
theorem pcell_cat (L : List (Int × Int)) (p : Int × Int) : ∀ i, i < (L.length + 1) * 2 → catC (L.length * 2) (pcell L) (fun c => if c = 0 then .int .i64 p.1 else .int .i64 p.2) i = pcell (L ++ [p]) i := fun i hi => by
  unfold catC pcell
  by_cases h : i < L.length * 2
  · rw [if_pos h]
    have h2 : i / 2 < L.length := by omega
    simp only [List.getD_eq_getElem?_getD, List.getElem?_append_left h2]
  · rw [if_neg h]
    show (if i - L.length * 2 = 0 then (Value.int .i64 p.1) else .int .i64 p.2) = _
    have h2 : i / 2 = L.length := by omega
    have e : (L ++ [p]).getD (i / 2) (0, 0) = p := by
      rw [h2, List.getD_eq_getElem?_getD, List.getElem?_append_right (Nat.le_refl _)]
      simp
    rw [e]
    by_cases h3 : i % 2 = 0
    · rw [if_pos h3, if_pos (by omega)]
    · rw [if_neg h3, if_neg (by omega)]
theorem infoP2 : (Tryz.prog.info? 172).map (fun i => (i.zero, i.size, i.bytes)) = some (some (.agg #[.int .i64 0, .int .i64 0]), 2, 16) := by kernel_rfl
theorem one_pair (w : World) (a b : Int) (E : TypeId) : Cel (w.alloc (.cells #[.int .i64 a, .int .i64 b] E)) (w.heap.size + 1) 2 (some ⟨w.heap.size, 0, none⟩) 1 1 (fun c => if c = 0 then .int .i64 a else .int .i64 b) :=
  Cel.mk_ (by omega) (by decide) (by decide) (fun c hc => by
    rw [Nat.zero_add]
    have rr := RowC.new w #[.int .i64 a, .int .i64 b] E _ rfl
    have h : c = 0 ∨ c = 1 := by omega
    rcases h with rfl | rfl
    all_goals exact rr.cell _ _ rfl)
theorem idx5 (r : SR) (k : Nat) (hk : k < 5) (W : World) : (Instr.index 70 (.agg #[.int .i64 r.n0, .int .i64 r.n1, .int .i64 r.n2, .int .i64 r.n3, .int .i64 r.n4]) (.int .i64 (k : Nat))).run Tryz.prog W = .ok (.int .i64 (numI r k)) W := by
  have hc : k = 0 ∨ k = 1 ∨ k = 2 ∨ k = 3 ∨ k = 4 := by omega
  rcases hc with rfl | rfl | rfl | rfl | rfl <;> simp [Instr.index, run_underlying Tryz.underlying70, asIntOf, go_sem] <;> rfl
set_option maxRecDepth 100000 in
set_option maxHeartbeats 8000000 in
theorem placed_any (r : SR) (hm : MxP r) (w : World) : Calls Tryz.prog 88 #[.agg (srow r)] w fun e w' => ∃ A' c', e = .returned (.slice A' (plc r).length c') ∧ OwnC w' w.heap.size 172 2 A' (plc r).length c' (pcell (plc r)) ∧ Below w.heap.size w w' := by
  obtain ⟨U, hU⟩ : ∃ U, w.alloc (.cells #[.string r.nm, .int .i64 r.n0, .int .i64 r.n1, .int .i64 r.n2, .int .i64 r.n3, .int .i64 r.n4, .int .i64 r.mx, .int .i64 r.sb] 73) = U := ⟨_, rfl⟩
  have ru : RowC U w.heap.size (srow r) 73 := by rw [← hU]; exact RowC.new _ _ _ _ rfl
  have hbU : Below w.heap.size w U := by rw [← hU]; exact (Below.refl _ _).alloc (Nat.le_refl _) _
  have hsU : U.heap.size = w.heap.size + 1 := by rw [← hU]; simp
  have d1 := ru.cell 1 (.int .i64 r.n0) rfl
  have d2 := ru.cell 2 (.int .i64 r.n1) rfl
  have d3 := ru.cell 3 (.int .i64 r.n2) rfl
  have d4 := ru.cell 4 (.int .i64 r.n3) rfl
  have d5 := ru.cell 5 (.int .i64 r.n4) rfl
  have HRU := Lib.hid ru
  have HBU := Lib.hid hbU
  have HU := Lib.hid hU
  have HSU := Lib.hid hsU
  have HM := Lib.hid hm
  clear hU hbU ru hm hsU
  go_enter Tryz.func88, Tryz.ntmps88
  go_upto_region 2 with fail
  rw [HU.out]
  go_wp2_with fail
  go_loopw [3, 8] (fun v s wr => ∃ (k : Nat) (A' : Option Addr) (c' : Nat), k ≤ 5 ∧ s = .int .i64 k ∧ v = .slice A' (plN r k).length c' ∧ OwnC wr (w.heap.size + 1) 172 2 A' (plN r k).length c' (pcell (plN r k)) ∧ Below (w.heap.size + 1) U wr)
    (fun _ s _ => 5 - (intOf s).toNat)
  case atStart => exact ⟨0, none, 0, by omega, rfl, rfl, OwnC.nil_, Below.refl _ _⟩
  case round =>
    obtain ⟨k, A', c', hk, rfl, rfl, hown, hB⟩ := hrel
    have hsz : w.heap.size + 1 ≤ wr.heap.size := by have := hB.size; have := HSU.out; omega
    have HSZ := Lib.hid hsz
    have HB := Lib.hid hB
    by_cases hlt : k < 5
    · have e1 : (0 : Int) ≤ (k : Int) := by omega
      have e2 : (k : Int) < 5 := by omega
      have hix := idx5 r k hlt
      obtain ⟨y, hy⟩ : ∃ y, numI r k = y := ⟨_, rfl⟩
      rw [hy] at hix
      by_cases h1 : y = -1
      · have f1 : (y != -1) = false := by simp [h1]
        have hp : plN r (k + 1) = plN r k := by rw [plN, if_pos (hy.trans h1)]; simp
        have HP := Lib.hid hp
        have HOW := Lib.hid hown
        clear hp hy h1 hown hB hsz
        go_wp2
        exact ⟨⟨k + 1, A', c', by omega, by go_num, by rw [HP.out], by rw [HP.out]; exact HOW.out, HB.out⟩, by simp [intOf]; omega⟩
      · have f1 : (y != -1) = true := by simp [h1]
        have hp : plN r (k + 1) = plN r k ++ [((k : Int), y)] := by rw [plN, if_neg (by rw [hy]; exact h1), hy]
        have HP := Lib.hid hp
        have hl : (plN r k).length ≤ 5 := Nat.le_trans (plN_len r k) (by omega)
        have HL := Lib.hid hl
        have HOW := Lib.hid hown
        have HCT := Lib.hid (pcell_cat (plN r k) ((k : Int), y))
        obtain ⟨L, hL⟩ : ∃ L, plN r k = L := ⟨_, rfl⟩
        rw [hL] at HOW HCT HL HP ⊢
        clear hp hy h1 hown hB hsz hL hl
        go_wp2_with (at_builtin; go_must (refine app_cells _ rfl _ _ _ 172 rfl Tryz.underlying170 infoP2 rfl (by decide) rfl (HOW.out.alloc _) rfl (one_pair wr (k : Int) y 172) (fun i _ => by split <;> rfl) (by have := HL.out; unfold maxLen; omega) (by have := HL.out; omega) (by have := HSZ.out; simp; omega) (L.length + 1) rfl (pcell (L ++ [((k : Int), y)])) HCT.out ?_; rintro A2 c2 w2 hown2 hB2))
        exact ⟨⟨k + 1, A2, c2, by omega, by go_num, by rw [HP.out, List.length_append]; rfl, by rw [HP.out, List.length_append]; exact hown2, (HB.out.alloc HSZ.out _).trans hB2⟩, by simp [intOf]; omega⟩
    · obtain rfl : k = 5 := by omega
      have d6 := (HRU.out.below HB.out (by omega)).cell 6 (.int .i64 r.mx) rfl
      have d7 := (HRU.out.below HB.out (by omega)).cell 7 (.int .i64 r.sb) rfl
      have HBE : Hid (Below w.heap.size w wr) := Lib.hid (HBU.out.trans (HB.out.mono (by omega)))
      have hl : (plN r 5).length ≤ 5 := plN_len r 5
      have hown' : OwnC wr w.heap.size 172 2 A' (plN r 5).length c' (pcell (plN r 5)) := hown.lower (by omega)
      have HOW := Lib.hid hown'
      have HL := Lib.hid hl
      obtain ⟨m, hmx⟩ : ∃ m, r.mx = m := ⟨_, rfl⟩
      obtain ⟨s, hs⟩ : ∃ s, r.sb = s := ⟨_, rfl⟩
      rw [hmx] at d6
      rw [hs] at d7
      by_cases h0 : m = 0
      · have f1 : (m != 0) = false := by simp [h0]
        have hp : plc r = plN r 5 := by rw [plc, if_pos (hmx.trans h0)]; simp
        have HP := Lib.hid hp
        clear hp hmx hs h0 hown hown' hB hsz hl
        go_wp2
        go_ret
        exact ⟨A', c', by rw [HP.out] <;> first | rfl | simp, by rw [HP.out]; exact HOW.out, HBE.out⟩
      · have f1 : (m != 0) = true := by simp [h0]
        have hp : plc r = plN r 5 ++ [(5 + m, s)] := by rw [plc, if_neg (by rw [hmx]; exact h0), hmx, hs]
        have hmm : m = 1 ∨ m = 2 := by
          have := HM.out
          unfold MxP at this
          rw [hmx] at this
          omega
        have v1 : IntKind.i64.wrap (5 + m) = 5 + m := by rw [IntKind.wrap_i64]; omega
        have HP := Lib.hid hp
        have HCT := Lib.hid (pcell_cat (plN r 5) (5 + m, s))
        obtain ⟨L, hL⟩ : ∃ L, plN r 5 = L := ⟨_, rfl⟩
        rw [hL] at HOW HCT HL HP ⊢
        clear hp hmx hs h0 hmm hown hown' hB hsz hl hL
        go_wp2_with (at_builtin; go_must (refine app_cells _ rfl _ _ _ 172 rfl Tryz.underlying170 infoP2 rfl (by decide) rfl (HOW.out.alloc _) rfl (one_pair wr (5 + m) s 172) (fun i _ => by split <;> rfl) (by have := HL.out; unfold maxLen; omega) (by have := HL.out; omega) (by have := HSZ.out; simp; omega) (L.length + 1) rfl (pcell (L ++ [(5 + m, s)])) HCT.out ?_; rintro A2 c2 w2 hown2 hB2))
        go_ret
        have hsw : w.heap.size ≤ wr.heap.size := by have := HSZ.out; omega
        exact ⟨A2, c2, by rw [HP.out, List.length_append]; rfl, by rw [HP.out, List.length_append]; exact hown2, (HBE.out.alloc hsw _).trans hB2⟩
end Go.Proofs.YtccklmleaffgiaaGreatDoor

/-
  A set of pairs as a map has it; layer 11's meet.
-/
namespace Go.Proofs.YtccklmleaffgiaaGreatDoor
open Go.RowKit
set_option linter.unusedVariables false

abbrev pv (p : Int × Int) : Value := .agg #[.int .i64 p.1, .int .i64 p.2]
/-- A map's block as a set of pairs. -/
def IsSet (w : World) (b : Nat) (S : List (Int × Int)) : Prop :=
  ∃ es clock, w.heap[b]? = some (.map es clock) ∧ es.toList.map (fun e => (e.key, e.val)) = S.map (fun p => (pv p, Value.agg #[]))
set_option maxRecDepth 100000 in
theorem eqP2 (p q : Int × Int) (w : World) : (Op.equal 172 (pv p) (pv q)).run Tryz.prog w = .ok (p == q) w := by
  obtain ⟨a, b⟩ := p
  obtain ⟨c, d⟩ := q
  have u3 := Tryz.underlying3
  show (Op.equalIn 10000 172 (.agg #[.int .i64 a, .int .i64 b]) (.agg #[.int .i64 c, .int .i64 d])).run Tryz.prog w = _
  rw [show (10000 : Nat) = 9999 + 1 from rfl, Op.equalIn]
  simp only [Sem.run_bind, run_underlying Tryz.underlying172, Result.andThen_ok]
  simp only [Std.Legacy.Range.forIn_eq_forIn_range', Std.Legacy.Range.size, Nat.sub_zero, Nat.add_sub_cancel, Nat.div_one, List.range'_succ, List.range'_zero, List.forIn_cons, List.forIn_nil]
  go_simp
  show _ = Result.ok ((a == c) && (b == d)) w
  by_cases h1 : a = c <;> by_cases h2 : b = d <;> simp [h1, h2]
set_option maxRecDepth 100000 in
theorem checkP2 (em : Bool) (p : Int × Int) (w : World) : (Instr.checkKey em 10000 172 (pv p)).run Tryz.prog w = .ok () w := by
  have u3 := Tryz.underlying3
  have ck := fun (v : Int) (w : World) => run_checkKey_int (P := Tryz.prog) (kt := 3) em u3 v 9998 w
  rw [show (10000 : Nat) = 9998 + 1 + 1 from rfl, Instr.checkKey]
  simp only [Sem.run_bind, run_underlying Tryz.underlying172, Result.andThen_ok]
  simp only [Std.Legacy.Range.forIn_eq_forIn_range', Std.Legacy.Range.size, Nat.sub_zero, Nat.add_sub_cancel, Nat.div_one, List.range'_succ, List.range'_zero, List.forIn_cons, List.forIn_nil]
  go_simp
theorem findAsk (p : Int × Int) (w : World) : ∀ (es : List MapEntry) (S : List (Int × Int)) (i : Nat), es.map (fun e => (e.key, e.val)) = S.map (fun p => (pv p, Value.agg #[])) →
    (p ∉ S → (Instr.findAsking 172 (pv p) es i).run Tryz.prog w = .ok none w) ∧ (p ∈ S → ∃ j, (Instr.findAsking 172 (pv p) es i).run Tryz.prog w = .ok (some (j, .agg #[])) w) := by
  intro es
  induction es with
  | nil =>
    intro S i h
    cases S with
    | nil => exact ⟨fun _ => by simp [Instr.findAsking], fun h => by simp at h⟩
    | cons q S => simp at h
  | cons e es ih =>
    intro S i h
    cases S with
    | nil => simp at h
    | cons q S =>
      simp only [List.map_cons, List.cons.injEq, Prod.mk.injEq] at h
      obtain ⟨⟨hk, hv⟩, hr⟩ := h
      obtain ⟨h1, h2⟩ := ih S (i + 1) hr
      have he := eqP2 p q w
      rw [← hk] at he
      by_cases hpq : p = q
      · subst hpq
        rw [show (p == p) = true by simp] at he
        refine ⟨fun h => absurd (List.mem_cons_self ..) h, fun _ => ⟨i, ?_⟩⟩
        simp [Instr.findAsking, he, hv, Result.andThen]
      · rw [show (p == q) = false by simpa using hpq] at he
        refine ⟨fun h => ?_, fun h => ?_⟩
        · simp only [Instr.findAsking, Sem.run_bind, he, Result.andThen_ok]
          exact h1 (fun h' => h (List.mem_cons_of_mem _ h'))
        · obtain ⟨j, hj⟩ := h2 (by rcases List.mem_cons.1 h with h | h; exact absurd h hpq; exact h)
          refine ⟨j, ?_⟩
          simp only [Instr.findAsking, Sem.run_bind, he, Result.andThen_ok]
          exact hj
theorem findP2 (p : Int × Int) (w : World) (es : List MapEntry) (S : List (Int × Int)) (h : es.map (fun e => (e.key, e.val)) = S.map (fun p => (pv p, Value.agg #[]))) :
    (p ∉ S → (Instr.findKey 172 (pv p) es).run Tryz.prog w = .ok none w) ∧ (p ∈ S → ∃ j, (Instr.findKey 172 (pv p) es).run Tryz.prog w = .ok (some (j, .agg #[])) w) := by
  cases es with
  | nil =>
    cases S with
    | nil => exact ⟨fun _ => by simp [Instr.findKey, run_underlying Tryz.underlying172, Instr.findNow], fun h => by simp at h⟩
    | cons q S => simp at h
  | cons e es =>
    have hn : (Instr.findKey 172 (pv p) (e :: es)).run Tryz.prog w = (Instr.findAsking 172 (pv p) (e :: es) 0).run Tryz.prog w := by
      simp [Instr.findKey, run_underlying Tryz.underlying172, Instr.findNow, Instr.sameNow]
    obtain ⟨h1, h2⟩ := findAsk p w (e :: es) S 0 h
    exact ⟨fun h => hn.trans (h1 h), fun h => (h2 h).imp fun j hj => hn.trans hj⟩
theorem IsSet.look {w : World} {b : Nat} {S : List (Int × Int)} (h : IsSet w b S) (p : Int × Int) : (Instr.lookup 112 (.map (some b)) (pv p) true).run Tryz.prog w = .ok (.tuple #[.agg #[], .bool (decide (p ∈ S))]) w := by
  obtain ⟨es, clock, hb, he⟩ := h
  obtain ⟨h1, h2⟩ := findP2 p w es.toList S he
  have hc := checkP2 es.isEmpty p w
  have hz : (zeroValue 150).run Tryz.prog w = .ok (.agg #[]) w := by
    exact (zero_of_info (n := 0) (by kernel_rfl)).1 w
  by_cases hp : p ∈ S
  · obtain ⟨j, hj⟩ := h2 hp
    simp [Instr.lookup, run_underlying Tryz.underlying112, MapKept.run_getObj_map hb, hc, hj, Result.andThen, hp]
  · simp [Instr.lookup, run_underlying Tryz.underlying112, MapKept.run_getObj_map hb, hc, h1 hp, hz, Result.andThen, hp]
theorem IsSet.insert {w : World} {b : Nat} {S : List (Int × Int)} (h : IsSet w b S) (p : Int × Int) (hn : p ∉ S) :
    ∃ w', (Instr.mapUpdate 112 (.map (some b)) (pv p) (.agg #[])).run Tryz.prog w = .ok () w' ∧ IsSet w' b (S ++ [p]) ∧ w.grownBy w' (some b) := by
  obtain ⟨es, clock, hb, he⟩ := h
  have hf := (findP2 p w es.toList S he).1 hn
  have hc := checkP2 false p w
  have hlt : b < w.heap.size := (Array.getElem?_eq_some_iff.1 hb).1
  refine ⟨{ w with heap := w.heap.setIfInBounds b (.map (es.push { key := pv p, val := .agg #[], born := clock }) (clock + 1)) }, ?_, ⟨es.push { key := pv p, val := .agg #[], born := clock }, clock + 1, ?_, ?_⟩, ⟨rfl, rfl, rfl, by simp, fun i _ hi => ?_⟩⟩
  · simp [Instr.mapUpdate, run_underlying Tryz.underlying112, MapKept.run_getObj_map hb, hc, hf, MapKept.run_setObj_map _ hb, Result.andThen]
  · simp [hlt]
  · simp [he]
  · have hne : b ≠ i := fun e => hi (by rw [e])
    simp [hne]
end Go.Proofs.YtccklmleaffgiaaGreatDoor

/-
  A row of a call's own, cell by cell.
-/
namespace Go.Proofs.YtccklmleaffgiaaGreatDoor
open Go.RowKit
set_option linter.unusedVariables false

theorem own_atz {w : World} {base n c z : Nat} {E : TypeId} {A : Option Addr} {F : Nat → Value} (h : OwnC w base E z A n c F) (hn : 0 < n) : ∃ b, A = some ⟨b, 0, none⟩ ∧ base ≤ b ∧ b < w.heap.size ∧ ∀ i, i < n * z → w.cell? ⟨b, i, none⟩ = some (F i) := by
  have hown := h
  obtain ⟨gg, cap, hv, hg, hl⟩ := World.ownsRow.form hown hn
  injection hv with e1 e2 e3
  subst e1 e3
  refine ⟨gg, rfl, hg, hl, fun i hi => ?_⟩
  have hc := World.ownsRow.cells hown rfl i (F i) (by simp [hi])
  have e : (⟨gg, 0, none⟩ : Addr).add i = ⟨gg, i, none⟩ := by unfold Addr.add; split <;> simp_all
  rw [e] at hc
  exact hc
end Go.Proofs.YtccklmleaffgiaaGreatDoor

/-
  Layer 11's meet: a row's numbers put to those that were met.
-/
namespace Go.Proofs.YtccklmleaffgiaaGreatDoor
open Go.RowKit
set_option linter.unusedVariables false

/-- A world in which nothing but one block has changed. -/
def But1 (b : Nat) (w w' : World) : Prop := w.grownBy w' (some b)
theorem But1.of {b B : Nat} {w w' : World} (h : Below B w w') (hB : w.heap.size ≤ B) : But1 b w w' := ⟨h.os, h.tape, h.output, h.size, fun k hk _ => h.block k (by omega)⟩
theorem But1.trans {b : Nat} {w w' w2 : World} (h : But1 b w w') (h2 : But1 b w' w2) : But1 b w w2 := ⟨h2.os.trans h.os, h2.tape.trans h.tape, h2.output.trans h.output, Nat.le_trans h.size h2.size, fun k hk hn => (h2.block k (Nat.lt_of_lt_of_le hk h.size) hn).trans (h.block k hk hn)⟩
theorem But1.below {b : Nat} {w w' : World} (h : But1 b w w') (hb : b ≤ w.heap.size) : Below b w w' := ⟨h.os, h.tape, h.output, h.size, fun k hk => h.block k (by omega) (fun e => by cases e; omega)⟩
def NoneIn (L S : List (Int × Int)) : Prop := ∀ p ∈ L, p ∉ S
def SomeIn (L S : List (Int × Int)) : Prop := ∃ p ∈ L, p ∈ S
theorem plN_lt (r : SR) (k : Nat) : ∀ p ∈ plN r k, 0 ≤ p.1 ∧ p.1 < (k : Int) := by
  induction k with
  | zero => intro p h; simp [plN] at h
  | succ k ih =>
    intro p h
    rw [plN] at h
    rcases List.mem_append.1 h with h | h
    · have := ih p h; omega
    · split at h
      · simp at h
      · simp at h; subst h; simp; omega
theorem plN_pw (r : SR) (k : Nat) : (plN r k).Pairwise (fun p q => p.1 < q.1) := by
  induction k with
  | zero => simp [plN]
  | succ k ih =>
    rw [plN, List.pairwise_append]
    refine ⟨ih, by split <;> simp, fun p hp q hq => ?_⟩
    split at hq
    · simp at hq
    · simp at hq; subst hq; exact (plN_lt r k p hp).2
theorem plc_pw (r : SR) (hm : MxP r) : (plc r).Pairwise (fun p q => p.1 < q.1) := by
  rw [plc, List.pairwise_append]
  refine ⟨plN_pw r 5, by split <;> simp, fun p hp q hq => ?_⟩
  split at hq
  · simp at hq
  · simp at hq; subst hq
    have := (plN_lt r 5 p hp).2
    show p.1 < 5 + r.mx
    rcases hm with ⟨h, _⟩ | ⟨h | h, _⟩ <;> omega
theorem plc_new (r : SR) (hm : MxP r) (i : Nat) (p : Int × Int) (hp : (plc r)[i]? = some p) : p ∉ (plc r).take i := by
  intro h
  obtain ⟨j, hj, he⟩ := List.getElem_of_mem h
  rw [List.length_take] at hj
  have hji : j < i := by omega
  obtain ⟨hi, hpi⟩ := List.getElem?_eq_some_iff.1 hp
  have := List.pairwise_iff_getElem.1 (plc_pw r hm) j i (by omega) hi hji
  rw [List.getElem_take] at he
  rw [he, hpi] at this
  omega
theorem OwnC.of_block {w w' : World} {base z n c : Nat} {E : TypeId} {A : Option Addr} {F : Nat → Value} (h : OwnC w base E z A n c F) (hb : ∀ g, base ≤ g → g < w.heap.size → w'.heap[g]? = w.heap[g]?) : OwnC w' base E z A n c F := by
  obtain ⟨h1, h2⟩ := h
  refine ⟨h1, ?_⟩
  rcases h2 with h2 | ⟨g, cap, cur, e, hg, hh, hr⟩
  · exact .inl h2
  · exact .inr ⟨g, cap, cur, e, hg, (hb g hg (Array.getElem?_eq_some_iff.1 hh).1).trans hh, hr⟩
theorem IsSet.lt {w : World} {b : Nat} {S : List (Int × Int)} (h : IsSet w b S) : b < w.heap.size := by
  obtain ⟨es, c, hb, _⟩ := h
  exact (Array.getElem?_eq_some_iff.1 hb).1
theorem IsSet.of_block {w w' : World} {b : Nat} {S : List (Int × Int)} (h : IsSet w b S) (hb : w'.heap[b]? = w.heap[b]?) : IsSet w' b S := by
  obtain ⟨es, c, h1, h2⟩ := h
  exact ⟨es, c, hb.trans h1, h2⟩
set_option maxRecDepth 100000 in
set_option maxHeartbeats 8000000 in
theorem meet_any (r : SR) (hm : MxP r) (b : Nat) (S : List (Int × Int)) (w : World) (hs : IsSet w b S) :
    Calls Tryz.prog 70 #[.agg (srow r), .map (some b)] w fun e w' => ((NoneIn (plc r) S ∧ IsSet w' b (S ++ plc r) ∧ e = .returned (.bool true)) ∨ (SomeIn (plc r) S ∧ e = .returned (.bool false))) ∧ But1 b w w' := by
  have hblt := hs.lt
  obtain ⟨U, hU⟩ : ∃ U, w.alloc (.cells #[.string r.nm, .int .i64 r.n0, .int .i64 r.n1, .int .i64 r.n2, .int .i64 r.n3, .int .i64 r.n4, .int .i64 r.mx, .int .i64 r.sb] 73) = U := ⟨_, rfl⟩
  have ru : RowC U w.heap.size (srow r) 73 := by rw [← hU]; exact RowC.new _ _ _ _ rfl
  have hbU : Below w.heap.size w U := by rw [← hU]; exact (Below.refl _ _).alloc (Nat.le_refl _) _
  have hsU : IsSet U b S := hs.of_block (hbU.block b hblt)
  have HPL := Lib.hid (placed_any r hm U)
  have HSU := Lib.hid hsU
  have HBU := Lib.hid hbU
  have HU := Lib.hid hU
  have HM := Lib.hid hm
  have HBL := Lib.hid hblt
  have d0 := ru.cell 0 (.string r.nm) rfl
  have d1 := ru.cell 1 (.int .i64 r.n0) rfl
  have d2 := ru.cell 2 (.int .i64 r.n1) rfl
  have d3 := ru.cell 3 (.int .i64 r.n2) rfl
  have d4 := ru.cell 4 (.int .i64 r.n3) rfl
  have d5 := ru.cell 5 (.int .i64 r.n4) rfl
  have d6 := ru.cell 6 (.int .i64 r.mx) rfl
  have d7 := ru.cell 7 (.int .i64 r.sb) rfl
  clear hU hbU ru hs hsU hm hblt
  go_enter Tryz.func70, Tryz.ntmps70
  go_upto_region 1 with fail
  rw [HU.out]
  go_wp2_with fail
  refine HPL.out.mono ?_
  rintro e w1 ⟨A', c', rfl, hown, hB1⟩
  have hUl : w.heap.size ≤ U.heap.size := HBU.out.size
  have HS1 := Lib.hid (HSU.out.of_block (hB1.block b (Nat.lt_of_lt_of_le HBL.out hUl)))
  have HB1 : Hid (But1 b w w1) := Lib.hid ((But1.of HBU.out (Nat.le_refl _)).trans (But1.of hB1 (Nat.le_refl _)))
  have HOW := Lib.hid hown
  have HBS := Lib.hid hB1.size
  have HUL := Lib.hid (Nat.lt_of_lt_of_le HBL.out hUl)
  generalize U.heap.size = base at *
  have HNW := Lib.hid fun i p h => plc_new r HM.out i p h
  obtain ⟨L, hL⟩ : ∃ L, plc r = L := ⟨_, rfl⟩
  have hll : L.length ≤ 6 := by
    rw [← hL, plc, List.length_append]
    have := plN_len r 5
    split <;> simp <;> omega
  rw [hL] at HOW HNW ⊢
  have HLL := Lib.hid hL
  clear hown hB1 d0 d1 d2 d3 d4 d5 d6 d7 hL hUl HPL HSU
  go_wp2_with fail
  go_loopw [12] (fun s wr => ∃ i : Nat, i ≤ L.length ∧ s = .int .i64 i ∧ (∀ p ∈ L.take i, p ∉ S) ∧ IsSet wr b (S ++ L.take i) ∧ OwnC wr base 172 2 A' L.length c' (pcell L) ∧ base ≤ wr.heap.size ∧ But1 b w wr)
    (fun s _ => L.length - (intOf s).toNat)
  case atStart => exact ⟨0, Nat.zero_le _, rfl, fun p h => by simp at h, by simpa using HS1.out, HOW.out, HBS.out, HB1.out⟩
  case round =>
    clear HOW HS1 HB1 HBS
    obtain ⟨i, hi, rfl, hno, hset, hown, hbs, hB⟩ := hrel
    have HNO := Lib.hid hno
    have HB := Lib.hid hB
    have HBS := Lib.hid hbs
    by_cases hlt : i < L.length
    · obtain ⟨p, hp⟩ : ∃ p, L[i]? = some p := ⟨_, List.getElem?_eq_getElem hlt⟩
      have hnt := HNW.out i p hp
      have hgd : L.getD i (0, 0) = p := by rw [List.getD_eq_getElem?_getD, hp]; rfl
      have htk : L.take (i + 1) = L.take i ++ [p] := by rw [List.take_add_one, hp]; rfl
      have hmem : p ∈ L := List.mem_of_getElem? hp
      obtain ⟨g, rfl, hg, hgl, hcl⟩ := own_atz hown (by omega)
      have c0 : wr.cell? ⟨g, i * 2, none⟩ = some (.int .i64 p.1) := by
        rw [hcl (i * 2) (by omega), pcell, if_pos (by omega), show i * 2 / 2 = i by omega, hgd]
      have c1 : wr.cell? ⟨g, i * 2 + 1, none⟩ = some (.int .i64 p.2) := by
        rw [hcl (i * 2 + 1) (by omega), pcell, if_neg (by omega), show (i * 2 + 1) / 2 = i by omega, hgd]
      have r1 := RowC.new wr #[.int .i64 p.1, .int .i64 p.2] 172 _ rfl
      have hb1 : Below wr.heap.size wr (wr.alloc (.cells #[.int .i64 p.1, .int .i64 p.2] 172)) := (Below.refl _ _).alloc (Nat.le_refl _) _
      have hs1 : IsSet (wr.alloc (.cells #[.int .i64 p.1, .int .i64 p.2] 172)) b (S ++ L.take i) := hset.of_block (hb1.block b hset.lt)
      have hlk := hs1.look p
      have r2 := r1.alloc (.cells #[] 150)
      have hb2 : Below wr.heap.size wr ((wr.alloc (.cells #[.int .i64 p.1, .int .i64 p.2] 172)).alloc (.cells #[] 150)) := hb1.alloc hb1.size _
      have hs2 : IsSet ((wr.alloc (.cells #[.int .i64 p.1, .int .i64 p.2] 172)).alloc (.cells #[] 150)) b (S ++ L.take i) := hset.of_block (hb2.block b hset.lt)
      have HOW2 := Lib.hid (hown.below hb2 (Nat.le_refl _))
      have HB2 := Lib.hid (But1.trans hB (But1.of hb2 (Nat.le_refl _)))
      have x0 := r1.cell 0 (.int .i64 p.1) rfl
      have x1 := r1.cell 1 (.int .i64 p.2) rfl
      have z0 := r2.cell 0 (.int .i64 p.1) rfl
      have z1 := r2.cell 1 (.int .i64 p.2) rfl
      have e1 : (0 : Int) ≤ (i : Int) := by omega
      have e2 : (i : Int) < (L.length : Int) := by omega
      by_cases hin : p ∈ S
      · have hd : decide (p ∈ S ++ L.take i) = true := decide_eq_true (List.mem_append_left _ hin)
        rw [hd] at hlk
        have HE : Hid (SomeIn (plc r) S) := Lib.hid (by rw [HLL.out]; exact ⟨p, hmem, hin⟩)
        clear hp hnt hgd htk hmem hg hgl hcl r1 hb1 hs1 r2 hb2 hs2 hin hd hno hset hown hbs hB
        go_wp2
        go_ret
        exact ⟨.inr ⟨HE.out, rfl⟩, HB2.out⟩
      · have hni : p ∉ S ++ L.take i := fun h => (List.mem_append.1 h).elim hin hnt
        have hd : decide (p ∈ S ++ L.take i) = false := decide_eq_false hni
        rw [hd] at hlk
        obtain ⟨w3, hup, hs3, hg3⟩ := hs2.insert p hni
        have HS3 : Hid (IsSet w3 b (S ++ L.take (i + 1))) := Lib.hid (by rw [htk, ← List.append_assoc]; exact hs3)
        have HN3 : Hid (∀ q ∈ L.take (i + 1), q ∉ S) := Lib.hid (by
          rw [htk]
          intro q hq
          rcases List.mem_append.1 hq with h | h
          · exact HNO.out q h
          · simp at h; subst h; exact hin)
        have HOW3 : Hid (OwnC w3 base 172 2 (some ⟨g, 0, none⟩) L.length c' (pcell L)) := Lib.hid (HOW2.out.of_block fun k hk hkl => hg3.block k hkl (fun e => by cases e; have := HUL.out; omega))
        have HB3 : Hid (But1 b w w3) := Lib.hid (But1.trans HB2.out hg3)
        have HZ3 : Hid (base ≤ w3.heap.size) := Lib.hid (by have := hg3.size; have := hb2.size; omega)
        clear hp hnt hgd htk hmem hg hgl hcl r1 hb1 hs1 r2 hb2 hs2 hin hd hno hset hown hbs hB hni hs3 hg3
        go_wp2
        exact ⟨⟨i + 1, by omega, by go_num, HN3.out, HS3.out, HOW3.out, HZ3.out, HB3.out⟩, by simp [intOf]; omega⟩
    · obtain rfl : i = L.length := by omega
      have e2 : ¬ (L.length : Int) < (L.length : Int) := by omega
      rw [List.take_length] at hset hno
      have HS : Hid (IsSet wr b (S ++ plc r)) := Lib.hid (by rw [HLL.out]; exact hset)
      have HN : Hid (NoneIn (plc r) S) := Lib.hid (by rw [HLL.out]; exact hno)
      clear hset hno hown hbs hB HNO
      go_wp2
      go_ret
      exact ⟨.inl ⟨HN.out, HS.out, rfl⟩, HB.out⟩
end Go.Proofs.YtccklmleaffgiaaGreatDoor
