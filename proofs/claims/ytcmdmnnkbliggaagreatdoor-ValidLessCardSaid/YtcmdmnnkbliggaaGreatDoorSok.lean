/-
  The document's own row and Right of layer 11.
-/
import Derived.Test.YtcmdmnnkbliggaaGreatDoorMs
import Derived.BigQuiet
import Derived.Deep.QuietTactic
import Derived.Deep.CutRange
namespace Go.Proofs.YtcmdmnnkbliggaaGreatDoor
open Go.RowKit
set_option linter.unusedVariables false

/-- Which numbers a row may have. -/
def RngP (r : SR) : Prop := ∀ a, a < 5 → -1 ≤ numI r a ∧ numI r a ≤ 1073741823
/-- Which multiplexer, and which number there. -/
def MxP (r : SR) : Prop := (r.mx = 0 ∧ r.sb = 0) ∨ ((r.mx = 1 ∨ r.mx = 2) ∧ 1 ≤ r.sb ∧ r.sb ≤ 255)
def RiseP (T : Nat → SR) (i : Nat) : Prop := 0 < i → Op.bytesLess (T (i - 1)).nm.toList (T i).nm.toList = true
/-- Two rows that have one number. -/
def ClP (p r : SR) : Prop := (∃ a, a < 5 ∧ 0 ≤ numI r a ∧ numI p a = numI r a) ∨ (0 < r.mx ∧ p.mx = r.mx ∧ p.sb = r.sb)
open Classical in
/-- What is wrong with a row, with those ahead; an error's number. -/
noncomputable def rowF (T : Nat → SR) (i : Nat) : Nat :=
  if NmP (T i).nm then (if RiseP T i then (if RngP (T i) ∧ MxP (T i) then (if (T i).n2 = 102 ∨ (T i).n2 = 117 then 17 else if ∃ k, k < i ∧ ClP (T k) (T i) then 15 else 0) else 16) else 15) else 13
section
variable {T : Nat → SR} {i : Nat}
theorem row13 (h : ¬ NmP (T i).nm) : rowF T i = 13 := by unfold rowF; rw [if_neg h]
theorem row15a (h : NmP (T i).nm) (h2 : ¬ RiseP T i) : rowF T i = 15 := by unfold rowF; rw [if_pos h, if_neg h2]
theorem row16 (h : NmP (T i).nm) (h2 : RiseP T i) (h3 : ¬ (RngP (T i) ∧ MxP (T i))) : rowF T i = 16 := by unfold rowF; rw [if_pos h, if_pos h2, if_neg h3]
theorem row17 (h : NmP (T i).nm) (h2 : RiseP T i) (h3 : RngP (T i)) (h3' : MxP (T i)) (h4 : (T i).n2 = 102 ∨ (T i).n2 = 117) : rowF T i = 17 := by unfold rowF; rw [if_pos h, if_pos h2, if_pos ⟨h3, h3'⟩, if_pos h4]
theorem row15b (h : NmP (T i).nm) (h2 : RiseP T i) (h3 : RngP (T i)) (h3' : MxP (T i)) (h4 : ¬ ((T i).n2 = 102 ∨ (T i).n2 = 117)) (h5 : ∃ k, k < i ∧ ClP (T k) (T i)) : rowF T i = 15 := by
  unfold rowF; rw [if_pos h, if_pos h2, if_pos ⟨h3, h3'⟩, if_neg h4, if_pos h5]
theorem row0 (h : NmP (T i).nm) (h2 : RiseP T i) (h3 : RngP (T i)) (h3' : MxP (T i)) (h4 : ¬ ((T i).n2 = 102 ∨ (T i).n2 = 117)) (h5 : ¬ ∃ k, k < i ∧ ClP (T k) (T i)) : rowF T i = 0 := by
  unfold rowF; rw [if_pos h, if_pos h2, if_pos ⟨h3, h3'⟩, if_neg h4, if_neg h5]
theorem row_ok (h : rowF T i = 0) : NmP (T i).nm ∧ RiseP T i ∧ RngP (T i) ∧ MxP (T i) ∧ ¬ ((T i).n2 = 102 ∨ (T i).n2 = 117) ∧ ¬ ∃ k, k < i ∧ ClP (T k) (T i) := by
  classical
  by_cases h1 : NmP (T i).nm
  · by_cases h2 : RiseP T i
    · by_cases h3 : RngP (T i) ∧ MxP (T i)
      · by_cases h4 : (T i).n2 = 102 ∨ (T i).n2 = 117
        · rw [row17 h1 h2 h3.1 h3.2 h4] at h; cases h
        · by_cases h5 : ∃ k, k < i ∧ ClP (T k) (T i)
          · rw [row15b h1 h2 h3.1 h3.2 h4 h5] at h; cases h
          · exact ⟨h1, h2, h3.1, h3.2, h4, h5⟩
      · rw [row16 h1 h2 h3] at h; cases h
    · rw [row15a h1 h2] at h; cases h
  · rw [row13 h1] at h; cases h
end
theorem RowC.num {W : World} {g : Nat} {r : SR} {t : TypeId} (h : RowC W g (srow r) t) (a : Nat) (ha : a < 5) : W.cell? ⟨g, 1 + a, none⟩ = some (.int .i64 (numI r a)) := h.cell (1 + a) _ (srow_num r a ha)

set_option maxRecDepth 100000 in
set_option maxHeartbeats 16000000 in
theorem refRow_any (b o n cap : Nat) (T : Nat → SR) (i : Nat) (hi : i < n) (w : World) (hn : n ≤ 1000000) (ht : Tb w b o n T) :
    Calls Tryz.prog 72 #[.slice (some ⟨b, o, none⟩) n cap, .int .i64 i] w fun e w' => e = .returned (.int .i64 (rowF T i : Nat)) ∧ Below w.heap.size w w' := by
  obtain ⟨q0, q1, q2, q3, q4, q5, q6, q7⟩ := ht.2 i hi
  obtain ⟨r, hr⟩ : ∃ r, T i = r := ⟨_, rfl⟩
  rw [hr] at q0 q1 q2 q3 q4 q5 q6 q7
  have HN := Lib.hid fun W => refName_any r.nm W
  have i1 : (0 : Int) ≤ (i : Int) := by omega
  have i2 : (i : Int) < (n : Int) := by omega
  have HR := Lib.hid hr
  obtain ⟨U, hU⟩ : ∃ U, w.alloc (.cells #[.string r.nm, .int .i64 r.n0, .int .i64 r.n1, .int .i64 r.n2, .int .i64 r.n3, .int .i64 r.n4, .int .i64 r.mx, .int .i64 r.sb] 64) = U := ⟨_, rfl⟩
  have ru : RowC U w.heap.size (srow r) 64 := by rw [← hU]; exact RowC.new _ _ _ _ rfl
  have hbU : Below w.heap.size w U := by rw [← hU]; exact (Below.refl _ _).alloc (Nat.le_refl _) _
  have HT := Lib.hid (ht.below hbU (Nat.le_refl _))
  have HBU := Lib.hid hbU
  have HRU := Lib.hid ru
  have HU := Lib.hid hU
  have HI := Lib.hid hi
  have HNN := Lib.hid hn
  clear hU hbU ru ht hr
  go_enter Tryz.func72, Tryz.ntmps72
  go_upto_region 2 with fail
  rw [HU.out]
  clear q0 q1 q2 q3 q4 q5 q6 q7
  have d0 := HRU.out.cell 0 (.string r.nm) rfl
  go_wp2_with fail
  refine (HN.out _).mono ?_
  rintro e w1 ⟨h, rfl⟩
  rcases h with ⟨hN, rfl⟩ | ⟨hN, rfl⟩
  case inr =>
    have HE : Hid (rowF T i = 13) := Lib.hid (row13 (by rw [HR.out]; exact hN))
    clear hN
    go_wp2
    go_ret
    exact ⟨by rw [HE.out]; rfl, HBU.out⟩
  have HNM := Lib.hid hN
  clear hN
  go_upto_region 4 with fail
  go_cut [29] from 17 to 29 (fun s wx => ∃ x : Bool, s = .bool x ∧ (x = true ↔ ¬ RiseP T i) ∧ RowC wx w.heap.size (srow r) 64 ∧ Tb wx b o n T ∧ Below w.heap.size w wx)
  case first =>
    have hk0 : ∀ N, Below U.heap.size U (U.drewN N) := fun N => bdn (Below.refl _ U) N
    have HK0 := Lib.hid hk0
    clear hk0
    rcases Nat.eq_zero_or_pos i with h0 | hpos
    · have g0 : ¬ (i : Int) > 0 := by omega
      have g1 : decide ((i : Int) > 0) = false := decide_eq_false g0
      have g2 : ¬ 0 < i := by omega
      have g3 : decide (0 < i) = false := decide_eq_false g2
      have HRS : Hid (RiseP T i) := Lib.hid fun h => by omega
      clear h0
      go_quiet (fail)
      go_wp2
      go_meet
      exact ⟨false, rfl, ⟨fun h => (by cases h), fun h => absurd HRS.out h⟩, HRU.out.below (HK0.out _) HRU.out.lt, HT.out.below (HK0.out _) (Nat.le_refl _), HBU.out.trans ((HK0.out _).mono HBU.out.size)⟩
    · obtain ⟨m, hm⟩ : ∃ m, m = i - 1 := ⟨_, rfl⟩
      have g0 : (i : Int) > 0 := by omega
      have g1 : decide ((i : Int) > 0) = true := decide_eq_true g0
      have g2 : 0 < i := hpos
      have g3 : decide (0 < i) = true := decide_eq_true g2
      have v1 : IntKind.i64.wrap ((i : Int) - 1) = (m : Int) := by rw [IntKind.wrap_i64]; omega
      have j1 : (0 : Int) ≤ (m : Int) := by omega
      have j2 : (m : Int) < (n : Int) := by omega
      have c0 := (HT.out.2 m (by omega)).1
      obtain ⟨x, hx⟩ : ∃ x, Op.bytesLess (T m).nm.toList r.nm.toList = x := ⟨_, rfl⟩
      have HRS : Hid (RiseP T i ↔ x = true) := Lib.hid (by
        unfold RiseP
        rw [HR.out, ← hm, hx]
        exact ⟨fun h => h hpos, fun h _ => h⟩)
      clear hpos hm
      go_quiet (fail)
      go_wp2
      go_meet
      exact ⟨!x, rfl, by rw [HRS.out]; cases x <;> simp, HRU.out.below (HK0.out _) HRU.out.lt, HT.out.below (HK0.out _) (Nat.le_refl _), HBU.out.trans ((HK0.out _).mono HBU.out.size)⟩
  case rest =>
    obtain ⟨x, rfl, hx, ru, ht, hB⟩ := hcut
    have HB := Lib.hid hB
    clear HT HBU HRU d0 hB HU
    cases x
    case true =>
      have HE : Hid (rowF T i = 15) := Lib.hid (row15a (by rw [HR.out]; exact HNM.out) (hx.1 rfl))
      clear hx ru ht
      go_wp2
      go_ret
      exact ⟨by rw [HE.out]; rfl, HB.out⟩
    have HRS : Hid (RiseP T i) := Lib.hid (Classical.byContradiction fun h => by have := hx.2 h; cases this)
    have HT := Lib.hid ht
    have HRU := Lib.hid ru
    clear hx ru ht
    go_wp2_with fail
    go_loopw [6] (fun s wr => ∃ k : Nat, k ≤ 5 ∧ s = .int .i64 k ∧ (∀ a, a < k → -1 ≤ numI r a ∧ numI r a ≤ 1073741823) ∧ wc = wr)
      (fun s _ => 5 - (intOf s).toNat)
    case atStart => exact ⟨0, by omega, rfl, fun a h => by omega, rfl⟩
    case round =>
      obtain ⟨k, hk, rfl, hall, rfl⟩ := hrel
      have HA := Lib.hid hall
      clear hall
      by_cases hlt : k < 5
      · have e1 : (0 : Int) ≤ (k : Int) := by omega
        have e2 : (k : Int) < 5 := by omega
        have c0 := HRU.out.num k hlt
        obtain ⟨y, hy⟩ : ∃ y, numI r k = y := ⟨_, rfl⟩
        rw [hy] at c0
        have HY := Lib.hid hy
        clear hy
        by_cases hlo : y < -1
        · have f1 : decide (y < -1) = true := decide_eq_true hlo
          have HE : Hid (rowF T i = 16) := Lib.hid (row16 (by rw [HR.out]; exact HNM.out) HRS.out (by rw [HR.out]; intro h; have := (h.1 k hlt).1; rw [HY.out] at this; omega))
          go_wp2
          go_ret
          exact ⟨by rw [HE.out]; rfl, HB.out⟩
        have f1 : decide (y < -1) = false := decide_eq_false hlo
        by_cases hhi : y > 1073741823
        · have f2 : decide (y > 1073741823) = true := decide_eq_true hhi
          have HE : Hid (rowF T i = 16) := Lib.hid (row16 (by rw [HR.out]; exact HNM.out) HRS.out (by rw [HR.out]; intro h; have := (h.1 k hlt).2; rw [HY.out] at this; omega))
          go_wp2
          go_ret
          exact ⟨by rw [HE.out]; rfl, HB.out⟩
        have f2 : decide (y > 1073741823) = false := decide_eq_false hhi
        have HX : Hid (∀ a, a < k + 1 → -1 ≤ numI r a ∧ numI r a ≤ 1073741823) := Lib.hid fun a ha => by
          by_cases h : a = k
          · subst h; rw [HY.out]; omega
          · exact HA.out a (by omega)
        clear hlo hhi
        go_wp2
        exact ⟨⟨k + 1, by omega, by go_num, HX.out, trivial⟩, by simp [intOf]; omega⟩
      · obtain rfl : k = 5 := by omega
        have HRG : Hid (RngP r) := Lib.hid HA.out
        clear HA
        go_upto_region 11 with fail
        go_cut [78] from 46 to 78 (fun s wx => ∃ x : Bool, s = .bool x ∧ (x = true ↔ ¬ MxP r) ∧ RowC wx w.heap.size (srow r) 64 ∧ Tb wx b o n T ∧ Below w.heap.size w wx)
        case first =>
          have d6 := HRU.out.cell 6 (.int .i64 r.mx) rfl
          have d7 := HRU.out.cell 7 (.int .i64 r.sb) rfl
          obtain ⟨m, hm⟩ : ∃ m, r.mx = m := ⟨_, rfl⟩
          obtain ⟨s, hs⟩ : ∃ s, r.sb = s := ⟨_, rfl⟩
          rw [hm] at d6
          rw [hs] at d7
          have HM : Hid (MxP r ↔ (m = 0 ∧ s = 0) ∨ ((m = 1 ∨ m = 2) ∧ 1 ≤ s ∧ s ≤ 255)) := Lib.hid (by unfold MxP; rw [hm, hs])
          clear hm hs
          by_cases a1 : m < 0
          · have f1 : decide (m < 0) = true := decide_eq_true a1
            have HV : Hid (true = true ↔ ¬ MxP r) := Lib.hid (by rw [HM.out]; constructor <;> intro _ <;> first | rfl | omega)
            clear a1
            go_wp2
            go_meet
            exact ⟨true, rfl, (by first | exact HV.out | simpa using HV.out), HRU.out, HT.out, HB.out⟩
          have f1 : decide (m < 0) = false := decide_eq_false a1
          by_cases a2 : m > 2
          · have f2 : decide (m > 2) = true := decide_eq_true a2
            have HV : Hid (true = true ↔ ¬ MxP r) := Lib.hid (by rw [HM.out]; constructor <;> intro _ <;> first | rfl | omega)
            clear a1 a2
            go_wp2
            go_meet
            exact ⟨true, rfl, (by first | exact HV.out | simpa using HV.out), HRU.out, HT.out, HB.out⟩
          have f2 : decide (m > 2) = false := decide_eq_false a2
          by_cases a3 : m = 0
          · have f3 : (m == 0) = true := by simp [a3]
            have f4 : decide (m > 0) = false := decide_eq_false (by omega)
            by_cases a4 : s = 0
            · have f5 : (s != 0) = false := by simp [a4]
              have HV : Hid (false = true ↔ ¬ MxP r) := Lib.hid (by rw [HM.out]; constructor <;> intro h <;> first | (cases h; done) | omega)
              clear a1 a2 a3 a4
              go_wp2
              go_meet
              exact ⟨false, rfl, HV.out, HRU.out, HT.out, HB.out⟩
            · have f5 : (s != 0) = true := by simp [a4]
              have HV : Hid (true = true ↔ ¬ MxP r) := Lib.hid (by rw [HM.out]; constructor <;> intro _ <;> first | rfl | omega)
              clear a1 a2 a3 a4
              go_wp2
              go_meet
              exact ⟨true, rfl, (by first | exact HV.out | simpa using HV.out), HRU.out, HT.out, HB.out⟩
          · have f3 : (m == 0) = false := by simp [a3]
            have f4 : decide (m > 0) = true := decide_eq_true (by omega)
            by_cases a4 : s < 1
            · have f5 : decide (s < 1) = true := decide_eq_true a4
              have HV : Hid (true = true ↔ ¬ MxP r) := Lib.hid (by rw [HM.out]; constructor <;> intro _ <;> first | rfl | omega)
              clear a1 a2 a3 a4
              go_wp2
              go_meet
              exact ⟨true, rfl, (by first | exact HV.out | simpa using HV.out), HRU.out, HT.out, HB.out⟩
            have f5 : decide (s < 1) = false := decide_eq_false a4
            by_cases a5 : s > 255
            · have f6 : decide (s > 255) = true := decide_eq_true a5
              have HV : Hid (true = true ↔ ¬ MxP r) := Lib.hid (by rw [HM.out]; constructor <;> intro _ <;> first | rfl | omega)
              clear a1 a2 a3 a4 a5
              go_wp2
              go_meet
              exact ⟨true, rfl, (by first | exact HV.out | simpa using HV.out), HRU.out, HT.out, HB.out⟩
            · have f6 : decide (s > 255) = false := decide_eq_false a5
              have HV : Hid (false = true ↔ ¬ MxP r) := Lib.hid (by rw [HM.out]; constructor <;> intro h <;> first | (cases h; done) | omega)
              clear a1 a2 a3 a4 a5
              go_wp2
              go_meet
              exact ⟨false, rfl, HV.out, HRU.out, HT.out, HB.out⟩
        case rest =>
          obtain ⟨x, rfl, hx, ru, ht, hB⟩ := hcut
          have HB := Lib.hid hB
          clear hB HRU HT
          cases x
          case true =>
            have HE : Hid (rowF T i = 16) := Lib.hid (row16 (by rw [HR.out]; exact HNM.out) HRS.out (by rw [HR.out]; intro h; exact hx.1 rfl h.2))
            clear hx ru ht
            go_wp2
            go_ret
            exact ⟨by rw [HE.out]; rfl, HB.out⟩
          have HMX : Hid (MxP r) := Lib.hid (Classical.byContradiction fun h => by have := hx.2 h; cases this)
          have HT := Lib.hid ht
          have HRU := Lib.hid ru
          have d3 := ru.cell 3 (.int .i64 r.n2) rfl
          clear hx ru ht
          by_cases a1 : r.n2 = 102
          · have f1 : (r.n2 == 102) = true := by simp [a1]
            have HE : Hid (rowF T i = 17) := Lib.hid (row17 (by rw [HR.out]; exact HNM.out) HRS.out (by rw [HR.out]; exact HRG.out) (by rw [HR.out]; exact HMX.out) (by rw [HR.out]; exact .inl a1))
            clear a1
            go_wp2
            go_ret
            exact ⟨by rw [HE.out]; rfl, HB.out⟩
          have f1 : (r.n2 == 102) = false := by simp [a1]
          by_cases a2 : r.n2 = 117
          · have f2 : (r.n2 == 117) = true := by simp [a2]
            have HE : Hid (rowF T i = 17) := Lib.hid (row17 (by rw [HR.out]; exact HNM.out) HRS.out (by rw [HR.out]; exact HRG.out) (by rw [HR.out]; exact HMX.out) (by rw [HR.out]; exact .inr a2))
            clear a1 a2
            go_wp2
            go_ret
            exact ⟨by rw [HE.out]; rfl, HB.out⟩
          have f2 : (r.n2 == 117) = false := by simp [a2]
          have HEND : Hid (((∃ k, k < i ∧ ClP (T k) r) → rowF T i = 15) ∧ ((¬ ∃ k, k < i ∧ ClP (T k) r) → rowF T i = 0)) := Lib.hid
            ⟨fun h => row15b (by rw [HR.out]; exact HNM.out) HRS.out (by rw [HR.out]; exact HRG.out) (by rw [HR.out]; exact HMX.out) (by rw [HR.out]; exact fun h => h.elim a1 a2) (by rw [HR.out]; exact h),
             fun h => row0 (by rw [HR.out]; exact HNM.out) HRS.out (by rw [HR.out]; exact HRG.out) (by rw [HR.out]; exact HMX.out) (by rw [HR.out]; exact fun h => h.elim a1 a2) (by rw [HR.out]; exact h)⟩
          clear a1 a2
          go_wp2_with fail
          clear f1 f2 d3
          go_loopw [7] (fun s wr => ∃ k : Nat, k ≤ i ∧ s = .int .i64 k ∧ (∀ p, p < k → ¬ ClP (T p) r) ∧ RowC wr w.heap.size (srow r) 64 ∧ Tb wr b o n T ∧ Below w.heap.size w wr)
            (fun s _ => i - (intOf s).toNat)
          case atStart => exact ⟨0, by omega, rfl, fun a h => by omega, HRU.out, HT.out, HB.out⟩
          case round =>
            clear HB HRU HT
            obtain ⟨k, hk, rfl, hno, ru, ht, hB⟩ := hrel
            have HNO := Lib.hid hno
            have HRU := Lib.hid ru
            have HT := Lib.hid ht
            have HB := Lib.hid hB
            clear hno ru ht hB
            by_cases hlt : k < i
            · have j1 : (0 : Int) ≤ (k : Int) := by omega
              have j2 : (k : Int) < (i : Int) := by omega
              have j3 : (k : Int) < (n : Int) := by omega
              have hkn : k < n := by omega
              have HKN := Lib.hid hkn
              go_wp2_with fail
              go_loopw [8] (fun s wq => ∃ a : Nat, a ≤ 5 ∧ s = .int .i64 a ∧ (∀ p, p < a → ¬ (0 ≤ numI r p ∧ numI (T k) p = numI r p)) ∧ RowC wq w.heap.size (srow r) 64 ∧ Tb wq b o n T ∧ Below w.heap.size w wq)
                (fun s _ => 5 - (intOf s).toNat)
              case atStart => exact ⟨0, by omega, rfl, fun a h => by omega, HRU.out, HT.out, HB.out⟩
              case round =>
                clear HB HRU HT
                obtain ⟨a, ha, rfl, hna, ru, ht, hB⟩ := hrel
                have HNA := Lib.hid hna
                have HRU := Lib.hid ru
                have HT := Lib.hid ht
                have HB := Lib.hid hB
                have HK0 : Hid (∀ N, Below wr.heap.size wr (wr.drewN N)) := Lib.hid fun N => bdn (Below.refl _ wr) N
                clear hna ru ht hB
                by_cases hla : a < 5
                · have e1 : (0 : Int) ≤ (a : Int) := by omega
                  have e2 : (a : Int) < 5 := by omega
                  have c0 := HRU.out.num a hla
                  have c1 := HT.out.num k HKN.out a hla
                  obtain ⟨y, hy⟩ : ∃ y, numI r a = y := ⟨_, rfl⟩
                  obtain ⟨z, hz⟩ : ∃ z, numI (T k) a = z := ⟨_, rfl⟩
                  rw [hy] at c0
                  rw [hz] at c1
                  have HC : Hid (¬ (0 ≤ y ∧ z = y) → ∀ p, p < a + 1 → ¬ (0 ≤ numI r p ∧ numI (T k) p = numI r p)) := Lib.hid fun h p hp => by
                    by_cases e : p = a
                    · subst e; rw [hy, hz]; exact h
                    · exact HNA.out p (by omega)
                  have HY : Hid (0 ≤ y → z = y → ClP (T k) r) := Lib.hid fun h1 h2 => .inl ⟨a, hla, by rw [hy]; exact h1, by rw [hy, hz]; exact h2⟩
                  clear hy hz
                  by_cases h0 : y ≥ 0
                  · have f1 : decide (y ≥ 0) = true := decide_eq_true h0
                    cases hzy : (z == y)
                    · have HX := Lib.hid (HC.out fun h => by simp [h.2] at hzy)
                      clear h0
                      go_upto_region 21 with fail
                      go_quiet (fail)
                      go_wp2
                      exact ⟨⟨a + 1, by omega, by go_num, HX.out, HRU.out.below (HK0.out _) HRU.out.lt, HT.out.below (HK0.out _) (Nat.le_refl _), HB.out.trans ((HK0.out _).mono HB.out.size)⟩, by simp [intOf]; omega⟩
                    · have HE : Hid (rowF T i = 15) := Lib.hid (HEND.out.1 ⟨k, hlt, HY.out h0 (by simpa using hzy)⟩)
                      clear h0
                      go_upto_region 21 with fail
                      go_quiet (fail)
                      go_wp2
                      go_ret
                      exact ⟨by rw [HE.out]; rfl, HB.out.trans ((HK0.out _).mono HB.out.size)⟩
                  · have f1 : decide (y ≥ 0) = false := decide_eq_false h0
                    have HX := Lib.hid (HC.out fun h => h0 h.1)
                    clear h0
                    go_upto_region 21 with fail
                    go_quiet (fail)
                    go_wp2
                    exact ⟨⟨a + 1, by omega, by go_num, HX.out, HRU.out.below (HK0.out _) HRU.out.lt, HT.out.below (HK0.out _) (Nat.le_refl _), HB.out.trans ((HK0.out _).mono HB.out.size)⟩, by simp [intOf]; omega⟩
                · obtain rfl : a = 5 := by omega
                  have c0 := HRU.out.cell 6 (.int .i64 r.mx) rfl
                  have c1 := HRU.out.cell 7 (.int .i64 r.sb) rfl
                  obtain ⟨-, -, -, -, -, -, q6, q7⟩ := HT.out.2 k HKN.out
                  have HX : Hid (¬ (0 < r.mx ∧ (T k).mx = r.mx ∧ (T k).sb = r.sb) → ∀ p, p < k + 1 → ¬ ClP (T p) r) := Lib.hid fun h p hp => by
                    by_cases e : p = k
                    · subst e
                      rintro (⟨a, h1, h2, h3⟩ | h')
                      · exact HNA.out a h1 ⟨h2, h3⟩
                      · exact h h'
                    · exact HNO.out p (by omega)
                  by_cases h0 : r.mx > 0
                  · have f1 : decide (r.mx > 0) = true := decide_eq_true h0
                    cases h1 : ((T k).mx == r.mx)
                    · have HZ := Lib.hid (HX.out fun h => by simp [h.2.1] at h1)
                      clear h0
                      go_upto_region 23 with fail
                      go_quiet (fail)
                      go_wp2
                      exact ⟨⟨k + 1, by omega, by go_num, HZ.out, HRU.out.below (HK0.out _) HRU.out.lt, HT.out.below (HK0.out _) (Nat.le_refl _), HB.out.trans ((HK0.out _).mono HB.out.size)⟩, by simp [intOf]; omega⟩
                    · cases h2 : ((T k).sb == r.sb)
                      · have HZ := Lib.hid (HX.out fun h => by simp [h.2.2] at h2)
                        clear h0
                        go_upto_region 23 with fail
                        go_quiet (fail)
                        go_wp2
                        exact ⟨⟨k + 1, by omega, by go_num, HZ.out, HRU.out.below (HK0.out _) HRU.out.lt, HT.out.below (HK0.out _) (Nat.le_refl _), HB.out.trans ((HK0.out _).mono HB.out.size)⟩, by simp [intOf]; omega⟩
                      · have HE : Hid (rowF T i = 15) := Lib.hid (HEND.out.1 ⟨k, hlt, .inr ⟨h0, by simpa using h1, by simpa using h2⟩⟩)
                        clear h0
                        go_upto_region 23 with fail
                        go_quiet (fail)
                        go_wp2
                        go_ret
                        exact ⟨by rw [HE.out]; rfl, HB.out.trans ((HK0.out _).mono HB.out.size)⟩
                  · have f1 : decide (r.mx > 0) = false := decide_eq_false h0
                    have HZ := Lib.hid (HX.out fun h => h0 h.1)
                    clear h0
                    go_upto_region 23 with fail
                    go_quiet (fail)
                    go_wp2
                    exact ⟨⟨k + 1, by omega, by go_num, HZ.out, HRU.out.below (HK0.out _) HRU.out.lt, HT.out.below (HK0.out _) (Nat.le_refl _), HB.out.trans ((HK0.out _).mono HB.out.size)⟩, by simp [intOf]; omega⟩
            · obtain rfl : k = i := by omega
              have j2 : ¬ (k : Int) < (k : Int) := by omega
              have HE : Hid (rowF T k = 0) := Lib.hid (HEND.out.2 fun ⟨p, h1, h2⟩ => HNO.out p h1 h2)
              go_wp2
              go_ret
              exact ⟨by rw [HE.out]; rfl, HB.out⟩
end Go.Proofs.YtcmdmnnkbliggaaGreatDoor
