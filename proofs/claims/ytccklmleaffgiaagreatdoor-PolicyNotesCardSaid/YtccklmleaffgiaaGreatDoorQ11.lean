/-
  The document's own Right of layer 11, the laws' light of layer 12.
-/
import Derived.Test.YtccklmleaffgiaaGreatDoorSoq
import Derived.Test.YtccklmleaffgiaaGreatDoorQ10
namespace Go.Proofs.YtccklmleaffgiaaGreatDoor
open Go.RowKit
set_option linter.unusedVariables false

/-- How a look at all rows ends: a place and an error's number. -/
def RightP (T : Nat → SR) (n p q : Nat) : Prop :=
  (n > 400 ∧ p = 0 ∧ q = 3) ∨ (n ≤ 400 ∧ p < n ∧ (∀ j, j < p → rowF T j = 0) ∧ rowF T p ≠ 0 ∧ q = rowF T p) ∨ (n ≤ 400 ∧ (∀ j, j < n → rowF T j = 0) ∧ p = 0 ∧ q = 0)
end Go.Proofs.YtccklmleaffgiaaGreatDoor

/-
  Layer 11's fault, row by row, and Right.
-/
namespace Go.Proofs.YtccklmleaffgiaaGreatDoor
open Go.RowKit
set_option linter.unusedVariables false

def leB (x y : List UInt8) : Bool := Op.bytesLess x y || x == y
open Classical in
/-- What is wrong with a row behind a name, and behind pairs that were met. -/
noncomputable def faultF (r : SR) (ahead : ByteArray) (S : List (Int × Int)) : Nat :=
  if NmP r.nm then (if leB r.nm.toList ahead.toList = false then (if InR r then (if r.n2 = 102 ∨ r.n2 = 117 then 17 else if SomeIn (plc r) S then 15 else 0) else 16) else 15) else 13
set_option maxRecDepth 100000 in
set_option maxHeartbeats 16000000 in
theorem fault_any (r : SR) (ahead : ByteArray) (b : Nat) (S : List (Int × Int)) (w : World) (hs : IsSet w b S) :
    Calls Tryz.prog 43 #[.agg (srow r), .string ahead, .map (some b)] w fun e w' => e = .returned (.int .i64 (faultF r ahead S : Nat)) ∧ (faultF r ahead S = 0 → IsSet w' b (S ++ plc r)) ∧ But1 b w w' := by
  have hblt := hs.lt
  obtain ⟨U, hU⟩ : ∃ U, w.alloc (.cells #[.string r.nm, .int .i64 r.n0, .int .i64 r.n1, .int .i64 r.n2, .int .i64 r.n3, .int .i64 r.n4, .int .i64 r.mx, .int .i64 r.sb] 73) = U := ⟨_, rfl⟩
  have ru : RowC U w.heap.size (srow r) 73 := by rw [← hU]; exact RowC.new _ _ _ _ rfl
  have hbU : Below w.heap.size w U := by rw [← hU]; exact (Below.refl _ _).alloc (Nat.le_refl _) _
  have hsU : IsSet U b S := hs.of_block (hbU.block b hblt)
  have HRU := Lib.hid ru
  have HSU := Lib.hid hsU
  have HBU := Lib.hid hbU
  have HBB : Hid (But1 b w U) := Lib.hid (But1.of hbU (Nat.le_refl _))
  have HU := Lib.hid hU
  have HBL := Lib.hid hblt
  have HN := Lib.hid (isName_any r.nm U)
  have d3 := ru.cell 3 (.int .i64 r.n2) rfl
  have d0 := ru.cell 0 (.string r.nm) rfl
  clear hU hbU ru hs hsU hblt
  go_enter Tryz.func43, Tryz.ntmps43
  go_upto_region 1 with fail
  rw [HU.out]
  go_wp2_with fail
  refine HN.out.mono ?_
  rintro e w1 ⟨h, hB1⟩
  have HRU1 := Lib.hid (HRU.out.below hB1 HRU.out.lt)
  have HS1 := Lib.hid (HSU.out.of_block (hB1.block b HSU.out.lt))
  have hle : b ≤ U.heap.size := Nat.le_of_lt HSU.out.lt
  have HB1 := Lib.hid (But1.trans HBB.out (But1.of hB1 (Nat.le_refl _)))
  have HLE1 : Hid (b ≤ w1.heap.size) := Lib.hid (Nat.le_trans hle hB1.size)
  clear hB1 HRU HSU HBB HN d0 d3 hle
  rcases h with ⟨hN, rfl⟩ | ⟨hN, rfl⟩
  case inr =>
    have HE : Hid (faultF r ahead S = 13) := Lib.hid (by rw [faultF, if_neg hN])
    clear hN
    go_wp2
    go_ret
    exact ⟨by rw [HE.out] <;> rfl, fun h => (by rw [HE.out] at h; cases h), HB1.out⟩
  have HNM := Lib.hid hN
  clear hN
  have d0 := HRU1.out.cell 0 (.string r.nm) rfl
  obtain ⟨x1, h1⟩ : ∃ x, Op.bytesLess r.nm.toList ahead.toList = x := ⟨_, rfl⟩
  obtain ⟨x2, h2⟩ : ∃ x, (r.nm.toList == ahead.toList) = x := ⟨_, rfl⟩
  have HLB : Hid (leB r.nm.toList ahead.toList = (x1 || x2)) := Lib.hid (by rw [leB, h1, h2])
  have h1' : Op.bytesLess r.nm.data.toList ahead.data.toList = x1 := by rw [← h1, ByteArray.toList_eq, ByteArray.toList_eq]
  have h2' : (r.nm.data.toList == ahead.data.toList) = x2 := by rw [← h2, ByteArray.toList_eq, ByteArray.toList_eq]
  obtain ⟨x3, h3⟩ : ∃ x, (x1 || x2) = x := ⟨_, rfl⟩
  cases x3
  case true =>
    have HE : Hid (faultF r ahead S = 15) := Lib.hid (by rw [faultF, if_pos HNM.out, if_neg (by rw [HLB.out, h3]; simp)])
    go_wp2
    go_ret
    exact ⟨by rw [HE.out] <;> rfl, fun h => (by rw [HE.out] at h; cases h), HB1.out⟩
  have HL3 : Hid (leB r.nm.toList ahead.toList = false) := Lib.hid (HLB.out.trans h3)
  have HIR := Lib.hid (inRange_any r w1)
  have d1 := HRU1.out.cell 1 (.int .i64 r.n0) rfl
  have d2 := HRU1.out.cell 2 (.int .i64 r.n1) rfl
  have d3 := HRU1.out.cell 3 (.int .i64 r.n2) rfl
  have d4 := HRU1.out.cell 4 (.int .i64 r.n3) rfl
  have d5 := HRU1.out.cell 5 (.int .i64 r.n4) rfl
  have d6 := HRU1.out.cell 6 (.int .i64 r.mx) rfl
  have d7 := HRU1.out.cell 7 (.int .i64 r.sb) rfl
  clear HLB
  go_wp2_with fail
  refine HIR.out.mono ?_
  rintro e w2 ⟨h, hB2⟩
  have HRU2 := Lib.hid (HRU1.out.below hB2 HRU1.out.lt)
  have HS2 := Lib.hid (HS1.out.of_block (hB2.block b HS1.out.lt))
  have HB2 := Lib.hid (But1.trans HB1.out (But1.of hB2 (Nat.le_refl _)))
  clear hB2 HRU1 HS1 HB1 HIR d0 d1 d2 d3 d4 d5 d6 d7 h1 h2 h1' h2' h3
  rcases h with ⟨hI, rfl⟩ | ⟨hI, rfl⟩
  case inr =>
    have HE : Hid (faultF r ahead S = 16) := Lib.hid (by rw [faultF, if_pos HNM.out, if_pos HL3.out, if_neg hI])
    clear hI
    go_wp2
    go_ret
    exact ⟨by rw [HE.out] <;> rfl, fun h => (by rw [HE.out] at h; cases h), HB2.out⟩
  have HI := Lib.hid hI
  clear hI
  by_cases a1 : r.n2 = 102
  · have f1 : (r.n2 == 102) = true := by simp [a1]
    have HE : Hid (faultF r ahead S = 17) := Lib.hid (by rw [faultF, if_pos HNM.out, if_pos HL3.out, if_pos HI.out, if_pos (.inl a1)])
    clear a1
    go_wp2
    go_ret
    exact ⟨by rw [HE.out] <;> rfl, fun h => (by rw [HE.out] at h; cases h), HB2.out⟩
  have f1 : (r.n2 == 102) = false := by simp [a1]
  by_cases a2 : r.n2 = 117
  · have f2 : (r.n2 == 117) = true := by simp [a2]
    have HE : Hid (faultF r ahead S = 17) := Lib.hid (by rw [faultF, if_pos HNM.out, if_pos HL3.out, if_pos HI.out, if_pos (.inr a2)])
    clear a1 a2
    go_wp2
    go_ret
    exact ⟨by rw [HE.out] <;> rfl, fun h => (by rw [HE.out] at h; cases h), HB2.out⟩
  have f2 : (r.n2 == 117) = false := by simp [a2]
  have HME := Lib.hid (meet_any r HI.out.2 b S w2 HS2.out)
  have HEQ : Hid (faultF r ahead S = 0 ∨ faultF r ahead S = 15) := Lib.hid (by
    rw [faultF, if_pos HNM.out, if_pos HL3.out, if_pos HI.out, if_neg (fun h => h.elim a1 a2)]
    split
    · exact .inr rfl
    · exact .inl rfl)
  have HSM : Hid ((SomeIn (plc r) S → faultF r ahead S = 15) ∧ (NoneIn (plc r) S → faultF r ahead S = 0)) := Lib.hid (by
    rw [faultF, if_pos HNM.out, if_pos HL3.out, if_pos HI.out, if_neg (fun h => h.elim a1 a2)]
    refine ⟨fun h => by rw [if_pos h], fun h => ?_⟩
    rw [if_neg]
    rintro ⟨p, hp, hs⟩
    exact h p hp hs)
  have d0 := HRU2.out.cell 0 (.string r.nm) rfl
  have d1 := HRU2.out.cell 1 (.int .i64 r.n0) rfl
  have d2 := HRU2.out.cell 2 (.int .i64 r.n1) rfl
  have d3 := HRU2.out.cell 3 (.int .i64 r.n2) rfl
  have d4 := HRU2.out.cell 4 (.int .i64 r.n3) rfl
  have d5 := HRU2.out.cell 5 (.int .i64 r.n4) rfl
  have d6 := HRU2.out.cell 6 (.int .i64 r.mx) rfl
  have d7 := HRU2.out.cell 7 (.int .i64 r.sb) rfl
  clear a1 a2
  go_wp2_with fail
  refine HME.out.mono ?_
  rintro e w3 ⟨h, hB3⟩
  have HB3 := Lib.hid (But1.trans HB2.out hB3)
  rcases h with ⟨hn, hs3, rfl⟩ | ⟨hn, rfl⟩
  · have HE := Lib.hid (HSM.out.2 hn)
    have HS3 := Lib.hid hs3
    clear hn hs3 hB3
    go_wp2
    go_ret
    exact ⟨by rw [HE.out] <;> rfl, fun _ => HS3.out, HB3.out⟩
  · have HE := Lib.hid (HSM.out.1 hn)
    clear hn hB3
    go_wp2
    go_ret
    exact ⟨by rw [HE.out] <;> rfl, fun h => (by rw [HE.out] at h; cases h), HB3.out⟩
theorem le_not : ∀ x y : List UInt8, leB x y = !(Op.bytesLess y x)
  | [], [] => by simp [leB, Op.bytesLess]
  | _ :: _, [] => by simp [leB, Op.bytesLess]
  | [], _ :: _ => by simp [leB, Op.bytesLess]
  | a :: x, b :: y => by
    have ih := le_not x y
    unfold leB at ih ⊢
    rw [Op.bytesLess, Op.bytesLess]
    by_cases h : a = b
    · subst h
      have h1 : (decide (a < a)) = false := by simp
      rw [h1]
      simp only [Bool.false_or, beq_self_eq_true, Bool.true_and]
      rw [← ih]
      congr 1
      by_cases hxy : x = y <;> simp [hxy]
    · have h2 : (a == b) = false := by simpa using h
      have h3 : (b == a) = false := by simpa using fun e => h e.symm
      have h4 : ((a :: x) == (b :: y)) = false := by simp [h]
      rw [h2, h3, h4]
      simp only [Bool.false_and, Bool.or_false]
      by_cases hlt : a < b
      · have : ¬ b < a := by
          rw [UInt8.lt_iff_toNat_lt] at hlt ⊢; omega
        simp [hlt, this]
      · have : b < a := by
          rw [UInt8.lt_iff_toNat_lt] at hlt ⊢
          have : a.toNat ≠ b.toNat := fun e => h (UInt8.toNat_inj.1 e)
          omega
        simp [hlt, this]
def aheadF (T : Nat → SR) : Nat → ByteArray
  | 0 => ⟨#[]⟩
  | k + 1 => (T k).nm
def setF (T : Nat → SR) (k : Nat) : List (Int × Int) := (List.range k).flatMap fun j => plc (T j)
theorem setF_succ (T : Nat → SR) (k : Nat) : setF T (k + 1) = setF T k ++ plc (T k) := by
  unfold setF
  rw [List.range_succ, List.flatMap_append]
  simp
theorem mem_plN (r : SR) (k : Nat) (p : Int × Int) : p ∈ plN r k ↔ ∃ a, a < k ∧ numI r a ≠ -1 ∧ p = ((a : Int), numI r a) := by
  induction k with
  | zero => simp [plN]
  | succ k ih =>
    rw [plN, List.mem_append, ih]
    constructor
    · rintro (⟨a, h1, h2, h3⟩ | h)
      · exact ⟨a, by omega, h2, h3⟩
      · split at h
        · simp at h
        · rename_i hk
          simp at h
          exact ⟨k, by omega, hk, h⟩
    · rintro ⟨a, h1, h2, h3⟩
      by_cases e : a = k
      · subst e
        right
        rw [if_neg h2]
        simp [h3]
      · exact .inl ⟨a, by omega, h2, h3⟩
theorem mem_plc (r : SR) (p : Int × Int) : p ∈ plc r ↔ (∃ a, a < 5 ∧ numI r a ≠ -1 ∧ p = ((a : Int), numI r a)) ∨ (r.mx ≠ 0 ∧ p = (5 + r.mx, r.sb)) := by
  rw [plc, List.mem_append, mem_plN]
  constructor
  · rintro (h | h)
    · exact .inl h
    · split at h
      · simp at h
      · rename_i hk
        simp at h
        exact .inr ⟨hk, h⟩
  · rintro (h | ⟨h1, h2⟩)
    · exact .inl h
    · right
      rw [if_neg h1]
      simp [h2]
theorem some_iff (T : Nat → SR) (k : Nat) (hk : RngP (T k) ∧ MxP (T k)) (ha : ∀ j, j < k → RngP (T j) ∧ MxP (T j)) : SomeIn (plc (T k)) (setF T k) ↔ ∃ j, j < k ∧ ClP (T j) (T k) := by
  constructor
  · rintro ⟨p, hp, hs⟩
    obtain ⟨j, hj, hpj⟩ := List.mem_flatMap.1 hs
    have hjk : j < k := List.mem_range.1 hj
    refine ⟨j, hjk, ?_⟩
    have hm1 := hk.2
    have hm2 := (ha j hjk).2
    rcases (mem_plc _ _).1 hp with ⟨a, h1, h2, h3⟩ | ⟨h1, h3⟩ <;> rcases (mem_plc _ _).1 hpj with ⟨c, k1, k2, k3⟩ | ⟨k1, k3⟩
    · rw [h3] at k3
      simp only [Prod.mk.injEq] at k3
      have hac : a = c := by omega
      subst hac
      have := (hk.1 a h1).1
      exact .inl ⟨a, h1, by omega, k3.2.symm⟩
    · exfalso
      rw [h3] at k3
      simp only [Prod.mk.injEq] at k3
      have := k3.1
      rcases hm2 with ⟨h, _⟩ | ⟨h | h, _⟩ <;> omega
    · exfalso
      rw [h3] at k3
      simp only [Prod.mk.injEq] at k3
      have := k3.1
      rcases hm1 with ⟨h, _⟩ | ⟨h | h, _⟩ <;> omega
    · rw [h3] at k3
      simp only [Prod.mk.injEq] at k3
      refine .inr ⟨?_, by omega, k3.2.symm⟩
      rcases hm1 with ⟨h, _⟩ | ⟨h | h, _⟩ <;> omega
  · rintro ⟨j, hj, ⟨a, h1, h2, h3⟩ | ⟨h1, h2, h3⟩⟩
    · exact ⟨((a : Int), numI (T k) a), (mem_plc _ _).2 (.inl ⟨a, h1, by omega, rfl⟩), List.mem_flatMap.2 ⟨j, List.mem_range.2 hj, (mem_plc _ _).2 (.inl ⟨a, h1, by omega, by rw [h3]⟩)⟩⟩
    · exact ⟨(5 + (T k).mx, (T k).sb), (mem_plc _ _).2 (.inr ⟨by omega, rfl⟩), List.mem_flatMap.2 ⟨j, List.mem_range.2 hj, (mem_plc _ _).2 (.inr ⟨by omega, by rw [h2, h3]⟩)⟩⟩
theorem fault_row (T : Nat → SR) (k : Nat) (ha : ∀ j, j < k → rowF T j = 0) : faultF (T k) (aheadF T k) (setF T k) = rowF T k := by
  classical
  by_cases h1 : NmP (T k).nm
  · have hr : leB (T k).nm.toList (aheadF T k).toList = false ↔ RiseP T k := by
      rw [le_not]
      cases k with
      | zero =>
        refine ⟨fun _ h => by omega, fun _ => ?_⟩
        show (!(Op.bytesLess (⟨#[]⟩ : ByteArray).toList (T 0).nm.toList)) = false
        have hne : (T 0).nm.toList ≠ [] := fun e => h1.1 (by rw [ByteArray.toList_eq] at e; have := congrArg List.length e; simpa using this)
        rw [ByteArray.toList_eq]
        cases h : (T 0).nm.toList with
        | nil => exact absurd h hne
        | cons a l => rfl
      | succ k =>
        show (!(Op.bytesLess (T k).nm.toList (T (k + 1)).nm.toList)) = false ↔ _
        unfold RiseP
        rw [Nat.add_sub_cancel]
        constructor
        · intro h _; simpa using h
        · intro h; simpa using h (by omega)
    by_cases h2 : RiseP T k
    · by_cases h3 : RngP (T k) ∧ MxP (T k)
      · by_cases h4 : (T k).n2 = 102 ∨ (T k).n2 = 117
        · rw [row17 h1 h2 h3.1 h3.2 h4, faultF, if_pos h1, if_pos (hr.2 h2), if_pos (show InR (T k) from h3), if_pos h4]
        · have hse := some_iff T k h3 fun j hj => ⟨(row_ok (ha j hj)).2.2.1, (row_ok (ha j hj)).2.2.2.1⟩
          by_cases h5 : ∃ j, j < k ∧ ClP (T j) (T k)
          · rw [row15b h1 h2 h3.1 h3.2 h4 h5, faultF, if_pos h1, if_pos (hr.2 h2), if_pos (show InR (T k) from h3), if_neg h4, if_pos (hse.2 h5)]
          · rw [row0 h1 h2 h3.1 h3.2 h4 h5, faultF, if_pos h1, if_pos (hr.2 h2), if_pos (show InR (T k) from h3), if_neg h4, if_neg fun h => h5 (hse.1 h)]
      · rw [row16 h1 h2 h3, faultF, if_pos h1, if_pos (hr.2 h2), if_neg (show ¬ InR (T k) from h3)]
    · rw [row15a h1 h2, faultF, if_pos h1, if_neg fun h => h2 (hr.1 h)]
  · rw [row13 h1, faultF, if_neg h1]
set_option maxRecDepth 100000 in
set_option maxHeartbeats 8000000 in
theorem Right_any (A : Option Addr) (n cap : Nat) (T : Nat → SR) (w : World) (ht : TbA w A n T) :
    Calls Tryz.prog 27 #[.slice A n cap] w fun e w' => ∃ p q : Nat, RightP T n p q ∧ e = .returned (.tuple #[.int .i64 p, .int .i64 q]) ∧ Below w.heap.size w w' := by
  by_cases h4 : n > 400
  · have g0 : (n : Int) > 400 := by omega
    have g1 : decide ((n : Int) > 400) = true := decide_eq_true g0
    have HE : Hid (RightP T n 0 3) := Lib.hid (.inl ⟨h4, rfl, rfl⟩)
    clear ht h4
    go_enter Tryz.func27, Tryz.ntmps27
    go_wp2
    go_ret2
    exact ⟨0, 3, HE.out, rfl, Below.refl _ _⟩
  have g0 : ¬ (n : Int) > 400 := by omega
  have g1 : decide ((n : Int) > 400) = false := decide_eq_false g0
  have hbm : Below w.heap.size w (w.alloc (.map #[] 0)) := (Below.refl _ _).alloc (Nat.le_refl _) _
  have HSM : Hid (IsSet (w.alloc (.map #[] 0)) w.heap.size (setF T 0)) := Lib.hid ⟨#[], 0, (MapKept.heap_alloc w _).1, rfl⟩
  have HBM := Lib.hid hbm
  have HT := Lib.hid (ht.below hbm (Nat.le_refl _))
  have HT0 := Lib.hid ht
  have HL : Hid (n ≤ 400) := Lib.hid (by omega)
  clear ht h4 hbm
  have hmm := @run_makeMap Tryz.prog
  go_enter Tryz.func27, Tryz.ntmps27
  go_wp2_with fail
  go_loopw [4, 15] (fun v i wr => ∃ k : Nat, k ≤ n ∧ i = .int .i64 k ∧ v = .string (aheadF T k) ∧ (∀ j, j < k → rowF T j = 0) ∧ IsSet wr w.heap.size (setF T k) ∧ TbA wr A n T ∧ Below w.heap.size w wr)
    (fun _ i _ => n - (intOf i).toNat)
  case atStart => exact ⟨0, by omega, rfl, rfl, fun i h => by omega, HSM.out, HT.out, HBM.out⟩
  case round =>
    clear HT HBM HSM
    obtain ⟨k, hk, rfl, rfl, hno, hs, ht, hB⟩ := hrel
    have HNO := Lib.hid hno
    have HB := Lib.hid hB
    have HS := Lib.hid hs
    have HT := Lib.hid ht
    clear hno hB hs ht
    by_cases hlt : k < n
    · obtain ⟨b, o, rfl, hTb⟩ := HT.out.at_ hlt
      obtain ⟨q0, q1, q2, q3, q4, q5, q6, q7⟩ := hTb.2 k hlt
      obtain ⟨r, hr⟩ : ∃ r, T k = r := ⟨_, rfl⟩
      rw [hr] at q0 q1 q2 q3 q4 q5 q6 q7
      obtain ⟨U, hU⟩ : ∃ U, wr.alloc (.cells #[.string r.nm, .int .i64 r.n0, .int .i64 r.n1, .int .i64 r.n2, .int .i64 r.n3, .int .i64 r.n4, .int .i64 r.mx, .int .i64 r.sb] 73) = U := ⟨_, rfl⟩
      have ru : RowC U wr.heap.size (srow r) 73 := by rw [← hU]; exact RowC.new _ _ _ _ rfl
      have hbU : Below wr.heap.size wr U := by rw [← hU]; exact (Below.refl _ _).alloc (Nat.le_refl _) _
      have hsU : IsSet U w.heap.size (setF T k) := HS.out.of_block (hbU.block _ HS.out.lt)
      have hfr := fault_row T k HNO.out
      rw [hr] at hfr
      have hfa := fault_any r (aheadF T k) w.heap.size (setF T k) U hsU
      rw [hfr] at hfa
      obtain ⟨q, hq⟩ : ∃ q, rowF T k = q := ⟨_, rfl⟩
      rw [hq] at hfa
      have HFA := Lib.hid hfa
      have HQ := Lib.hid hq
      have HR := Lib.hid hr
      have HU := Lib.hid hU
      have HRU := Lib.hid ru
      have HTU := Lib.hid (HT.out.below hbU (Nat.le_refl _))
      have HBU := Lib.hid (HB.out.trans (hbU.mono HB.out.size))
      have HZU : Hid (wr.heap.size < U.heap.size ∧ w.heap.size < wr.heap.size) := Lib.hid ⟨ru.lt, HS.out.lt⟩
      have i1 : (0 : Int) ≤ (k : Int) := by omega
      have i2 : (k : Int) < (n : Int) := by omega
      clear hTb hr hU ru hbU hsU hfr hfa hq HT HB HS
      obtain ⟨ahd, hah⟩ : ∃ x, aheadF T k = x := ⟨_, rfl⟩
      rw [hah] at HFA ⊢
      clear hah
      go_upto_region 7 with fail
      rw [HU.out]
      have d0 := HRU.out.cell 0 (.string r.nm) rfl
      have d1 := HRU.out.cell 1 (.int .i64 r.n0) rfl
      have d2 := HRU.out.cell 2 (.int .i64 r.n1) rfl
      have d3 := HRU.out.cell 3 (.int .i64 r.n2) rfl
      have d4 := HRU.out.cell 4 (.int .i64 r.n3) rfl
      have d5 := HRU.out.cell 5 (.int .i64 r.n4) rfl
      have d6 := HRU.out.cell 6 (.int .i64 r.mx) rfl
      have d7 := HRU.out.cell 7 (.int .i64 r.sb) rfl
      go_wp2_with fail
      refine HFA.out.mono ?_
      rintro e w5 ⟨rfl, hs5, hB5⟩
      have HB5 := Lib.hid (HBU.out.trans (hB5.below (by have := HZU.out; omega)))
      have HRU5 : Hid (RowC w5 wr.heap.size (srow r) 73) := Lib.hid ((hB5.block wr.heap.size HZU.out.1 (fun e => by have h1 := Option.some.inj e; have h2 := HZU.out; omega)).trans HRU.out)
      clear d0 d1 d2 d3 d4 d5 d6 d7
      by_cases h0 : q = 0
      · have HS5 : Hid (IsSet w5 w.heap.size (setF T (k + 1))) := Lib.hid (by rw [setF_succ, HR.out]; exact hs5 h0)
        have HZ : Hid (∀ j, j < k + 1 → rowF T j = 0) := Lib.hid fun j hj => by
          by_cases e : j = k
          · subst e; rw [HQ.out, h0]
          · exact HNO.out j (by omega)
        have HT5 : Hid (TbA w5 (some ⟨b, o, none⟩) n T) := Lib.hid (HT0.out.below HB5.out (Nat.le_refl _))
        have HAH : Hid (aheadF T (k + 1) = r.nm) := Lib.hid (by show (T k).nm = r.nm; rw [HR.out])
        have d0 := HRU5.out.cell 0 (.string r.nm) rfl
        subst h0
        clear hs5 hB5
        go_wp2
        exact ⟨⟨k + 1, by omega, by go_num, by rw [HAH.out] <;> rfl, HZ.out, HS5.out, HT5.out, HB5.out⟩, by simp [intOf]; omega⟩
      · have f1 : ((q : Int) != 0) = true := by simp [h0]
        have f2 : (q != 0) = true := by simp [h0]
        have HE : Hid (RightP T n k q) := Lib.hid (.inr (.inl ⟨HL.out, hlt, HNO.out, by rw [HQ.out]; exact h0, HQ.out.symm⟩))
        clear h0 hs5 hB5
        go_wp2
        go_ret2
        exact ⟨k, q, HE.out, rfl, HB5.out⟩
    · obtain rfl : k = n := by omega
      have i2 : ¬ (k : Int) < (k : Int) := by omega
      have HE : Hid (RightP T k 0 0) := Lib.hid (.inr (.inr ⟨HL.out, HNO.out, rfl, rfl⟩))
      go_wp2
      go_ret2
      exact ⟨0, 0, HE.out, rfl, HB.out⟩
end Go.Proofs.YtccklmleaffgiaaGreatDoor
