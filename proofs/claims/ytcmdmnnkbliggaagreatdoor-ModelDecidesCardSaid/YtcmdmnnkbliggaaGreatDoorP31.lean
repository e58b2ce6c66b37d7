/-
  Layer 15: the document's own words: in (a condition among others), alike (two rows of the same ones).
-/
import Derived.Test.YtcmdmnnkbliggaaGreatDoorP8
import Derived.RegionTactic
import Derived.Deep.RegionWith
import Derived.Deep.RegionHeld3
import Derived.Test.YtcmdmnnkbliggaaGreatDoorRkp
import Derived.Laws.BitsAllLaws
import Derived.Test.YtcmdmnnkbliggaaGreatDoorP9
import Derived.BigQuiet
import Derived.Deep.LoopGhost
namespace Go.Proofs.YtcmdmnnkbliggaaGreatDoor
open Go.RowKit Go.Shelf
set_option linter.unusedVariables false

/-- Are two rows of conditions the same ones? -/
def alkF (l m : List CD) : Bool := l.all (fun x => decide (x ∈ m)) && m.all (fun x => decide (x ∈ l))
end Go.Proofs.YtcmdmnnkbliggaaGreatDoor

/-
  Layer 15: the document's Right of a condition; a value beside its mask in two ways (out of layer 16, without the document's Cond).
-/
namespace Go.Proofs.YtcmdmnnkbliggaaGreatDoor
open Go.RowKit Go.Shelf
set_option linter.unusedVariables false

def rightB (a o : Int) (m : Nat) : Bool := decide (a ≥ 0) && decide (a ≤ 5) && decide (o ≥ 1) && decide (o ≤ 7) && (((m : Int) == 0) || (o == 7))
set_option maxRecDepth 100000 in
set_option maxHeartbeats 8000000 in
theorem refCondR_any (a o : Int) (m v : Nat) (w : World) : Calls Tryz.prog 62 #[.agg (condA a o m v)] w fun e w' => e = .returned (.bool (rightB a o m)) ∧ Below w.heap.size w w' := by
  have HB := Lib.hid (show Below w.heap.size w (w.alloc (.cells (condA a o m v) 109)) from (Below.refl _ _).alloc (Nat.le_refl _) _)
  unfold rightB
  obtain ⟨b0, q0⟩ : ∃ b, decide (a ≥ 0) = b := ⟨_, rfl⟩
  obtain ⟨b1, q1⟩ : ∃ b, decide (a ≤ 5) = b := ⟨_, rfl⟩
  obtain ⟨b2, q2⟩ : ∃ b, decide (o ≥ 1) = b := ⟨_, rfl⟩
  obtain ⟨b3, q3⟩ : ∃ b, decide (o ≤ 7) = b := ⟨_, rfl⟩
  obtain ⟨b4, q4⟩ : ∃ b, ((m : Int) == 0) = b := ⟨_, rfl⟩
  obtain ⟨b5, q5⟩ : ∃ b, (o == 7) = b := ⟨_, rfl⟩
  rw [q0, q1, q2, q3, q4, q5]
  cases b0
  · go_enter Tryz.func62, Tryz.ntmps62
    go_wp2
    go_ret
    exact ⟨rfl, HB.out⟩
  cases b1
  · go_enter Tryz.func62, Tryz.ntmps62
    go_wp2
    go_ret
    exact ⟨rfl, HB.out⟩
  cases b2
  · go_enter Tryz.func62, Tryz.ntmps62
    go_wp2
    go_ret
    exact ⟨rfl, HB.out⟩
  cases b3
  · go_enter Tryz.func62, Tryz.ntmps62
    go_wp2
    go_ret
    exact ⟨rfl, HB.out⟩
  cases b4
  · cases b5
    · go_enter Tryz.func62, Tryz.ntmps62
      go_wp2
      go_ret
      exact ⟨rfl, HB.out⟩
    · go_enter Tryz.func62, Tryz.ntmps62
      go_wp2
      go_ret
      exact ⟨rfl, HB.out⟩
  · go_enter Tryz.func62, Tryz.ntmps62
    go_wp2
    go_ret
    exact ⟨by cases b5 <;> rfl, HB.out⟩
theorem rightB_ok {a o : Int} {m j : Nat} (hr : RightO a o m j) : rightB a o m = true := by
  obtain ⟨h1, h2, h3, rfl, h5⟩ := hr
  have h : m = 0 ∨ j = 6 := by
    rcases Bool.or_eq_true _ _ ▸ h5 with h | h
    · exact .inr (by simpa [mkO] using h)
    · exact .inl (by simpa using h)
  simp [rightB]
  omega
theorem rightB_no {a o : Int} {m : Nat} (hno : a < 0 ∨ 6 ≤ a ∨ ∀ j, j < 7 → isO o m j = false) : rightB a o m = false := by
  cases h : rightB a o m
  · rfl
  · exfalso
    simp [rightB] at h
    obtain ⟨⟨⟨⟨h0, h1⟩, h2⟩, h3⟩, h4⟩ := h
    rcases hno with hn | hn | hn
    · omega
    · omega
    · obtain ⟨j, rfl⟩ : ∃ j : Nat, o = (j : Int) + 1 := ⟨(o - 1).toNat, by omega⟩
      have := hn j (by omega)
      simp [isO, mkO] at this
      omega
end Go.Proofs.YtcmdmnnkbliggaaGreatDoor

/-
  The document's own Right of an action, of a name, of a policy (layers 9, 11, 14), as the program's.
-/
namespace Go.Proofs.YtcmdmnnkbliggaaGreatDoor
open Go.RowKit Go.Shelf
set_option linter.unusedVariables false

set_option maxRecDepth 100000 in
set_option maxHeartbeats 4000000 in
theorem most_at (j : Nat) (w : World) : Calls Tryz.prog 60 #[.int .i64 ((j : Int) + 1)] w fun e w' => e = .returned (.int .i64 (mostA j)) ∧ w = w' := by
  by_cases h3 : j = 3
  · subst h3
    show Calls Tryz.prog 60 #[.int .i64 4] w fun e w' => e = .returned (.int .i64 4095) ∧ w = w'
    go_enter Tryz.func60, Tryz.ntmps60
    go_wp2
    go_ret
    exact ⟨rfl, rfl⟩
  by_cases h5 : j = 5
  · subst h5
    show Calls Tryz.prog 60 #[.int .i64 6] w fun e w' => e = .returned (.int .i64 65535) ∧ w = w'
    go_enter Tryz.func60, Tryz.ntmps60
    go_wp2
    go_ret
    exact ⟨rfl, rfl⟩
  have e : mostA j = 0 := by unfold mostA; rw [if_neg h3, if_neg h5]
  rw [e]
  have a3 : ((j : Int) + 1 == 4) = false := by simp; omega
  have a5 : ((j : Int) + 1 == 6) = false := by simp; omega
  have b3 : ¬ (j : Int) + 1 = 4 := by omega
  have b5 : ¬ (j : Int) + 1 = 6 := by omega
  generalize (j : Int) + 1 = k at *
  clear e h3 h5
  go_enter Tryz.func60, Tryz.ntmps60
  go_wp2
  go_ret
  exact ⟨rfl, rfl⟩
set_option maxRecDepth 100000 in
set_option maxHeartbeats 4000000 in
theorem right9_ok (j : Nat) (hj : j < 8) (n : Int) (hm : mayA j n = true) (w : World) : Calls Tryz.prog 28 #[.agg #[.int .i64 ((j : Int) + 1), .int .i64 n]] w fun e w' => e = .returned (.bool true) ∧ Below w.heap.size w w' := by
  have hr : RowC (w.alloc (.cells #[.int .i64 ((j : Int) + 1), .int .i64 n] 36)) w.heap.size #[.int .i64 ((j : Int) + 1), .int .i64 n] 36 := RowC.new _ _ _ _ rfl
  have hb : Below w.heap.size w (w.alloc (.cells #[.int .i64 ((j : Int) + 1), .int .i64 n] 36)) := (Below.refl _ _).alloc (Nat.le_refl _) _
  unfold mayA at hm
  simp only [Bool.and_eq_true, decide_eq_true_eq] at hm
  have g1 : decide ((1 : Int) ≤ (j : Int) + 1) = true := decide_eq_true (by omega)
  have g2 : decide ((j : Int) + 1 ≤ 8) = true := decide_eq_true (by omega)
  have g3 : decide ((0 : Int) ≤ n) = true := decide_eq_true (by omega)
  have g4 : decide (n ≤ mostA j) = true := decide_eq_true (by omega)
  have g1' : (1 : Int) ≤ (j : Int) + 1 := by omega
  have g2' : (j : Int) + 1 ≤ 8 := by omega
  have g3' : (0 : Int) ≤ n := by omega
  have g4' : n ≤ mostA j := by omega
  have HC := Lib.hid fun W => most_at j W
  have HB := Lib.hid hb
  clear hj hb hm
  go_enter Tryz.func28, Tryz.ntmps28
  go_wp2_with fail
  generalize w.alloc (.cells #[.int .i64 ((j : Int) + 1), .int .i64 n] 36) = W1 at *
  have hS : Hid (W1.drew.cell? ⟨w.heap.size, 0, none⟩ = some (.int .i64 ((j : Int) + 1)) ∧ W1.drew.cell? ⟨w.heap.size, 1, none⟩ = some (.int .i64 n)) := Lib.hid ⟨hr.cell 0 _ rfl, hr.cell 1 _ rfl⟩
  generalize (j : Int) + 1 = P1 at *
  generalize mostA j = M at *
  clear hr
  go_region_held3 (fun w' => w'.cell? ⟨w.heap.size, 0, none⟩ = some (.int .i64 P1) ∧ w'.cell? ⟨w.heap.size, 1, none⟩ = some (.int .i64 n))
    (first | exact hS.out | assumption | go_keep)
    (first
      | (go_at_call 60
         (with_reducible refine (HC.out _).mono ?_)
         rintro e w2 ⟨rfl, rfl⟩))
  all_goals go_wp2
  all_goals go_ret
  all_goals exact ⟨rfl, HB.out.drew⟩
set_option maxRecDepth 100000 in
set_option maxHeartbeats 4000000 in
theorem right9_no (kd n : Int) (hno : ∀ j : Nat, j < 8 → kd = (j : Int) + 1 → mayA j n = false) (w : World) : Calls Tryz.prog 28 #[.agg #[.int .i64 kd, .int .i64 n]] w fun e w' => e = .returned (.bool false) ∧ Below w.heap.size w w' := by
  have hr : RowC (w.alloc (.cells #[.int .i64 kd, .int .i64 n] 36)) w.heap.size #[.int .i64 kd, .int .i64 n] 36 := RowC.new _ _ _ _ rfl
  have hb : Below w.heap.size w (w.alloc (.cells #[.int .i64 kd, .int .i64 n] 36)) := (Below.refl _ _).alloc (Nat.le_refl _) _
  have HB := Lib.hid hb
  have HNO := Lib.hid hno
  clear hb hno
  go_enter Tryz.func28, Tryz.ntmps28
  go_wp2_with fail
  generalize w.alloc (.cells #[.int .i64 kd, .int .i64 n] 36) = W1 at *
  have hS : Hid (W1.drew.cell? ⟨w.heap.size, 0, none⟩ = some (.int .i64 kd) ∧ W1.drew.cell? ⟨w.heap.size, 1, none⟩ = some (.int .i64 n)) := Lib.hid ⟨hr.cell 0 _ rfl, hr.cell 1 _ rfl⟩
  clear hr
  by_cases c1 : 1 ≤ kd
  · have g1 : decide ((1 : Int) ≤ kd) = true := decide_eq_true c1
    by_cases c2 : kd ≤ 8
    · have g2 : decide (kd ≤ 8) = true := decide_eq_true c2
      by_cases c3 : 0 ≤ n
      · have g3 : decide ((0 : Int) ≤ n) = true := decide_eq_true c3
        obtain ⟨j, hj⟩ : ∃ j : Nat, kd - 1 = j := Int.eq_ofNat_of_zero_le (by omega)
        have hk : kd = (j : Int) + 1 := by omega
        have hM := HNO.out j (by omega) hk
        unfold mayA at hM
        rw [decide_eq_true c3, Bool.true_and] at hM
        have c4 : ¬ n ≤ mostA j := by simpa using hM
        have HC := Lib.hid fun W => most_at j W
        rw [← hk] at HC
        generalize mostA j = M at *
        clear hk hj HNO
        go_region_held3 (fun w' => w'.cell? ⟨w.heap.size, 0, none⟩ = some (.int .i64 kd) ∧ w'.cell? ⟨w.heap.size, 1, none⟩ = some (.int .i64 n))
          (first | exact hS.out | assumption | go_keep)
          (first
            | (go_at_call 60
               (with_reducible refine (HC.out _).mono ?_)
               rintro e w2 ⟨rfl, rfl⟩))
        all_goals go_wp2
        all_goals go_ret
        all_goals exact ⟨rfl, HB.out.drew⟩
      · have g3 : decide ((0 : Int) ≤ n) = false := decide_eq_false c3
        have x0 : W1.cell? ⟨w.heap.size, 0, none⟩ = some (.int .i64 kd) := hS.out.1
        have x1 : W1.cell? ⟨w.heap.size, 1, none⟩ = some (.int .i64 n) := hS.out.2
        go_quiet (fail)
        all_goals go_wp2
        all_goals go_ret
        all_goals exact ⟨rfl, bdn HB.out _⟩
    · have g2 : decide (kd ≤ 8) = false := decide_eq_false c2
      have x0 : W1.cell? ⟨w.heap.size, 0, none⟩ = some (.int .i64 kd) := hS.out.1
      have x1 : W1.cell? ⟨w.heap.size, 1, none⟩ = some (.int .i64 n) := hS.out.2
      go_quiet (fail)
      all_goals go_wp2
      all_goals go_ret
      all_goals exact ⟨rfl, bdn HB.out _⟩
  · have g1 : decide ((1 : Int) ≤ kd) = false := decide_eq_false c1
    have x0 : W1.cell? ⟨w.heap.size, 0, none⟩ = some (.int .i64 kd) := hS.out.1
    have x1 : W1.cell? ⟨w.heap.size, 1, none⟩ = some (.int .i64 n) := hS.out.2
    go_quiet (fail)
    all_goals go_wp2
    all_goals go_ret
    all_goals exact ⟨rfl, bdn HB.out _⟩

theorem right9_any (k u : Int) (w : World) : Calls Tryz.prog 28 #[.agg #[.int .i64 k, .int .i64 u]] w fun e w' => e = .returned (.bool (actB k u)) ∧ Below w.heap.size w w' := by
  rcases ha : actB k u with _ | _
  · exact right9_no k u (actB_no ha) w
  · obtain ⟨j, hj, rfl, hm⟩ := actB_ok ha
    exact right9_ok j hj u hm w
theorem nameB_eq (nm : ByteArray) : (NmP nm ∧ nameB nm = true) ∨ (¬ NmP nm ∧ nameB nm = false) := by
  by_cases h : NmP nm
  · refine .inl ⟨h, decide_eq_true ?_⟩
    have hrng : RngP ((fun _ : Nat => nmRow nm) 0) := fun a ha => by
      match a, ha with
      | 0, _ => exact ⟨by show (-1 : Int) ≤ 0; decide, by show (0 : Int) ≤ 1073741823; decide⟩
      | 1, _ => exact ⟨by show (-1 : Int) ≤ 0; decide, by show (0 : Int) ≤ 1073741823; decide⟩
      | 2, _ => exact ⟨by show (-1 : Int) ≤ 0; decide, by show (0 : Int) ≤ 1073741823; decide⟩
      | 3, _ => exact ⟨by show (-1 : Int) ≤ 0; decide, by show (0 : Int) ≤ 1073741823; decide⟩
      | 4, _ => exact ⟨by show (-1 : Int) ≤ 0; decide, by show (0 : Int) ≤ 1073741823; decide⟩
    unfold rowF
    rw [if_pos (show NmP ((fun _ : Nat => nmRow nm) 0).nm from h), if_pos (show RiseP (fun _ : Nat => nmRow nm) 0 from fun h0 => absurd h0 (Nat.lt_irrefl 0)), if_pos ⟨hrng, .inl ⟨rfl, rfl⟩⟩, if_neg (by simp), if_neg (fun ⟨k, hk, _⟩ => absurd hk (Nat.not_lt_zero _))]
  · refine .inr ⟨h, decide_eq_false ?_⟩
    rw [row13 (T := fun _ : Nat => nmRow nm) (i := 0) h]
    decide
set_option maxRecDepth 100000 in
set_option maxHeartbeats 4000000 in
theorem name14_any (nm : ByteArray) (w : World) : Calls Tryz.prog 61 #[.string nm] w fun e w' => e = .returned (.bool (nameB nm)) ∧ Below w.heap.size w w' := by
  have HR := Lib.hid (refName_any nm w)
  have HE := Lib.hid (nameB_eq nm)
  obtain ⟨nb, hnb⟩ : ∃ nb, nameB nm = nb := ⟨_, rfl⟩
  rw [hnb] at HE ⊢
  clear hnb
  go_enter Tryz.func61, Tryz.ntmps61
  go_wp2_with fail
  refine HR.out.mono ?_
  rintro e w2 ⟨h, rfl⟩
  have hd : e = .returned (.bool nb) := by
    rcases h with ⟨h1, rfl⟩ | ⟨h1, rfl⟩
    · rcases HE.out with ⟨_, rfl⟩ | ⟨h2, _⟩
      · rfl
      · exact absurd h1 h2
    · rcases HE.out with ⟨h2, _⟩ | ⟨_, rfl⟩
      · exact absurd h2 h1
      · rfl
  subst hd
  go_wp2
  go_ret
  exact ⟨rfl, Below.refl _ _⟩
theorem refRight_dec (c : CD) (w : World) : Calls Tryz.prog 62 #[.agg (condA c.a c.o c.m c.v)] w fun e w' => e = .returned (.bool (decide (RiC c))) ∧ Below w.heap.size w w' := by
  by_cases h : RiC c
  · obtain ⟨j, hj⟩ := h.right
    rw [decide_eq_true h, ← rightB_ok hj]
    exact refCondR_any c.a c.o c.m c.v w
  · rw [decide_eq_false h, ← rightB_no (ric_not h)]
    exact refCondR_any c.a c.o c.m c.v w
end Go.Proofs.YtcmdmnnkbliggaaGreatDoor

/-
  Layer 14: the document's Right of a policy is the program's.
-/
namespace Go.Proofs.YtcmdmnnkbliggaaGreatDoor
open Go.RowKit Go.Shelf
set_option linter.unusedVariables false

theorem allR_snoc (R : Nat → RL) (q : Nat) : ((List.range (q + 1)).map fun i => (R i).val).all mayV = (((List.range q).map fun i => (R i).val).all mayV && mayV (R q).val) := by
  rw [List.range_succ, List.map_append, List.all_append]
  simp
theorem allR_no (R : Nat → RL) (q n : Nat) (hq : q < n) (h : mayV (R q).val = false) : ((List.range n).map fun i => (R i).val).all mayV = false := by
  rw [List.all_eq_false]
  exact ⟨(R q).val, List.mem_map.2 ⟨q, List.mem_range.2 hq, rfl⟩, by rw [h]; simp⟩
theorem mayV_val (r : RL) : mayV r.val = (nameB r.nm && (actB r.k r.u && (decide (r.n ≤ 6) && ((List.range r.n).map r.C).all fun c => decide (RiC c)))) := by
  unfold mayV RL.val; simp only [List.length_map, List.length_range]
set_option maxRecDepth 100000 in
set_option maxHeartbeats 16000000 in
theorem refPolRight_any (k u : Int) (x : Bool) (A : Option Addr) (n c : Nat) (R : Nat → RL) (w : World) (hn : n ≤ 500) (hR : RlA w A n R) :
    Calls Tryz.prog 30 #[.agg (polA k u x A n c)] w fun e w' => e = .returned (.bool (rightV k u ((List.range n).map fun i => (R i).val))) ∧ Below w.heap.size w w' := by
  obtain ⟨W0, hW0⟩ : ∃ W, w.alloc (.cells (polA k u x A n c) 39) = W := ⟨_, rfl⟩
  have hB0 : Below w.heap.size w W0 := by rw [← hW0]; exact (Below.refl _ _).alloc (Nat.le_refl _) _
  have hP0 : RowC W0 w.heap.size (polA k u x A n c) 39 := by rw [← hW0]; exact RowC.new _ _ _ _ rfl
  have hs0 : W0.heap.size = w.heap.size + 1 := by rw [← hW0]; simp
  have HV : Hid (rightV k u ((List.range n).map fun i => (R i).val) = (actB k u && ((List.range n).map fun i => (R i).val).all mayV)) := Lib.hid (by unfold rightV; rw [List.length_map, List.length_range, decide_eq_true hn]; simp)
  obtain ⟨rv, hrv⟩ : ∃ rv, rightV k u ((List.range n).map fun i => (R i).val) = rv := ⟨_, rfl⟩
  rw [hrv] at HV ⊢
  have HR := Lib.hid (hR.below hB0 (Nat.le_refl _))
  have HP0 := Lib.hid hP0
  have HB0 := Lib.hid hB0
  have HW := Lib.hid hW0
  have HS := Lib.hid hs0
  have p0 := hP0.cell 0 (.int .i64 k) rfl
  have p1 := hP0.cell 1 (.int .i64 u) rfl
  have HA := Lib.hid (right9_any k u W0)
  clear hW0 hB0 hP0 hrv hR hs0
  rcases ha : actB k u with _ | _
  · rw [ha] at HV HA
    go_enter Tryz.func30, Tryz.ntmps30
    go_upto_region 1 with fail
    rw [HW.out]
    go_wp2_with fail
    refine HA.out.mono ?_
    rintro e w1 ⟨rfl, hB1⟩
    go_wp2
    go_ret
    exact ⟨by rw [HV.out]; rfl, HB0.out.trans (hB1.mono HB0.out.size)⟩
  · rw [ha] at HV HA
    have g6 : ¬ (n : Int) > 500 := by omega
    have g7 : ¬ 500 < n := by omega
    go_enter Tryz.func30, Tryz.ntmps30
    go_upto_region 1 with fail
    rw [HW.out]
    go_wp2_with fail
    refine HA.out.mono ?_
    rintro e w1 ⟨rfl, hB1⟩
    have hP1 := HP0.out.below hB1 HP0.out.lt
    have a3 := hP1.cell 3 (.slice A n c) rfl
    have HB1 := Lib.hid hB1
    have HP1 := Lib.hid hP1
    clear hP1 hB1 p0 p1
    go_wp2
    go_loopw [3] (fun i wr => ∃ q : Nat, q ≤ n ∧ i = .int .i64 q ∧ Hid (Below W0.heap.size W0 wr ∧ ((List.range q).map fun i => (R i).val).all mayV = true)) (fun i _ => n - (intOf i).toNat)
    case atStart => exact ⟨0, Nat.zero_le _, rfl, Lib.hid ⟨HB1.out, rfl⟩⟩
    case round =>
      obtain ⟨q, hq, rfl, HI⟩ := hrel
      have hPr := HP0.out.below HI.out.1 HP0.out.lt
      have b3 := hPr.cell 3 (.slice A n c) rfl
      have HPr := Lib.hid hPr
      clear hPr a3
      by_cases hlt : q < n
      · have hLr := HR.out.below HI.out.1 (Nat.le_refl _)
        rcases hLr with h0 | ⟨bb, o, rfl, hbl, hcs⟩
        · omega
        obtain ⟨q0, q1, q2, q3, _, _, _, _, _, hru⟩ := hcs q hlt
        have HSN := Lib.hid (allR_snoc R q)
        have HNO := Lib.hid (allR_no R q n hlt)
        obtain ⟨r, hr⟩ : ∃ r, R q = r := ⟨_, rfl⟩
        rw [hr] at q0 q1 q2 q3 hru HSN HNO
        rw [Nat.add_zero] at q0
        rw [mayV_val] at HSN HNO
        obtain ⟨nm, k1, u1, A1, n1, c1, C1⟩ := r
        simp only at q0 q1 q2 q3 hru HSN HNO
        have HC := Lib.hid hru
        have i1 : (0 : Int) ≤ (q : Int) := by omega
        have i2 : (q : Int) < (n : Int) := by omega
        obtain ⟨X, hX⟩ : ∃ X, wr.alloc (.cells (rulA nm k1 u1 A1 n1 c1) 108) = X := ⟨_, rfl⟩
        obtain ⟨bx, hbx⟩ : ∃ bx, wr.heap.size = bx := ⟨_, rfl⟩
        have HXP := Lib.hid (show RowC X bx (rulA nm k1 u1 A1 n1 c1) 108 by rw [← hX, ← hbx]; exact RowC.new _ _ _ _ rfl)
        have HXB := Lib.hid (show Below bx wr X by rw [← hX, ← hbx]; exact (Below.refl _ _).alloc (Nat.le_refl _) _)
        have HXW := Lib.hid hX
        have HBX := Lib.hid hbx
        have HNM := Lib.hid (name14_any nm X)
        have HQB := Lib.hid (HI.out.1.trans (HXB.out.mono (by have := HI.out.1.size; omega)))
        have x0 := HXP.out.cell 0 (.string nm) rfl
        clear hcs hr hru hbl hX hbx
        rcases hb : nameB nm with _ | _
        · rw [hb] at HNM HNO
          go_upto_region 7 with fail
          rw [HXW.out, HBX.out]
          go_wp2_with fail
          refine HNM.out.mono ?_
          rintro e w3 ⟨rfl, hB3⟩
          go_wp2
          go_ret
          exact ⟨by rw [HV.out, HNO.out rfl]; rfl, HB0.out.trans ((HQB.out.trans (hB3.mono HQB.out.size)).mono HB0.out.size)⟩
        · rw [hb] at HNM HNO HSN
          rcases ha1 : actB k1 u1 with _ | _
          · rw [ha1] at HNO
            go_upto_region 7 with fail
            rw [HXW.out, HBX.out]
            go_wp2_with fail
            refine HNM.out.mono ?_
            rintro e w3 ⟨rfl, hB3⟩
            have HX3 := Lib.hid (HXP.out.below hB3 HXP.out.lt)
            have y1 := HX3.out.cell 1 (.int .i64 k1) rfl
            have y2 := HX3.out.cell 2 (.int .i64 u1) rfl
            have HA1 := Lib.hid (right9_any k1 u1 w3)
            rw [ha1] at HA1
            have HQ3 := Lib.hid (HQB.out.trans (hB3.mono HQB.out.size))
            clear hB3
            go_wp2_with fail
            refine HA1.out.mono ?_
            rintro e w4 ⟨rfl, hB4⟩
            go_wp2
            go_ret
            exact ⟨by rw [HV.out, HNO.out rfl]; rfl, HB0.out.trans ((HQ3.out.trans (hB4.mono HQ3.out.size)).mono HB0.out.size)⟩
          · rw [ha1] at HNO HSN
            go_upto_region 7 with fail
            rw [HXW.out, HBX.out]
            go_wp2_with fail
            refine HNM.out.mono ?_
            rintro e w3 ⟨rfl, hB3⟩
            have HX3 := Lib.hid (HXP.out.below hB3 HXP.out.lt)
            have y1 := HX3.out.cell 1 (.int .i64 k1) rfl
            have y2 := HX3.out.cell 2 (.int .i64 u1) rfl
            have HA1 := Lib.hid (right9_any k1 u1 w3)
            rw [ha1] at HA1
            have HQ3 := Lib.hid (HQB.out.trans (hB3.mono HQB.out.size))
            have HX3B := Lib.hid hB3
            clear hB3
            go_wp2_with fail
            refine HA1.out.mono ?_
            rintro e w4 ⟨rfl, hB4⟩
            have HX4 := Lib.hid (HX3.out.below hB4 HX3.out.lt)
            have y3 := HX4.out.cell 3 (.slice A1 n1 c1) rfl
            have HQ4 := Lib.hid (HQ3.out.trans (hB4.mono HQ3.out.size))
            have HC4 := Lib.hid (HC.out.below (HXB.out.trans ((HX3B.out.trans (hB4.mono HX3B.out.size)).mono (by have := HXB.out.size; rw [HBX.out] at this; exact this))) (by rw [HBX.out]; exact Nat.le_refl _))
            clear hB4 x0 y1 y2
            by_cases h6 : n1 ≤ 6
            · have h6' : ¬ (n1 : Int) > 6 := by omega
              have h6'' : ¬ 6 < n1 := by omega
              rw [decide_eq_true h6] at HSN HNO
              go_wp2
              go_loopw [5] (fun i2 wq => ∃ q2 : Nat, q2 ≤ n1 ∧ i2 = .int .i64 q2 ∧ Hid (Below W0.heap.size W0 wq ∧ RowC wq bx (rulA nm k1 u1 A1 n1 c1) 108 ∧ ConA wq A1 n1 C1 ∧ ((List.range q2).map C1).all (fun c => decide (RiC c)) = true)) (fun i2 _ => n1 - (intOf i2).toNat)
              case atStart => exact ⟨0, Nat.zero_le _, rfl, Lib.hid ⟨HQ4.out, HX4.out, HC4.out, rfl⟩⟩
              case round =>
                rename_i wr
                obtain ⟨q2, hq2, rfl, HJ⟩ := hrel
                have y3 := HJ.out.2.1.cell 3 (.slice A1 n1 c1) rfl
                by_cases hlt2 : q2 < n1
                · obtain ⟨x9, hx9⟩ : ∃ x9, C1 q2 = x9 := ⟨_, rfl⟩
                  obtain ⟨b9, o9, rfl, d0, d1, d2, d3⟩ := HJ.out.2.2.1.four hlt2 hx9
                  have HX9 := Lib.hid hx9
                  have HCR := Lib.hid fun X => refRight_dec x9 X
                  obtain ⟨cv, hcv⟩ : ∃ cv, decide (RiC x9) = cv := ⟨_, rfl⟩
                  rw [hcv] at HCR
                  have HCV := Lib.hid hcv
                  have j1 : (0 : Int) ≤ (q2 : Int) := by omega
                  have j2 : (q2 : Int) < (n1 : Int) := by omega
                  clear hx9 hcv
                  go_wp2_with fail
                  refine (HCR.out _).mono ?_
                  rintro e w5 ⟨rfl, hB5⟩
                  cases cv with
                  | true =>
                    go_wp2
                    exact ⟨⟨q2 + 1, by omega, by go_num, Lib.hid ⟨HJ.out.1.trans (hB5.mono HJ.out.1.size), HJ.out.2.1.below hB5 HJ.out.2.1.lt, HJ.out.2.2.1.below hB5 (Nat.le_refl _), by rw [List.range_succ, List.map_append, List.all_append, HJ.out.2.2.2]; simp [HX9.out, HCV.out]⟩⟩, by simp [intOf]; omega⟩
                  | false =>
                    go_wp2
                    go_ret
                    refine ⟨?_, HB0.out.trans ((HJ.out.1.trans (hB5.mono HJ.out.1.size)).mono HB0.out.size)⟩
                    have hf : ((List.range n1).map C1).all (fun c => decide (RiC c)) = false := by
                      rw [range_take C1 q2 n1 hlt2, List.all_append, List.all_append]
                      simp [HX9.out, HCV.out]
                    rw [HV.out, HNO.out (by rw [hf]; rfl)]
                    rfl
                · obtain rfl : q2 = n1 := by omega
                  go_wp2
                  exact ⟨⟨q + 1, by omega, by go_num, Lib.hid ⟨HJ.out.1, by rw [HSN.out, HI.out.2, HJ.out.2.2.2]; rfl⟩⟩, by simp [intOf]; omega⟩
            · have h6' : (n1 : Int) > 6 := by omega
              have h6'' : 6 < n1 := by omega
              rw [decide_eq_false h6] at HNO
              go_wp2
              go_ret
              exact ⟨by rw [HV.out, HNO.out rfl]; rfl, HB0.out.trans (HQ4.out.mono HB0.out.size)⟩
      · obtain rfl : q = n := by omega
        go_wp2
        go_ret
        exact ⟨by rw [HV.out, HI.out.2]; rfl, HB0.out.trans (HI.out.1.mono HB0.out.size)⟩
end Go.Proofs.YtcmdmnnkbliggaaGreatDoor
