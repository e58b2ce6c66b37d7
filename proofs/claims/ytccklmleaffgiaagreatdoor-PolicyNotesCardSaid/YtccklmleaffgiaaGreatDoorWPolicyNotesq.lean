/-
  The law PolicyNotes holds for every input: blanks, empty lines and notes change nothing of a policy's text. No condition.
-/
import Derived.Test.YtccklmleaffgiaaGreatDoorRows
import Derived.Test.YtccklmleaffgiaaGreatDoorCards
import Derived.Test.YtccklmleaffgiaaGreatDoorTie
import Derived.Test.YtccklmleaffgiaaGreatDoorJsq
import Derived.Test.YtccklmleaffgiaaGreatDoorQ29
import Derived.Lay
import Derived.MakeChecks
import Derived.WalkKit
import Derived.ProofKit
import Derived.OpenShut
import Derived.ShutString
import Derived.ChangeOld
import Derived.Below
import Derived.Lib.SmallJoins
import Derived.SevenTiedAt
import Derived.LaidMore
import Derived.Stop.Joined
import Derived.RegionTactic
import Derived.Deep.Cut
import Derived.Deep.CutRange
import Derived.Deep.RegionHeld3
namespace Go.Proofs.YtccklmleaffgiaaGreatDoor
open Go.RowKit Go.Shelf
set_option linter.unusedVariables false

theorem small_of {R : Nat → RL} {n : Nat} {l : List RL} (h : l.map RL.val = (List.range n).map (fun i => (R i).val)) (hR : ∀ i, i < n → (R i).n ≤ 12) : ∀ e ∈ l, e.n ≤ 100000 := fun e he => by
  have h1 : e.val ∈ (List.range n).map (fun i => (R i).val) := by rw [← h]; exact List.mem_map.2 ⟨e, he, rfl⟩
  obtain ⟨i, hi, hv⟩ := List.mem_map.1 h1
  have h2 := hR i (List.mem_range.1 hi)
  have h3 : e.val.L.length = e.n := by simp [RL.val]
  have h4 : (R i).val.L.length = (R i).n := by simp [RL.val]
  rw [hv] at h4
  omega
theorem small_ru {w : World} {r : RL} (h : RuT w r) : SmallV r.val := fun c hc => by
  obtain ⟨i, hi, rfl⟩ := List.mem_map.1 hc
  rw [List.mem_range] at hi
  rcases h.2.2.2.2.2.conA with h0 | ⟨b, o, _, _, hcs⟩
  · omega
  · exact (hcs i hi).2.2.2.2
/-- A right policy's own text is parsed as the policy. -/
theorem parse_own {k u : Int} {x : Bool} {L : List RV} (hr : rightV k u L = true) (hs : ∀ r ∈ L, SmallV r) (s : ByteArray) (hse : s = ⟨(joinF (polL k u x L)).toArray⟩) (hsz : s.size ≤ 65536) (w : World) (ht : TabP w) : Calls Tryz.prog 6 #[.string s] w (ParseP w k u x L) := by
  subst hse
  have hd : (⟨(joinF (polL k u x L)).toArray⟩ : ByteArray).data.toList = joinF (polL k u x L) := rfl
  refine parseP_ok _ hsz (polL k u x L) (by rw [hd, lines_pol x hr]) (by rw [hd, lines_pol x hr, numF_ws]) (List.cons_ne_nil _ _) k u x L (runs_lines x hr hs) w ht

theorem mem_take {M : List UInt8} {i : Nat} {b : UInt8} (h : ∀ c ∈ M.take i, c ≠ 10) (hb : M[i]? = some b) (h10 : b ≠ 10) : ∀ c ∈ M.take (i + 1), c ≠ 10 := by
  intro c hc
  rw [List.take_add_one, hb] at hc
  rcases List.mem_append.1 hc with hc | hc
  · exact h c hc
  · have : c = b := by simpa using hc
    rw [this]; exact h10
theorem size_len (s : ByteArray) : s.size = s.data.toList.length := Array.length_toList.symm
theorem cat2 (s m : ByteArray) : (s ++ m).data.toList = s.data.toList ++ m.data.toList := by simp
theorem nq_take (note l : List UInt8) (j : Nat) : (nq note (l.take j)).length ≤ (nq note l).length := by
  have h : nq note l = nq note (l.take j) ++ nq note (l.drop j) := by rw [← nq_app, List.take_append_drop]
  rw [h, List.length_append]
  omega
theorem may_all {k u : Int} {L : List RV} (h : rightV k u L = true) : ∀ r ∈ L, mayV r = true := by
  unfold rightV at h
  simp only [Bool.and_eq_true, decide_eq_true_eq, List.all_eq_true] at h
  exact h.2.2
/-- A right policy's noted text is parsed as the policy. -/
theorem parse_noted {k u : Int} {x : Bool} {L : List RV} (hr : rightV k u L = true) (hs : ∀ r ∈ L, SmallV r) (note : List UInt8) (hn : ∀ c ∈ note, c ≠ 10) (T : ByteArray) (hT : T.data.toList = ([35, 32] ++ note ++ [10, 10, 9]) ++ nq note (joinF (polL k u x L))) (hsz : T.size ≤ 65536) (w : World) (ht : TabP w) : Calls Tryz.prog 6 #[.string T] w (ParseP w k u x L) := by
  obtain ⟨h1, h2⟩ := lines_quo note hn (polL k u x L) (good_pol x (may_all hr))
  rw [← hT] at h1 h2
  exact parseP_ok T hsz (polL k u x L) h1 h2 (List.cons_ne_nil _ _) k u x L (runs_lines x hr hs) w ht
set_option maxRecDepth 100000 in
set_option maxHeartbeats 16000000 in
theorem walk_PolicyNotes {w0 : World} (k u : Int) (x : Bool) (A : Option Addr) (n c : Nat) (R : Nat → RL) (wk : (Lit.int .i64 k).wf = true) (wu : (Lit.int .i64 u).wf = true) (hnc : n ≤ c) (hcm : c ≤ maxLen) (hR : RlA w0 A n R) (m : ByteArray) (_wm : m.size ≤ maxLen) (ht : TabP w0) :
    Calls Tryz.prog 4 #[.agg (polA k u x A n c), .string m] w0 fun e w' => e = .returned (.bool true) ∧ Below w0.heap.size w0 w' := by
  obtain ⟨B, hBs⟩ : ∃ B, w0.heap.size = B := ⟨_, rfl⟩
  obtain ⟨W0, hW0⟩ : ∃ W, w0.alloc (.cells (polA k u x A n c) 39) = W := ⟨_, rfl⟩
  have hB0 : Below B w0 W0 := by rw [← hW0, ← hBs]; exact (Below.refl _ _).alloc (Nat.le_refl _) _
  have hP0 : RowC W0 B (polA k u x A n c) 39 := by rw [← hW0, ← hBs]; exact RowC.new _ _ _ _ rfl
  have hR0 := hR.below hB0 (Nat.le_of_eq hBs)
  have HL := Lib.hid (light14_any k u x A n c R W0 hnc hcm hR0)
  have HB0 := Lib.hid hB0
  have HP0 := Lib.hid hP0
  have HR0 := Lib.hid hR0
  have HT := Lib.hid ht
  have HW := Lib.hid hW0
  have HBS := Lib.hid hBs
  have p0 := hP0.cell 0 (.int .i64 k) rfl
  have p1 := hP0.cell 1 (.int .i64 u) rfl
  have p2 := hP0.cell 2 (.bool x) rfl
  have p3 := hP0.cell 3 (.slice A n c) rfl
  clear hB0 hP0 hR hR0 wk wu ht hW0
  have hmz : m.data.toList.length = m.size := Array.length_toList
  go_enter Tryz.func4, Tryz.ntmps4
  go_upto_region 1 with fail
  rw [HW.out]
  (try rw [hBs])
  clear hBs
  go_cut [20] from 13 to 20 (fun s wx => ∃ rb : Bool, s = .bool rb ∧ (rb = false → LightP n R ∧ m.size ≤ 30) ∧ Below W0.heap.size W0 wx)
  case first =>
    go_wp2_with fail
    refine HL.out.mono ?_
    rintro e w1 ⟨⟨bl, rfl, hlight⟩, hB1⟩
    have HB1 := Lib.hid hB1
    clear hB1 p0 p1 p2 p3 HP0 HR0 HB0 HL
    cases bl with
    | false =>
      go_wp2_with fail
      go_meet
      exact ⟨true, rfl, (fun h => by cases h), HB1.out⟩
    | true =>
      have HLP := Lib.hid (hlight rfl)
      clear hlight
      go_wp2_with fail
      go_meet
      exact ⟨_, rfl, (fun h => ⟨HLP.out, by have := of_decide_eq_false h; omega⟩), HB1.out⟩
  case rest =>
  obtain ⟨rb, rfl, hrb, hB1⟩ := hcut
  obtain ⟨w1, hw1⟩ : ∃ W, wc = W := ⟨_, rfl⟩
  rw [hw1] at hB1 ⊢
  clear hw1
  have HB1 := Lib.hid (show Below B w0 w1 from HB0.out.trans (hB1.mono (Nat.le_of_lt HP0.out.lt)))
  have HP1 := Lib.hid (HP0.out.below hB1 HP0.out.lt)
  have HR1 := Lib.hid (HR0.out.below hB1 (Nat.le_refl _))
  have HS1 := Lib.hid (show B ≤ w1.heap.size by have := HB1.out.size; rw [HBS.out] at this; exact this)
  clear hB1 p0 p1 p2 p3 HP0 HR0 HB0 HL
  cases rb with
  | true =>
    go_wp2
    go_ret
    exact ⟨rfl, by rw [HBS.out]; exact HB1.out⟩
  | false =>
  have HLP := Lib.hid (hrb rfl).1
  have hm30 : m.size ≤ 30 := (hrb rfl).2
  clear hrb
  go_wp2
  go_loopw [5] (fun v wr => ∃ i : Nat, i ≤ m.data.toList.length ∧ v = .int .i64 i ∧ wr = w1 ∧ ∀ c ∈ m.data.toList.take i, c ≠ 10) (fun v _ => m.size - (intOf v).toNat)
  case atStart => exact ⟨0, Nat.zero_le _, rfl, rfl, fun c hc => by cases hc⟩
  case round =>
  obtain ⟨i, hi, rfl, hwr, hno⟩ := hrel
  obtain rfl : w1 = wr := hwr.symm
  by_cases hlt : i < m.data.toList.length
  · obtain ⟨b, hb⟩ : ∃ b, m.data.toList[i]? = some b := ⟨_, List.getElem?_eq_getElem hlt⟩
    have hix := fun W => ixStrT m i b hb W
    have i1 : (i : Int) < (m.size : Int) := by omega
    have i3 : IntKind.i64.wrap ((i : Int) + 1) = (i : Int) + 1 := IntWalk.i64_in _ (by omega)
    obtain ⟨r, hr⟩ : ∃ r, b.toNat = r := ⟨_, rfl⟩
    rw [hr] at hix
    by_cases h10 : b = 10
    · obtain rfl : r = 10 := by rw [← hr, h10]; rfl
      go_wp2
      go_ret
      exact ⟨rfl, by rw [HBS.out]; exact HB1.out⟩
    · have hr10 : r ≠ 10 := fun e => h10 (UInt8.toNat_inj.1 (hr.trans e))
      have i5 : ((r : Int) == 10) = false := beq_eq_false_iff_ne.2 (by omega)
      have HNO := Lib.hid (mem_take hno hb h10)
      clear hno
      go_wp2
      exact ⟨⟨i + 1, hlt, by go_num, trivial, HNO.out⟩, by simp [intOf]; omega⟩
  have i1 : ¬ (i : Int) < (m.size : Int) := by omega
  have HM : Hid (∀ c ∈ m.data.toList, c ≠ 10) := Lib.hid (by rw [List.take_of_length_le (by omega)] at hno; exact hno)
  clear hno hlt hi
  have q0 := HP1.out.cell 0 (.int .i64 k) rfl
  have q1 := HP1.out.cell 1 (.int .i64 u) rfl
  have q2 := HP1.out.cell 2 (.bool x) rfl
  have q3 := HP1.out.cell 3 (.slice A n c) rfl
  have KO := Lib.hid (of14_any k u x A n c R w1 (by have := HLP.out.1; omega) (fun i hi => (HLP.out.2 i hi).2) HR1.out)
  go_wp2_with fail
  refine KO.out.mono ?_
  rintro e w2 ⟨A2, c2, l2, rfl, hl2, hrow2, hv2, hB2⟩
  have HB2 := Lib.hid (HB1.out.trans (hB2.mono HS1.out))
  have HP2 := Lib.hid (HP1.out.below hB2 HP1.out.lt)
  have HR2 := Lib.hid (HR1.out.below hB2 (Nat.le_refl _))
  have HS2 := Lib.hid (Nat.le_trans HS1.out hB2.size)
  have hsv : ∀ r ∈ l2, SmallV r.val := fun r hr => small_ru (hrow2.2 r hr)
  have KP := Lib.hid (printP_any k u x A2 l2 c2 w2 hrow2.rl (by have := HLP.out.1; omega) (small_of hv2 (fun i hi => (HLP.out.2 i hi).2)) hsv (tab_on HT.out HB2.out (Nat.le_of_eq HBS.out)))
  rw [hl2, hv2] at KP
  have HSV : Hid (∀ r ∈ (List.range n).map (fun i => (R i).val), SmallV r) := Lib.hid (by
    rw [← hv2]
    intro v hv
    obtain ⟨r, hr, rfl⟩ := List.mem_map.1 hv
    exact hsv r hr)
  clear hrow2 hl2 hv2 hB2 hsv q0 q1 q2 q3 HP1 HR1 HB1 HS1
  go_wp2_with fail
  refine KP.out.mono ?_
  rintro e w3 ⟨⟨s, er, rfl, hor⟩, hB3⟩
  have HB3 := Lib.hid (HB2.out.trans (hB3.mono HS2.out))
  have HP3 := Lib.hid (HP2.out.below hB3 HP2.out.lt)
  have HR3 := Lib.hid (HR2.out.below hB3 (Nat.le_refl _))
  have HS3 := Lib.hid (Nat.le_trans HS2.out hB3.size)
  clear hB3 HP2 HR2 HB2 HS2
  rcases hor with ⟨rfl, hr, hse, hsz⟩ | her
  · have HSE := Lib.hid (show s.data.toList = joinF (polL k u x ((List.range n).map (fun i => (R i).val))) by rw [hse])
    have HRT := Lib.hid hr
    have hsl : s.data.toList.length = s.size := Array.length_toList
    have HSHORT : Hid ((nq m.data.toList s.data.toList).length ≤ 60000) := Lib.hid (by
      rw [HSE.out]
      exact quo_short x HRT.out HSV.out (by rw [List.length_map, List.length_range]; exact HLP.out.1) _ (by omega))
    have hs64 : s.size ≤ 65536 := hsz
    clear hr hse hsz
    have z1 : (⟨#[35, 32]⟩ : ByteArray).size = 2 := rfl
    have z2 : (⟨#[10, 10, 9]⟩ : ByteArray).size = 3 := rfl
    obtain ⟨U1, hU1⟩ : ∃ V1 : ByteArray, (⟨#[35, 32]⟩ : ByteArray) ++ m = V1 := ⟨_, rfl⟩
    have hU1s : U1.size = 2 + m.size := by rw [← hU1, ByteArray.size_append]; rfl
    obtain ⟨U2, hU2⟩ : ∃ V2 : ByteArray, U1 ++ (⟨#[10, 10, 9]⟩ : ByteArray) = V2 := ⟨_, rfl⟩
    have hU2s : U2.size = U1.size + 3 := by rw [← hU2, ByteArray.size_append]; rfl
    have HU2 : Hid (U2.data.toList = [35, 32] ++ m.data.toList ++ [10, 10, 9]) := Lib.hid (by rw [← hU2, ← hU1, cat2, cat2])
    go_wp2
    go_loopw [8, 9] (fun t v wr => ∃ (j : Nat) (V : ByteArray), j ≤ s.data.toList.length ∧ v = .int .i64 j ∧ t = .string V ∧ V.data.toList = ([35, 32] ++ m.data.toList ++ [10, 10, 9]) ++ nq m.data.toList (s.data.toList.take j) ∧ wr = w3) (fun _ v _ => s.size - (intOf v).toNat)
    case atStart => exact ⟨0, U2, Nat.zero_le _, rfl, rfl, by rw [HU2.out]; simp [nq], rfl⟩
    case round =>
    obtain ⟨j, V, hj, rfl, rfl, hV, hwr⟩ := hrel
    obtain rfl : w3 = wr := hwr.symm
    have hVs : V.size ≤ 60100 := by
      have h1 := nq_take m.data.toList s.data.toList j
      have h2 := HSHORT.out
      rw [size_len, hV]
      simp only [List.length_append, List.length_cons, List.length_nil]
      omega
    by_cases hlt2 : j < s.data.toList.length
    · obtain ⟨b, hb⟩ : ∃ b, s.data.toList[j]? = some b := ⟨_, List.getElem?_eq_getElem hlt2⟩
      have hix := fun W => ixStrT s j b hb W
      have hext : s.extract j (j + 1) = ⟨#[b]⟩ := by
        rw [Lib.extract_eq, Nat.add_sub_cancel_left, List.drop_eq_getElem_cons hlt2]
        simp [(List.getElem?_eq_some_iff.1 hb).2]
      have j1 : (j : Int) < (s.size : Int) := by omega
      have j2 : (0 : Int) ≤ (j : Int) := by omega
      have j3 : IntKind.i64.wrap ((j : Int) + 1) = (j : Int) + 1 := IntWalk.i64_in _ (by omega)
      have j4 : (j : Int) + 1 ≤ (s.size : Int) := by omega
      have j5 : ((j : Int) + 1).toNat = j + 1 := by omega
      have hst : nq m.data.toList (s.data.toList.take (j + 1)) = nq m.data.toList (s.data.toList.take j) ++ nqC m.data.toList b := by
        rw [List.take_add_one, hb]
        exact nq_snoc _ _ _
      have HST := Lib.hid hst
      have HV := Lib.hid hV
      obtain ⟨r, hr⟩ : ∃ r, b.toNat = r := ⟨_, rfl⟩
      rw [hr] at hix
      clear hst hV
      by_cases h32 : b = 32
      · obtain rfl : r = 32 := by rw [← hr, h32]; rfl
        have y1 : (⟨#[32, 9, 32]⟩ : ByteArray).size = 3 := rfl
        go_wp2
        refine ⟨⟨j + 1, V ++ ⟨#[32, 9, 32]⟩, hlt2, by go_num, rfl, ?_, trivial⟩, by simp [intOf]; omega⟩
        rw [HST.out, cat2, HV.out, h32, List.append_assoc]
        rfl
      have hr32 : r ≠ 32 := fun e => h32 (UInt8.toNat_inj.1 (hr.trans e))
      have j6 : ((r : Int) == 32) = false := beq_eq_false_iff_ne.2 (by omega)
      by_cases h10 : b = 10
      · obtain rfl : r = 10 := by rw [← hr, h10]; rfl
        have y1 : (⟨#[13, 35]⟩ : ByteArray).size = 2 := rfl
        have y2 : (⟨#[10, 32, 10]⟩ : ByteArray).size = 3 := rfl
        obtain ⟨V1, hV1⟩ : ∃ V1 : ByteArray, (⟨#[13, 35]⟩ : ByteArray) ++ m = V1 := ⟨_, rfl⟩
        have hV1s : V1.size = 2 + m.size := by rw [← hV1, ByteArray.size_append]; rfl
        obtain ⟨V2, hV2⟩ : ∃ V2 : ByteArray, V1 ++ (⟨#[10, 32, 10]⟩ : ByteArray) = V2 := ⟨_, rfl⟩
        have hV2s : V2.size = V1.size + 3 := by rw [← hV2, ByteArray.size_append]; rfl
        have HC := Lib.hid (And.intro hV1 hV2)
        go_wp2
        refine ⟨⟨j + 1, V ++ V2, hlt2, by go_num, rfl, ?_, trivial⟩, by simp [intOf]; omega⟩
        obtain ⟨h1, h2⟩ := HC.out
        rw [HST.out, ← h2, ← h1, cat2, cat2, cat2, HV.out, h10, List.append_assoc]
        rfl
      have hr10 : r ≠ 10 := fun e => h10 (UInt8.toNat_inj.1 (hr.trans e))
      have j7 : ((r : Int) == 10) = false := beq_eq_false_iff_ne.2 (by omega)
      have y1 : (⟨#[b]⟩ : ByteArray).size = 1 := rfl
      go_wp2
      refine ⟨⟨j + 1, V ++ ⟨#[b]⟩, hlt2, by go_num, rfl, ?_, trivial⟩, by simp [intOf]; omega⟩
      rw [HST.out, cat2, HV.out, List.append_assoc, show nqC m.data.toList b = [b] by unfold nqC; rw [if_neg h32, if_neg h10]]
    obtain rfl : j = s.data.toList.length := by omega
    have j1 : ¬ ((s.data.toList.length : Nat) : Int) < (s.size : Int) := by omega
    rw [List.take_of_length_le (Nat.le_refl _), HSE.out] at hV
    have KQ := Lib.hid (parse_noted HRT.out HSV.out m.data.toList HM.out V hV (by omega) w3 (tab_on HT.out HB3.out (Nat.le_of_eq HBS.out)))
    clear hV
    go_wp2_with fail
    refine KQ.out.mono ?_
    rintro e w4 ⟨A4, c4, l4, rfl, hrow4, hv4, hB4⟩
    obtain ⟨m4, hm4⟩ : ∃ m, l4.length = m := ⟨_, rfl⟩
    obtain ⟨W4, hW4⟩ : ∃ W, w4.alloc (.cells (polA k u x A4 m4 c4) 26) = W := ⟨_, rfl⟩
    obtain ⟨X, hX⟩ : ∃ X, w4.heap.size = X := ⟨_, rfl⟩
    have hb44 : Below X w4 W4 := by rw [← hW4, ← hX]; exact (Below.refl _ _).alloc (Nat.le_refl _) _
    have hx4 : RowC W4 X (polA k u x A4 m4 c4) 26 := by rw [← hW4, ← hX]; exact RowC.new _ _ _ _ rfl
    have hb3W : Below w3.heap.size w3 W4 := hB4.trans (hb44.mono (by rw [← hX]; exact hB4.size))
    have HB4 := Lib.hid (HB3.out.trans (hb3W.mono HS3.out))
    have hP4 := HP3.out.below hb3W HP3.out.lt
    have hlen : l4.length = n := by have := congrArg List.length hv4; simpa using this
    have KT := Lib.hid (told14_any k u k u x x A4 A l4 c4 n c R W4 (hrow4.rl.below hb44 (Nat.le_of_eq hX)) (by have := HLP.out.1; omega) (by have := HLP.out.1; omega) (fun i hi => (HLP.out.2 i hi).2) (HR3.out.below hb3W (Nat.le_refl _)))
    rw [hm4] at KT
    have x0 := hx4.cell 0 (.int .i64 k) rfl
    have x1 := hx4.cell 1 (.int .i64 u) rfl
    have x2 := hx4.cell 2 (.bool x) rfl
    have x3 := hx4.cell 3 (.slice A4 m4 c4) rfl
    have q0 := hP4.cell 0 (.int .i64 k) rfl
    have q1 := hP4.cell 1 (.int .i64 u) rfl
    have q2 := hP4.cell 2 (.bool x) rfl
    have q3 := hP4.cell 3 (.slice A n c) rfl
    have HV4 := Lib.hid hv4
    have HW4 := Lib.hid hW4
    have HM4 := Lib.hid hm4
    have HS4 := Lib.hid (Nat.le_trans HS3.out hb3W.size)
    clear hrow4 hv4 hB4 hW4 hb44 hx4 hb3W hP4 hlen HP3 HR3
    go_upto_region 22 with fail
    (try rw [HM4.out])
    (try rw [hX])
    (try rw [HW4.out])
    clear hX hm4
    go_wp2_with fail
    refine KT.out.mono ?_
    rintro e w5 ⟨⟨b5, rfl, hb5⟩, hB5⟩
    obtain rfl : b5 = true := hb5.2 ⟨rfl, rfl, rfl, HV4.out⟩
    have HB5 := Lib.hid (HB4.out.trans (hB5.mono HS4.out))
    have HS5 := Lib.hid (Nat.le_trans HS4.out hB5.size)
    have KW := Lib.hid (awake14_any w5 (tab_on HT.out HB5.out (Nat.le_of_eq HBS.out)))
    clear hb5 hB5
    go_wp2_with fail
    refine KW.out.mono ?_
    rintro e w6 ⟨rfl, hB6⟩
    go_wp2
    go_ret
    exact ⟨rfl, by rw [HBS.out]; exact HB5.out.trans (hB6.mono HS5.out)⟩
  · have KW := Lib.hid (awake14_any w3 (tab_on HT.out HB3.out (Nat.le_of_eq HBS.out)))
    have her2 : (er != 0) = true := by simpa using her
    go_wp2_with fail
    refine KW.out.mono ?_
    rintro e w6 ⟨rfl, hB6⟩
    go_wp2
    go_ret
    exact ⟨rfl, by rw [HBS.out]; exact HB3.out.trans (hB6.mono HS3.out)⟩
theorem of_laid {W : World} (h : laidMetH Tryz.prog Rows.policyNotesRow.laid W) : TabP W := by
  rw [MakeChecks.laidMetH_plain _ _ _ (by kernel_rfl)] at h
  exact tab_of_third h
end Go.Proofs.YtccklmleaffgiaaGreatDoor
