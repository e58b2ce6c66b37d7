/-
  For every text of at most 1000 bytes and every note of at most 50 without a line's end: notes behind lines, and blanks, change nothing.
-/
import Derived.Test.YtieebnninhbdoaaTm
import Derived.Test.YtieebnninhbdoaaRows
import Derived.WideShapes
import Derived.ChangeShapes
import Derived.BigQuiet
import Derived.BigRegion
import Derived.Deep.RegionHeld3
import Derived.ProofKit
import Derived.OpenShut
import Derived.ShutString
import Derived.ChangeOld
import Derived.Below
import Derived.Lib.SmallJoins
namespace Go.Proofs.Ytieebnninhbdoaa
open Go.RowKit

theorem mem_take {M : List UInt8} {i : Nat} {b : UInt8} (h : ∀ c ∈ M.take i, c ≠ 10) (hb : M[i]? = some b) (h10 : b ≠ 10) : ∀ c ∈ M.take (i + 1), c ≠ 10 := by
  intro c hc
  rw [List.take_add_one, hb] at hc
  rcases List.mem_append.1 hc with hc | hc
  · exact h c hc
  · have : c = b := by simpa using hc
    rw [this]; exact h10
theorem cat_data (s m : ByteArray) (c : UInt8) : (s ++ ⟨#[c]⟩ ++ m).data.toList = s.data.toList ++ c :: m.data.toList := by simp
theorem size_len (s : ByteArray) : s.size = s.data.toList.length := Array.length_toList.symm
theorem cat2 (s m : ByteArray) : (s ++ m).data.toList = s.data.toList ++ m.data.toList := by simp
/-- A line alone, as a part of lines. -/
theorem cel_one {W : World} {b o n c k : Nat} {ls : List Ln} {x : Ln} {B : Nat} (h : Cel W B 2 (some ⟨b, o, none⟩) n c (lcell ls)) (hk : k < n) (hx : ls[k]? = some x) (hb : b < B) (hcl : ∀ i, i < n * 2 → W.cell? ⟨b, o + i, none⟩ = some (lcell ls i)) : Cel W B 2 (some ⟨b, o + k * 2, none⟩) 1 (c - k) (lcell [x]) := by
  obtain ⟨h1, h2⟩ := h.le
  refine Cel.mk_ hb (by omega) (by omega) fun i hi => ?_
  have hc := hcl (k * 2 + i) (by omega)
  have e : lcell ls (k * 2 + i) = lcell [x] i := by
    unfold lcell
    rw [show (k * 2 + i) / 2 = k by omega, hx, show (k * 2 + i) % 2 = i % 2 by omega, show i / 2 = 0 by omega]
    rfl
  rw [← e, Nat.add_assoc]
  exact hc
set_option maxRecDepth 100000 in
set_option maxHeartbeats 8000000 in
theorem notes_ten {w0 : World} (s m : ByteArray) (hs : s.size ≤ 1000) (hm : m.size ≤ 50) (hM : ¬ ∀ c ∈ m.data.toList, c ≠ 10) : Calls Try.prog 5 #[.string s, .string m] w0 fun e w' => e = .returned (.bool true) ∧ Below w0.heap.size w0 w' := by
  have hsz : s.data.toList.length = s.size := Array.length_toList
  have hmz : m.data.toList.length = m.size := Array.length_toList
  have g1 : ¬ (1000 : Int) < (s.size : Int) := by omega
  have g2 : ¬ (50 : Int) < (m.size : Int) := by omega
  go_enter Try.func5, Try.ntmps5
  go_wp2
  go_loopw [5] (fun v wr => ∃ i : Nat, i ≤ m.data.toList.length ∧ v = .int .i64 i ∧ wr = w0 ∧ ∀ c ∈ m.data.toList.take i, c ≠ 10) (fun v _ => m.size - (intOf v).toNat)
  case atStart => exact ⟨0, Nat.zero_le _, rfl, rfl, fun c hc => by cases hc⟩
  case round =>
    obtain ⟨i, hi, rfl, hwr, hno⟩ := hrel
    obtain rfl : w0 = wr := hwr.symm
    by_cases hlt : i < m.data.toList.length
    · obtain ⟨b, hb⟩ : ∃ b, m.data.toList[i]? = some b := ⟨_, List.getElem?_eq_getElem hlt⟩
      have hix := fun W => ixStr m i b hb W
      have i1 : (i : Int) < (m.size : Int) := by omega
      have i3 : IntKind.i64.wrap ((i : Int) + 1) = (i : Int) + 1 := IntWalk.i64_in _ (by omega)
      obtain ⟨r, hr⟩ : ∃ r, b.toNat = r := ⟨_, rfl⟩
      rw [hr] at hix
      by_cases h10 : b = 10
      · obtain rfl : r = 10 := by rw [← hr, h10]; rfl
        go_wp2
        go_ret
        exact ⟨rfl, Below.refl _ _⟩
      · have hr10 : r ≠ 10 := fun e => h10 (UInt8.toNat_inj.1 (hr.trans e))
        have i5 : ((r : Int) == 10) = false := beq_eq_false_iff_ne.2 (by omega)
        have HNO := Lib.hid (mem_take hno hb h10)
        clear hno
        go_wp2
        exact ⟨⟨i + 1, hlt, by go_num, trivial, HNO.out⟩, by simp [intOf]; omega⟩
    · exact absurd (fun c hc => hno c (by rw [List.take_of_length_le (by omega)]; exact hc)) hM

set_option maxRecDepth 100000 in
set_option maxHeartbeats 8000000 in
theorem notes_bad {w0 : World} (s m : ByteArray) (hs : s.size ≤ 1000) (hm : m.size ≤ 50) (hM : ∀ c ∈ m.data.toList, c ≠ 10) (hz : (linesF s.data.toList).2 ≠ 0) : Calls Try.prog 5 #[.string s, .string m] w0 fun e w' => e = .returned (.bool true) ∧ Below w0.heap.size w0 w' := by
  have hsz : s.data.toList.length = s.size := Array.length_toList
  have hmz : m.data.toList.length = m.size := Array.length_toList
  have g1 : ¬ (1000 : Int) < (s.size : Int) := by omega
  have g2 : ¬ (50 : Int) < (m.size : Int) := by omega
  go_enter Try.func5, Try.ntmps5
  go_wp2
  go_loopw [5] (fun v wr => ∃ i : Nat, i ≤ m.data.toList.length ∧ v = .int .i64 i ∧ wr = w0) (fun v _ => m.size - (intOf v).toNat)
  case atStart => exact ⟨0, Nat.zero_le _, rfl, rfl⟩
  case round =>
    obtain ⟨i, hi, rfl, hwr⟩ := hrel
    obtain rfl : w0 = wr := hwr.symm
    by_cases hlt : i < m.data.toList.length
    · obtain ⟨b, hb⟩ : ∃ b, m.data.toList[i]? = some b := ⟨_, List.getElem?_eq_getElem hlt⟩
      have hix := fun W => ixStr m i b hb W
      have i1 : (i : Int) < (m.size : Int) := by omega
      have i3 : IntKind.i64.wrap ((i : Int) + 1) = (i : Int) + 1 := IntWalk.i64_in _ (by omega)
      obtain ⟨r, hr⟩ : ∃ r, b.toNat = r := ⟨_, rfl⟩
      rw [hr] at hix
      by_cases h10 : b = 10
      · exact absurd h10 (hM b (List.mem_of_getElem? hb))
      · have hr10 : r ≠ 10 := fun e => h10 (UInt8.toNat_inj.1 (hr.trans e))
        have i5 : ((r : Int) == 10) = false := beq_eq_false_iff_ne.2 (by omega)
        go_wp2
        exact ⟨⟨i + 1, hlt, by go_num, trivial⟩, by simp [intOf]; omega⟩
    · have i1 : ¬ (i : Int) < (m.size : Int) := by omega
      go_wp2
      go_loopw [6, 7] (fun u v wr => ∃ (j : Nat) (V : ByteArray), j ≤ s.data.toList.length ∧ v = .int .i64 j ∧ u = .string V ∧ V.data.toList = [32, 9] ++ nt m.data.toList (s.data.toList.take j) ∧ wr = w0) (fun _ v _ => s.size - (intOf v).toNat)
      case atStart => exact ⟨0, _, Nat.zero_le _, rfl, rfl, rfl, rfl⟩
      case round =>
        obtain ⟨j, V, hj, rfl, rfl, hV, hwr⟩ := hrel
        obtain rfl : w0 = wr := hwr.symm
        have hVs : V.size ≤ 60000 := by
          have h1 := nt_len m.data.toList (s.data.toList.take j)
          have h2 : (s.data.toList.take j).length ≤ 1000 := by have := List.length_take_le j s.data.toList; omega
          have h3 : (s.data.toList.take j).length * (m.data.toList.length + 5) ≤ 1000 * 55 := Nat.mul_le_mul h2 (by omega)
          rw [size_len, hV, List.length_append]
          simp only [List.length_cons, List.length_nil]
          omega
        by_cases hlt2 : j < s.data.toList.length
        · obtain ⟨b, hb⟩ : ∃ b, s.data.toList[j]? = some b := ⟨_, List.getElem?_eq_getElem hlt2⟩
          have hix := fun W => ixStr s j b hb W
          have hext : s.extract j (j + 1) = ⟨#[b]⟩ := by
            rw [Lib.extract_eq, Nat.add_sub_cancel_left, List.drop_eq_getElem_cons hlt2]
            simp [(List.getElem?_eq_some_iff.1 hb).2]
          have j1 : (j : Int) < (s.size : Int) := by omega
          have j2 : (0 : Int) ≤ (j : Int) := by omega
          have j3 : IntKind.i64.wrap ((j : Int) + 1) = (j : Int) + 1 := IntWalk.i64_in _ (by omega)
          have j4 : (j : Int) + 1 ≤ (s.size : Int) := by omega
          have j5 : ((j : Int) + 1).toNat = j + 1 := by omega
          have hst : nt m.data.toList (s.data.toList.take (j + 1)) = nt m.data.toList (s.data.toList.take j) ++ (if b = 10 then [13, 32, 35] ++ m.data.toList ++ [10] ++ [32] else [b]) := by
            rw [List.take_add_one, hb]
            exact nt_snoc _ _ _
          have HST := Lib.hid hst
          have HV := Lib.hid hV
          obtain ⟨r, hr⟩ : ∃ r, b.toNat = r := ⟨_, rfl⟩
          rw [hr] at hix
          clear hst hV
          by_cases h10 : b = 10
          · obtain rfl : r = 10 := by rw [← hr, h10]; rfl
            have q1 : (⟨#[13, 32, 35]⟩ : ByteArray).size = 3 := rfl
            obtain ⟨V1, hV1⟩ : ∃ V1 : ByteArray, (⟨#[13, 32, 35]⟩ : ByteArray) ++ m = V1 := ⟨_, rfl⟩
            have hV1s : V1.size = 3 + m.size := by rw [← hV1, ByteArray.size_append]; rfl
            obtain ⟨V2, hV2⟩ : ∃ V2 : ByteArray, V ++ V1 = V2 := ⟨_, rfl⟩
            have hV2s : V2.size = V.size + V1.size := by rw [← hV2, ByteArray.size_append]
            obtain ⟨V3, hV3⟩ : ∃ V3 : ByteArray, V2 ++ ⟨#[b]⟩ = V3 := ⟨_, rfl⟩
            have hV3s : V3.size = V2.size + 1 := by rw [← hV3, ByteArray.size_append]; rfl
            have HC := Lib.hid (And.intro hV1 (And.intro hV2 hV3))
            go_wp2
            refine ⟨⟨j + 1, V3 ++ ⟨#[32]⟩, hlt2, by go_num, ?_, ?_, trivial⟩, by simp [intOf]; omega⟩
            · rw [← HC.out.2.2, h10]
            · obtain ⟨h1, h2, h3⟩ := HC.out
              rw [HST.out, if_pos h10, ← h3, ← h2, ← h1, cat2, cat2, cat2, cat2, HV.out, h10]
              simp
          · have hr10 : r ≠ 10 := fun e => h10 (UInt8.toNat_inj.1 (hr.trans e))
            have j5 : ((r : Int) == 10) = false := beq_eq_false_iff_ne.2 (by omega)
            go_wp2
            refine ⟨⟨j + 1, V ++ ⟨#[b]⟩, hlt2, by go_num, ?_, ?_, trivial⟩, by simp [intOf]; omega⟩
            · rfl
            · rw [HST.out, if_neg h10, cat2, HV.out, List.append_assoc]
        · obtain rfl : j = s.data.toList.length := by omega
          have j1 : ¬ ((s.data.toList.length : Nat) : Int) < (s.size : Int) := by omega
          rw [List.take_of_length_le (Nat.le_refl _)] at hV
          have hT : (V ++ ⟨#[35]⟩ ++ m).data.toList = ([32, 9] ++ nt m.data.toList s.data.toList) ++ 35 :: m.data.toList := by rw [cat_data, hV]
          have hlT : linesF (V ++ ⟨#[35]⟩ ++ m).data.toList = linesF s.data.toList := by rw [hT]; exact lines_noted _ _ hM
          have hTs : (V ++ ⟨#[35]⟩ ++ m).size ≤ 65536 := by
            rw [ByteArray.size_append, ByteArray.size_append]
            have q1 : (⟨#[35]⟩ : ByteArray).size = 1 := rfl
            omega
          have q1 : (⟨#[35]⟩ : ByteArray).size = 1 := rfl
          obtain ⟨V1, hV1⟩ : ∃ V1 : ByteArray, V ++ ⟨#[35]⟩ = V1 := ⟨_, rfl⟩
          have hV1s : V1.size = V.size + 1 := by rw [← hV1, ByteArray.size_append]; rfl
          obtain ⟨T, hT'⟩ : ∃ T : ByteArray, V ++ ⟨#[35]⟩ ++ m = T := ⟨_, rfl⟩
          have hT2 : V1 ++ m = T := by rw [← hV1]; exact hT'
          rw [hT'] at hT hlT hTs
          have HA := Lib.hid (fun W => lines_noL s (by omega) hz W)
          have HB := Lib.hid (fun W => lines_noL T hTs (by rw [hlT]; exact hz) W)
          rw [hlT] at HB
          generalize (linesF s.data.toList).2 = nn at *
          clear hT hlT hV hM hT'
          go_wp2_with fail
          refine (HA.out _).mono ?_
          rintro e w1 ⟨rfl, hB1⟩
          go_wp2_with fail
          refine (HB.out _).mono ?_
          rintro e w2 ⟨rfl, hB2⟩
          have hB := hB1.trans (hB2.mono hB1.size)
          go_wp2
          go_loopw [14] (fun v wr => v = .int .i64 0 ∧ wr = w2) (fun _ _ => 0)
          case atStart => exact ⟨rfl, rfl⟩
          case round =>
            obtain ⟨rfl, hwr⟩ := hrel
            obtain rfl : w2 = wr := hwr.symm
            go_wp2_with (go_at_call 13; refine (awake13_any _).mono ?_; rintro e w7 ⟨rfl, hB7⟩)
            go_ret
            exact ⟨rfl, hB.trans (hB7.mono hB.size)⟩



/-- What Lines tells of a text that is right, by its lines. -/
def OkN (W : World) (P : List (Nat × List (List UInt8))) (N : Nat) (e : Ending) (w' : World) : Prop :=
  ∃ A c ls, e = .returned (.tuple #[.slice A N c, .int .i64 0, .int .i64 0]) ∧ ((ls.length = N ∧ ls.map Ln.tell = P) ∧ Cel w' w'.heap.size 2 A N c (lcell ls) ∧ LR w' ls) ∧ Below W.heap.size W w'
theorem lines_okN (s : ByteArray) (hs : s.size ≤ 65536) (P : List (Nat × List (List UInt8))) (h : linesF s.data.toList = (P, 0)) (N : Nat) (hN : P.length = N) (W : World) : Calls Try.prog 10 #[.string s] W (OkN W P N) :=
  (lines_okL s hs (by rw [h]) W).mono fun e w' hh => by
    obtain ⟨A, c, ls, he, ⟨h1, h2, h3⟩, hb⟩ := hh
    rw [h] at h1
    have hl : ls.length = N := by
      have h4 := congrArg List.length h1
      rw [List.length_map] at h4
      exact h4.trans hN
    have h2' := h2.cel
    rw [hl] at h2' he
    exact ⟨A, c, ls, he, ⟨⟨hl, h1⟩, h2', h3⟩, hb⟩
theorem join_okN (A : Option Addr) (c N : Nat) (ls : List Ln) (P : List (Nat × List (List UInt8))) (hl : ls.length = N) (hP : ls.map Ln.tell = P) (hb : ∀ p ∈ P, p.2.length ≤ 65536) (hj : (joinF (P.map (·.2))).length ≤ 65536) (W : World) (h1 : Cel W W.heap.size 2 A N c (lcell ls)) (h2 : LR W ls) :
    Calls Try.prog 14 #[.slice A N c] W fun e w' => e = .returned (.string ⟨(joinF (P.map (·.2))).toArray⟩) ∧ Below W.heap.size W w' := by
  have h := join_any A c ls W (by rw [hl]; exact h1) h2 (by rw [tell_ws, hP]; omega) (fun x hx => by
    have := hb x.tell (by rw [← hP]; exact List.mem_map_of_mem hx)
    have e : x.tell.2 = x.ws := rfl
    rw [e] at this
    omega)
  rw [tell_ws, hP, hl] at h
  exact h
theorem wds_bd (L : List UInt8) (hL : L.length ≤ 65536) : ∀ p ∈ (linesF L).1, p.2.length ≤ 65536 := fun p hp => by
  have h := scan_le L.length (lns L) 1 [] (fun l hl => lns_mem L l hl) (fun y hy => by cases hy) p hp
  omega
set_option maxRecDepth 100000 in
set_option maxHeartbeats 8000000 in
theorem notes_ok {w0 : World} (s m : ByteArray) (hs : s.size ≤ 1000) (hm : m.size ≤ 50) (hM : ∀ c ∈ m.data.toList, c ≠ 10) (hz : (linesF s.data.toList).2 = 0) : Calls Try.prog 5 #[.string s, .string m] w0 fun e w' => e = .returned (.bool true) ∧ Below w0.heap.size w0 w' := by
  have hsz : s.data.toList.length = s.size := Array.length_toList
  have hmz : m.data.toList.length = m.size := Array.length_toList
  have g1 : ¬ (1000 : Int) < (s.size : Int) := by omega
  have g2 : ¬ (50 : Int) < (m.size : Int) := by omega
  go_enter Try.func5, Try.ntmps5
  go_wp2
  go_loopw [5] (fun v wr => ∃ i : Nat, i ≤ m.data.toList.length ∧ v = .int .i64 i ∧ wr = w0) (fun v _ => m.size - (intOf v).toNat)
  case atStart => exact ⟨0, Nat.zero_le _, rfl, rfl⟩
  case round =>
    obtain ⟨i, hi, rfl, hwr⟩ := hrel
    obtain rfl : w0 = wr := hwr.symm
    by_cases hlt : i < m.data.toList.length
    · obtain ⟨b, hb⟩ : ∃ b, m.data.toList[i]? = some b := ⟨_, List.getElem?_eq_getElem hlt⟩
      have hix := fun W => ixStr m i b hb W
      have i1 : (i : Int) < (m.size : Int) := by omega
      have i3 : IntKind.i64.wrap ((i : Int) + 1) = (i : Int) + 1 := IntWalk.i64_in _ (by omega)
      obtain ⟨r, hr⟩ : ∃ r, b.toNat = r := ⟨_, rfl⟩
      rw [hr] at hix
      by_cases h10 : b = 10
      · exact absurd h10 (hM b (List.mem_of_getElem? hb))
      · have hr10 : r ≠ 10 := fun e => h10 (UInt8.toNat_inj.1 (hr.trans e))
        have i5 : ((r : Int) == 10) = false := beq_eq_false_iff_ne.2 (by omega)
        go_wp2
        exact ⟨⟨i + 1, hlt, by go_num, trivial⟩, by simp [intOf]; omega⟩
    · have i1 : ¬ (i : Int) < (m.size : Int) := by omega
      go_wp2
      go_loopw [6, 7] (fun u v wr => ∃ (j : Nat) (V : ByteArray), j ≤ s.data.toList.length ∧ v = .int .i64 j ∧ u = .string V ∧ V.data.toList = [32, 9] ++ nt m.data.toList (s.data.toList.take j) ∧ wr = w0) (fun _ v _ => s.size - (intOf v).toNat)
      case atStart => exact ⟨0, _, Nat.zero_le _, rfl, rfl, rfl, rfl⟩
      case round =>
        obtain ⟨j, V, hj, rfl, rfl, hV, hwr⟩ := hrel
        obtain rfl : w0 = wr := hwr.symm
        have hVs : V.size ≤ 60000 := by
          have h1 := nt_len m.data.toList (s.data.toList.take j)
          have h2 : (s.data.toList.take j).length ≤ 1000 := by have := List.length_take_le j s.data.toList; omega
          have h3 : (s.data.toList.take j).length * (m.data.toList.length + 5) ≤ 1000 * 55 := Nat.mul_le_mul h2 (by omega)
          rw [size_len, hV, List.length_append]
          simp only [List.length_cons, List.length_nil]
          omega
        by_cases hlt2 : j < s.data.toList.length
        · obtain ⟨b, hb⟩ : ∃ b, s.data.toList[j]? = some b := ⟨_, List.getElem?_eq_getElem hlt2⟩
          have hix := fun W => ixStr s j b hb W
          have hext : s.extract j (j + 1) = ⟨#[b]⟩ := by
            rw [Lib.extract_eq, Nat.add_sub_cancel_left, List.drop_eq_getElem_cons hlt2]
            simp [(List.getElem?_eq_some_iff.1 hb).2]
          have j1 : (j : Int) < (s.size : Int) := by omega
          have j2 : (0 : Int) ≤ (j : Int) := by omega
          have j3 : IntKind.i64.wrap ((j : Int) + 1) = (j : Int) + 1 := IntWalk.i64_in _ (by omega)
          have j4 : (j : Int) + 1 ≤ (s.size : Int) := by omega
          have j5 : ((j : Int) + 1).toNat = j + 1 := by omega
          have hst : nt m.data.toList (s.data.toList.take (j + 1)) = nt m.data.toList (s.data.toList.take j) ++ (if b = 10 then [13, 32, 35] ++ m.data.toList ++ [10] ++ [32] else [b]) := by
            rw [List.take_add_one, hb]
            exact nt_snoc _ _ _
          have HST := Lib.hid hst
          have HV := Lib.hid hV
          obtain ⟨r, hr⟩ : ∃ r, b.toNat = r := ⟨_, rfl⟩
          rw [hr] at hix
          clear hst hV
          by_cases h10 : b = 10
          · obtain rfl : r = 10 := by rw [← hr, h10]; rfl
            have q1 : (⟨#[13, 32, 35]⟩ : ByteArray).size = 3 := rfl
            obtain ⟨V1, hV1⟩ : ∃ V1 : ByteArray, (⟨#[13, 32, 35]⟩ : ByteArray) ++ m = V1 := ⟨_, rfl⟩
            have hV1s : V1.size = 3 + m.size := by rw [← hV1, ByteArray.size_append]; rfl
            obtain ⟨V2, hV2⟩ : ∃ V2 : ByteArray, V ++ V1 = V2 := ⟨_, rfl⟩
            have hV2s : V2.size = V.size + V1.size := by rw [← hV2, ByteArray.size_append]
            obtain ⟨V3, hV3⟩ : ∃ V3 : ByteArray, V2 ++ ⟨#[b]⟩ = V3 := ⟨_, rfl⟩
            have hV3s : V3.size = V2.size + 1 := by rw [← hV3, ByteArray.size_append]; rfl
            have HC := Lib.hid (And.intro hV1 (And.intro hV2 hV3))
            go_wp2
            refine ⟨⟨j + 1, V3 ++ ⟨#[32]⟩, hlt2, by go_num, ?_, ?_, trivial⟩, by simp [intOf]; omega⟩
            · rw [← HC.out.2.2, h10]
            · obtain ⟨h1, h2, h3⟩ := HC.out
              rw [HST.out, if_pos h10, ← h3, ← h2, ← h1, cat2, cat2, cat2, cat2, HV.out, h10]
              simp
          · have hr10 : r ≠ 10 := fun e => h10 (UInt8.toNat_inj.1 (hr.trans e))
            have j5 : ((r : Int) == 10) = false := beq_eq_false_iff_ne.2 (by omega)
            go_wp2
            refine ⟨⟨j + 1, V ++ ⟨#[b]⟩, hlt2, by go_num, ?_, ?_, trivial⟩, by simp [intOf]; omega⟩
            · rfl
            · rw [HST.out, if_neg h10, cat2, HV.out, List.append_assoc]
        · obtain rfl : j = s.data.toList.length := by omega
          have j1 : ¬ ((s.data.toList.length : Nat) : Int) < (s.size : Int) := by omega
          rw [List.take_of_length_le (Nat.le_refl _)] at hV
          have hT : (V ++ ⟨#[35]⟩ ++ m).data.toList = ([32, 9] ++ nt m.data.toList s.data.toList) ++ 35 :: m.data.toList := by rw [cat_data, hV]
          have hlT : linesF (V ++ ⟨#[35]⟩ ++ m).data.toList = linesF s.data.toList := by rw [hT]; exact lines_noted _ _ hM
          have hTs : (V ++ ⟨#[35]⟩ ++ m).size ≤ 65536 := by
            rw [ByteArray.size_append, ByteArray.size_append]
            have q1 : (⟨#[35]⟩ : ByteArray).size = 1 := rfl
            omega
          have q1 : (⟨#[35]⟩ : ByteArray).size = 1 := rfl
          obtain ⟨V1, hV1⟩ : ∃ V1 : ByteArray, V ++ ⟨#[35]⟩ = V1 := ⟨_, rfl⟩
          have hV1s : V1.size = V.size + 1 := by rw [← hV1, ByteArray.size_append]; rfl
          obtain ⟨T, hT'⟩ : ∃ T : ByteArray, V ++ ⟨#[35]⟩ ++ m = T := ⟨_, rfl⟩
          have hT2 : V1 ++ m = T := by rw [← hV1]; exact hT'
          rw [hT'] at hT hlT hTs
          have hla : linesF s.data.toList = ((linesF s.data.toList).1, 0) := by rw [← hz]
          have hNle : (linesF s.data.toList).1.length ≤ s.data.toList.length + 1 := by
            have h1 := scan_len (lns s.data.toList) 1 []
            have h2 := (lns_length s.data.toList).2
            have h3 : scan 1 (lns s.data.toList) [] = linesF s.data.toList := rfl
            rw [h3] at h1
            simp only [List.length_nil] at h1
            omega
          have hbd := wds_bd s.data.toList (by omega)
          have hjl := joinF_len s.data.toList
          obtain ⟨P, hP⟩ : ∃ P, (linesF s.data.toList).1 = P := ⟨_, rfl⟩
          rw [hP] at hla hNle hbd hjl
          obtain ⟨N, hN⟩ : ∃ N, P.length = N := ⟨_, rfl⟩
          rw [hN] at hNle
          have HA := Lib.hid (fun W => lines_okN s (by omega) P hla N hN W)
          have HB := Lib.hid (fun W => lines_okN T hTs P (hlT.trans hla) N hN W)
          have HJ : Hid (∀ p ∈ P, p.2.length ≤ 140737488355328 ∧ (joinF [p.2]).length ≤ 140737488355328) := Lib.hid fun p hp => ⟨by have := hbd p hp; omega, by
            obtain ⟨a, b, hab⟩ := List.append_of_mem hp
            have e : P.map (·.2) = a.map (·.2) ++ ([p.2] ++ b.map (·.2)) := by rw [hab]; simp
            rw [e, joinF_append, joinF_append] at hjl
            simp only [List.length_append] at hjl
            omega⟩
          clear hT hlT hV hM hT' hla hz hP hbd hjl hN
          go_wp2_with fail
          refine (HA.out _).mono ?_
          rintro e w1 ⟨A, c, la, rfl, hFA, hB1⟩
          go_wp2_with fail
          refine (HB.out _).mono ?_
          rintro e w2 ⟨A2, c2, lb, rfl, hFB, hB2⟩
          have hB := hB1.trans (hB2.mono hB1.size)
          have hs1 := hB1.size
          have hs2 := hB2.size
          have hC1 : Cel w2 w2.heap.size 2 A N c (lcell la) := (hFA.2.1.below hB2).more hs2
          have hC2 : Cel w2 w2.heap.size 2 A2 N c2 (lcell lb) := hFB.2.1
          have hR1 : LR w2 la := hFA.2.2.below hB2
          have hR2 : LR w2 lb := hFB.2.2
          have HF2 : Hid (∀ k, k < N → ∃ x y : Ln, la[k]? = some x ∧ lb[k]? = some y ∧ y.num = x.num ∧ y.ws = x.ws ∧ x.tell ∈ P) := Lib.hid fun k hk => by
            obtain ⟨⟨h1, h2⟩, _⟩ := hFA
            obtain ⟨⟨h3, h4⟩, _⟩ := hFB
            obtain ⟨x, hx⟩ : ∃ x, la[k]? = some x := ⟨_, List.getElem?_eq_getElem (by omega)⟩
            obtain ⟨y, hy⟩ : ∃ y, lb[k]? = some y := ⟨_, List.getElem?_eq_getElem (by omega)⟩
            have e := congrArg (fun l : List (Nat × List (List UInt8)) => l[k]?) (h2.trans h4.symm)
            simp only [List.getElem?_map, hx, hy, Option.map_some] at e
            injection e with e
            injection e with e1 e2
            exact ⟨x, y, hx, hy, e1.symm, e2.symm, by rw [← h2]; exact List.mem_map_of_mem (List.mem_of_getElem? hx)⟩
          have HC := Lib.hid (And.intro hC1 (And.intro hC2 (And.intro hR1 hR2)))
          have hc1 : N ≤ c ∧ c ≤ maxLen := hC1.le
          have hc2 : N ≤ c2 ∧ c2 ≤ maxLen := hC2.le
          unfold maxLen at hc1 hc2
          have HBB := Lib.hid hB
          clear hFA hFB hC1 hC2 hR1 hR2 hB1 hB2 hB
          go_wp2
          go_loopw [14] (fun v wr => ∃ k : Nat, k ≤ N ∧ v = .int .i64 k ∧ Below w2.heap.size w2 wr) (fun v _ => N - (intOf v).toNat)
          case atStart => exact ⟨0, Nat.zero_le _, rfl, Below.refl _ _⟩
          case round =>
            obtain ⟨k, hk, rfl, hbw⟩ := hrel
            by_cases hlt3 : k < N
            · obtain ⟨x, y, hx, hy, e1, e2, hmem⟩ := HF2.out k hlt3
              obtain ⟨h1, h2, r1, r2⟩ := HC.out
              obtain ⟨b1, o1, rfl, hb1, hcc1⟩ := h1.at_ (by omega)
              obtain ⟨b2, o2, rfl, hb2, hcc2⟩ := h2.at_ (by omega)
              obtain ⟨hw1, hw2⟩ := HJ.out _ hmem
              have c1 : w2.cell? ⟨b1, o1 + k * 2, none⟩ = some (.int .i64 (x.num : Nat)) := by
                have := hcc1 (k * 2) (by omega)
                unfold lcell at this
                rw [show k * 2 / 2 = k by omega, hx, show k * 2 % 2 = 0 by omega] at this
                exact this
              have d1 : w2.cell? ⟨b2, o2 + k * 2, none⟩ = some (.int .i64 (x.num : Nat)) := by
                have := hcc2 (k * 2) (by omega)
                unfold lcell at this
                rw [show k * 2 / 2 = k by omega, hy, show k * 2 % 2 = 0 by omega] at this
                rw [← e1]; exact this
              have HSX : Hid (∀ W, Below w2.heap.size w2 W → Calls Try.prog 14 #[.slice (some ⟨b1, o1 + k * 2, none⟩) 1 (c - k)] W fun e w' => e = .returned (.string ⟨(joinF [x.ws]).toArray⟩) ∧ Below W.heap.size W w') := Lib.hid fun W hW =>
                join_any _ (c - k) [x] W ((cel_one (h1.below hW) hlt3 hx hb1 (fun i hi => (hW.cell (p := ⟨b1, o1 + i, none⟩) hb1).trans (hcc1 i hi))).more hW.size) (fun z hz => by rw [List.mem_singleton] at hz; subst hz; exact (r1.below hW) z (List.mem_of_getElem? hx)) hw2 (fun z hz => by rw [List.mem_singleton] at hz; subst hz; exact hw1)
              have HSY : Hid (∀ W, Below w2.heap.size w2 W → Calls Try.prog 14 #[.slice (some ⟨b2, o2 + k * 2, none⟩) 1 (c2 - k)] W fun e w' => e = .returned (.string ⟨(joinF [x.ws]).toArray⟩) ∧ Below W.heap.size W w') := Lib.hid fun W hW => by
                have h := join_any _ (c2 - k) [y] W ((cel_one (h2.below hW) hlt3 hy hb2 (fun i hi => (hW.cell (p := ⟨b2, o2 + i, none⟩) hb2).trans (hcc2 i hi))).more hW.size) (fun z hz => by rw [List.mem_singleton] at hz; subst hz; exact (r2.below hW) z (List.mem_of_getElem? hy)) (by show (joinF [y.ws]).length ≤ _; rw [e2]; exact hw2) (fun z hz => by rw [List.mem_singleton] at hz; subst hz; rw [e2]; exact hw1)
                have e : [y].map (·.ws) = [x.ws] := by show [y.ws] = _; rw [e2]
                rw [e] at h
                exact h
              generalize (⟨(joinF [x.ws]).toArray⟩ : ByteArray) = SX at *
              generalize x.num = xn at *
              have hS : Hid (∀ W, Below wr.heap.size wr W → W.cell? ⟨b1, o1 + k * 2, none⟩ = some (.int .i64 (xn : Nat)) ∧ W.cell? ⟨b2, o2 + k * 2, none⟩ = some (.int .i64 (xn : Nat))) := Lib.hid fun W hW => by
                have hW2 := hbw.trans (hW.mono hbw.size)
                exact ⟨(hW2.cell (p := ⟨b1, o1 + k * 2, none⟩) hb1).trans c1, (hW2.cell (p := ⟨b2, o2 + k * 2, none⟩) hb2).trans d1⟩
              have HSX2 : Hid (∀ W, Below wr.heap.size wr W → Calls Try.prog 14 #[.slice (some ⟨b1, o1 + k * 2, none⟩) 1 (c - k)] W fun e w' => e = .returned (.string SX) ∧ Below W.heap.size W w') := Lib.hid fun W hW => HSX.out W (hbw.trans (hW.mono hbw.size))
              have HSY2 : Hid (∀ W, Below wr.heap.size wr W → Calls Try.prog 14 #[.slice (some ⟨b2, o2 + k * 2, none⟩) 1 (c2 - k)] W fun e w' => e = .returned (.string SX) ∧ Below W.heap.size W w') := Lib.hid fun W hW => HSY.out W (hbw.trans (hW.mono hbw.size))
              have HBW := Lib.hid hbw
              have i1 : (0 : Int) ≤ (k : Int) := by omega
              have i2 : (k : Int) < (N : Int) := by omega
              have i3 : IntKind.i64.wrap ((k : Int) + 1) = (k : Int) + 1 := IntWalk.i64_in _ (by omega)
              have i4 : (k : Int) ≤ (k : Int) + 1 := by omega
              have i5 : (k : Int) + 1 ≤ (c : Int) := by omega
              have i6 : (k : Int) + 1 ≤ (c2 : Int) := by omega
              have i7 : ((k : Int) + 1).toNat = k + 1 := by omega
              have i8 : ¬ c = k := by omega
              have i9 : ¬ c2 = k := by omega
              have i10 : k + 1 - k = 1 := by omega
              have i11 : (k : Int) + 1 ≤ (N : Int) := by omega
              clear h1 h2 r1 r2 hcc1 hcc2 c1 d1 hx hy e1 e2 hmem hw1 hw2 hbw HSX HSY
              go_wp2
              have hk0 : Below wr.heap.size wr wr.drew := (Below.refl _ wr).drew
              go_region_held3 (fun w' => w'.cell? ⟨b1, o1 + k * 2, none⟩ = some (.int .i64 (xn : Nat)) ∧ w'.cell? ⟨b2, o2 + k * 2, none⟩ = some (.int .i64 (xn : Nat)))
                (first | exact hS.out _ hk2 | exact hS.out _ hk1 | exact hS.out _ hk0 | assumption | go_keep)
                (first
                  | (go_at_call 14
                     (with_reducible refine (HSX2.out _ hk0).mono ?_)
                     rintro e w7 ⟨rfl, hB7⟩
                     have hk1 := hk0.trans (hB7.mono hk0.size))
                  | (go_at_call 14
                     (with_reducible refine (HSY2.out _ hk1).mono ?_)
                     rintro e w8 ⟨rfl, hB8⟩
                     have hk2 := hk1.trans (hB8.mono hk1.size)))
              all_goals go_wp2
              all_goals exact ⟨⟨k + 1, hlt3, by go_num, HBW.out.trans (hk2.mono HBW.out.size)⟩, by simp [intOf]; omega⟩
            · obtain rfl : k = N := by omega
              have i2 : ¬ (k : Int) < (k : Int) := by omega
              have hb0 := HBB.out.trans (hbw.mono HBB.out.size)
              go_wp2_with (go_at_call 13; refine (awake13_any _).mono ?_; rintro e w7 ⟨rfl, hB7⟩)
              go_ret
              exact ⟨rfl, hb0.trans (hB7.mono hb0.size)⟩



set_option maxRecDepth 100000 in
set_option maxHeartbeats 8000000 in
theorem walk_LexNotes {w0 : World} (s : ByteArray) (_ws : s.size ≤ maxLen) (m : ByteArray) (_wm : m.size ≤ maxLen) : Calls Try.prog 5 #[.string s, .string m] w0 fun e w' => e = .returned (.bool true) ∧ Below w0.heap.size w0 w' := by
  by_cases hs : s.size ≤ 1000
  · by_cases hm : m.size ≤ 50
    · by_cases hM : ∀ c ∈ m.data.toList, c ≠ 10
      · by_cases hz : (linesF s.data.toList).2 = 0
        · exact notes_ok s m hs hm hM hz
        · exact notes_bad s m hs hm hM hz
      · exact notes_ten s m hs hm hM
    · have g3 : ¬ (1000 : Int) < (s.size : Int) := by omega
      have g4 : (50 : Int) < (m.size : Int) := by omega
      go_enter Try.func5, Try.ntmps5
      go_wp2
      go_ret
      exact ⟨rfl, Below.refl _ _⟩
  · have g3 : (1000 : Int) < (s.size : Int) := by omega
    go_enter Try.func5, Try.ntmps5
    go_wp2
    go_ret
    exact ⟨rfl, Below.refl _ _⟩

namespace lexNotesRow
open Go.ChangeShapes Go.WideShapes Go.ChangeAt Go.RowKit Go.Joins
open Go.ChangeMaps (open_string shut_string)
set_option linter.unusedVariables false
theorem own : ownKnob Try.prog.godebug = none := by kernel_rfl
theorem laidOut : laidOutB Try.prog = true := by kernel_rfl
set_option maxRecDepth 100000 in
theorem lifted (os : Os) (started : os.Started) (H : Type) (enc : TypeId × Value → H) :
    ReturnsInHanded {} Try.checked os 5 .any (Rows.lexNotesSpec.pre6 enc Try.prog Try.f5 Rows.lexNotesRow.domain false) (Rows.lexNotesSpec.post enc Try.prog Try.f5 false true false false) := by
  refine returnsInHanded_of_change (C := Try.checked) own started (by kernel_rfl) Try.func5
    (ChangeSpec.witness6 (enc := enc) (C := Try.checked) false ⟨#[], #[.string ⟨#[]⟩, .string ⟨#[]⟩], []⟩ 8 (by kernel_rfl) (by kernel_rfl) (by kernel_rfl) (by kernel_rfl)) ?_
  intro W base args ds gs before hval0 hW hcnd _
  have hval : ∀ (j : Nat) t v, Try.f5.params[j]? = some t → args[j]? = some v → Value.okWide Try.prog W .any base t v := hval0
  have hW' := hW
  obtain ⟨p, q, hA0, hV, rfl, hfz, hnd⟩ := hW
  have hA : DataW.TrodAll enc Try.prog W 0 (fun _ => true) true Try.f5.params.toList args.toList ds p := hA0
  rw [Try.params5] at hA hval
  obtain ⟨v0, vs0, d0, ds0, p0, q0, hargs, rfl, rfl, h0, r0⟩ := trodAll_cons hA
  obtain ⟨v1, vs1, d1, ds1, p1, q1, rfl, rfl, rfl, h1, r1⟩ := trodAll_cons r0
  obtain ⟨rfl, rfl, rfl⟩ := trodAll_nil r1
  obtain rfl : args = #[v0, v1] := by cases args; simp_all
  obtain ⟨rfl, rfl⟩ := trodVars_none hV
  have k0 := h0
  have lt0 : ∀ x ∈ p0, x.block < W.heap.size := by obtain ⟨m, hm⟩ := k0; exact DataW.trod_lt m _ _ _ hm
  have k1 := h1
  have lt1 : ∀ x ∈ p1, x.block < W.heap.size := by obtain ⟨m, hm⟩ := k1; exact DataW.trod_lt m _ _ _ hm
  obtain ⟨s0, rfl, rfl, rfl, w0⟩ := open_string Try.underlying9 (hval 0 9 v0 rfl rfl) h0
  obtain ⟨s1, rfl, rfl, rfl, w1⟩ := open_string Try.underlying9 (hval 1 9 v1 rfl rfl) h1
  clear hA0 hval0
  refine (walk_LexNotes (w0 := W) s0 w0 s1 w1).mono fun e W' ⟨he, bel⟩ => ?_
  subst he
  exact ⟨_, rfl, _, _, _, [], _, [], hW', trodAll_mk1 (shut_bool Try.underlying4 _), (trodAll_cons_mk (Below.trod laidOut (by kernel_rfl) (of_decide_eq_true (by kernel_rfl)) k0 bel lt0) (trodAll_cons_mk (Below.trod laidOut (by kernel_rfl) (of_decide_eq_true (by kernel_rfl)) k1 bel lt1) trodAll_mk0)), rfl, bel.frame _, fun h => by cases h⟩

theorem over : Rows.lexNotesRow.holds Try.pinned (OpenSpec.ofChange Rows.lexNotesSpec) :=
  OpenClaim.holds_of_wide 5 Try.f5 rfl rfl rfl rfl rfl rfl rfl ⟨rfl, rfl, rfl, rfl, rfl⟩ rfl rfl rfl rfl rfl (by kernel_rfl) Try.func5 (by kernel_rfl)
    (of_decide_eq_true (by kernel_rfl)) (by unfold Func.isWrapper; first | (rw [if_pos (by decide +kernel)]; kernel_rfl) | (rw [if_neg (by decide +kernel)]; exact ⟨rfl, rfl⟩))
    (fun os started H enc _ => lifted os started H enc)
end lexNotesRow

theorem lexNotes_proved : Rows.LexNotesSaid := lexNotesRow.over
#print axioms lexNotes_proved
end Go.Proofs.Ytieebnninhbdoaa
