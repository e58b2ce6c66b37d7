/-
  For every text of at most 1000 bytes and every line of at most 100 without a line's end: the text with that line behind it has its lines, and that one's, if it counts.
-/
import Derived.Test.YtieebnninhbdoaaTl
import Derived.Test.YtieebnninhbdoaaRows
import Derived.WideShapes
import Derived.ChangeShapes
import Derived.BigQuiet
import Derived.ProofKit
import Derived.OpenShut
import Derived.ShutString
import Derived.ChangeOld
import Derived.Below
import Derived.Lib.SmallJoins
namespace Go.Proofs.Ytieebnninhbdoaa
open Go.RowKit

theorem cat_data (s m : ByteArray) : (s ++ ⟨#[10]⟩ ++ m).data.toList = s.data.toList ++ 10 :: m.data.toList := by simp
theorem cat_size (s m : ByteArray) : (s ++ ⟨#[10]⟩ ++ m).size = s.size + 1 + m.size := by
  have h := congrArg List.length (cat_data s m)
  rw [Array.length_toList, List.length_append, List.length_cons, Array.length_toList, Array.length_toList] at h
  have h' : (s ++ ⟨#[10]⟩ ++ m).size = s.size + (m.size + 1) := h
  omega
theorem mem_take {M : List UInt8} {i : Nat} {b : UInt8} (h : ∀ c ∈ M.take i, c ≠ 10) (hb : M[i]? = some b) (h10 : b ≠ 10) : ∀ c ∈ M.take (i + 1), c ≠ 10 := by
  intro c hc
  rw [List.take_add_one, hb] at hc
  rcases List.mem_append.1 hc with hc | hc
  · exact h c hc
  · have : c = b := by simpa using hc
    rw [this]; exact h10
set_option maxRecDepth 100000 in
set_option maxHeartbeats 8000000 in
theorem more_ten {w0 : World} (s m : ByteArray) (hs : s.size ≤ 1000) (hm : m.size ≤ 100) (hM : ¬ ∀ c ∈ m.data.toList, c ≠ 10) : Calls Try.prog 7 #[.string s, .string m] w0 fun e w' => e = .returned (.bool true) ∧ Below w0.heap.size w0 w' := by
  have hsz : s.data.toList.length = s.size := Array.length_toList
  have hmz : m.data.toList.length = m.size := Array.length_toList
  have g1 : ¬ (1000 : Int) < (s.size : Int) := by omega
  have g2 : ¬ (100 : Int) < (m.size : Int) := by omega
  go_enter Try.func7, Try.ntmps7
  go_wp2
  go_loopw [5] (fun v wr => ∃ i : Nat, i ≤ m.data.toList.length ∧ v = .int .i64 i ∧ wr = w0 ∧ ∀ c ∈ m.data.toList.take i, c ≠ 10) (fun v _ => m.size - (intOf v).toNat)
  case atStart => exact ⟨0, Nat.zero_le _, rfl, rfl, fun c hc => by cases hc⟩
  case round =>
    obtain ⟨i, hi, rfl, hwr, hno⟩ := hrel
    obtain rfl : w0 = wr := hwr.symm
    by_cases hlt : i < m.data.toList.length
    · obtain ⟨b, hb⟩ : ∃ b, m.data.toList[i]? = some b := ⟨_, List.getElem?_eq_getElem hlt⟩
      have hix := fun W => ixStr m i b hb W
      have i1 : (i : Int) < (m.size : Int) := by omega
      have i3 : IntKind.i64.wrap ((i : Int) + 1) = (i : Int) + 1 := IntWalk.i64_in _ (by omega)
      obtain ⟨r, hr⟩ : ∃ r, b.toNat = r := ⟨_, rfl⟩
      rw [hr] at hix
      by_cases h10 : b = 10
      · obtain rfl : r = 10 := by rw [← hr, h10]; rfl
        go_wp2
        go_ret
        exact ⟨rfl, Below.refl _ _⟩
      · have hr10 : r ≠ 10 := fun e => h10 (UInt8.toNat_inj.1 (hr.trans e))
        have i5 : ((r : Int) == 10) = false := beq_eq_false_iff_ne.2 (by omega)
        have HNO := Lib.hid (mem_take hno hb h10)
        clear hno
        go_wp2
        exact ⟨⟨i + 1, hlt, by go_num, trivial, HNO.out⟩, by simp [intOf]; omega⟩
    · exact absurd (fun c hc => hno c (by rw [List.take_of_length_le (by omega)]; exact hc)) hM

set_option maxRecDepth 100000 in
set_option maxHeartbeats 8000000 in
theorem more_bad {w0 : World} (s m : ByteArray) (hs : s.size ≤ 1000) (hm : m.size ≤ 100) (hM : ∀ c ∈ m.data.toList, c ≠ 10) (hz : (linesF s.data.toList).2 ≠ 0) : Calls Try.prog 7 #[.string s, .string m] w0 fun e w' => e = .returned (.bool true) ∧ Below w0.heap.size w0 w' := by
  have hsz : s.data.toList.length = s.size := Array.length_toList
  have hmz : m.data.toList.length = m.size := Array.length_toList
  have g1 : ¬ (1000 : Int) < (s.size : Int) := by omega
  have g2 : ¬ (100 : Int) < (m.size : Int) := by omega
  have hlm := lines_more s.data.toList m.data.toList hM
  rw [if_neg hz] at hlm
  have HA := Lib.hid (fun W => lines_noL s (by omega) hz W)
  have HB := Lib.hid (fun W => lines_some m (by omega) W)
  have HC := Lib.hid (fun W => lines_noL (s ++ ⟨#[10]⟩ ++ m) (by rw [cat_size]; omega) (by rw [cat_data, hlm]; exact hz) W)
  rw [cat_data, hlm] at HC
  generalize (linesF s.data.toList).2 = nn at *
  clear hlm
  go_enter Try.func7, Try.ntmps7
  go_wp2
  go_loopw [5] (fun v wr => ∃ i : Nat, i ≤ m.data.toList.length ∧ v = .int .i64 i ∧ wr = w0) (fun v _ => m.size - (intOf v).toNat)
  case atStart => exact ⟨0, Nat.zero_le _, rfl, rfl⟩
  case round =>
    obtain ⟨i, hi, rfl, hwr⟩ := hrel
    obtain rfl : w0 = wr := hwr.symm
    by_cases hlt : i < m.data.toList.length
    · obtain ⟨b, hb⟩ : ∃ b, m.data.toList[i]? = some b := ⟨_, List.getElem?_eq_getElem hlt⟩
      have hix := fun W => ixStr m i b hb W
      have i1 : (i : Int) < (m.size : Int) := by omega
      have i3 : IntKind.i64.wrap ((i : Int) + 1) = (i : Int) + 1 := IntWalk.i64_in _ (by omega)
      obtain ⟨r, hr⟩ : ∃ r, b.toNat = r := ⟨_, rfl⟩
      rw [hr] at hix
      by_cases h10 : b = 10
      · exact absurd h10 (hM b (List.mem_of_getElem? hb))
      · have hr10 : r ≠ 10 := fun e => h10 (UInt8.toNat_inj.1 (hr.trans e))
        have i5 : ((r : Int) == 10) = false := beq_eq_false_iff_ne.2 (by omega)
        go_wp2
        exact ⟨⟨i + 1, hlt, by go_num, trivial⟩, by simp [intOf]; omega⟩
    · have i1 : ¬ (i : Int) < (m.size : Int) := by omega
      go_wp2_with fail
      refine (HA.out _).mono ?_
      rintro e w1 ⟨rfl, hB1⟩
      go_wp2_with fail
      refine (HB.out _).mono ?_
      rintro e w2 ⟨A2, n2, c2, k2, x2, rfl, hB2⟩
      go_wp2_with fail
      refine (HC.out _).mono ?_
      rintro e w3 ⟨rfl, hB3⟩
      have b1 := hB1.size
      have b2 := hB2.size
      have b3 := hB3.size
      have hB : Below w0.heap.size w0 w3 := (hB1.trans (hB2.mono b1)).trans (hB3.mono (by omega))
      go_wp2
      clear hM
      go_loopw [15, 16] (fun u v wr => ∃ j : Nat, j ≤ s.data.toList.length ∧ v = .int .i64 j ∧ u = .int .i64 ((lns (s.data.toList.take j)).length : Nat) ∧ wr = w3) (fun _ v _ => s.size - (intOf v).toNat)
      case atStart => exact ⟨0, Nat.zero_le _, rfl, rfl, rfl⟩
      case round =>
        obtain ⟨j, hj, rfl, rfl, hwr⟩ := hrel
        obtain rfl : w3 = wr := hwr.symm
        by_cases hlt2 : j < s.data.toList.length
        · obtain ⟨b, hb⟩ : ∃ b, s.data.toList[j]? = some b := ⟨_, List.getElem?_eq_getElem hlt2⟩
          have hix := fun W => ixStr s j b hb W
          have j1 : (j : Int) < (s.size : Int) := by omega
          have j3 : IntKind.i64.wrap ((j : Int) + 1) = (j : Int) + 1 := IntWalk.i64_in _ (by omega)
          have hms := many_step s.data.toList j b hb
          have hml := (lns_length (s.data.toList.take j)).2
          have htl := List.length_take_le j s.data.toList
          generalize (lns (s.data.toList.take j)).length = mj at *
          have j4 : IntKind.i64.wrap ((mj : Int) + 1) = (mj : Int) + 1 := IntWalk.i64_in _ (by omega)
          have HMS := Lib.hid hms
          clear hms
          obtain ⟨r, hr⟩ : ∃ r, b.toNat = r := ⟨_, rfl⟩
          rw [hr] at hix
          by_cases h10 : b = 10
          · obtain rfl : r = 10 := by rw [← hr, h10]; rfl
            go_wp2
            refine ⟨⟨j + 1, hlt2, by go_num, ?_, trivial⟩, by simp [intOf]; omega⟩
            rw [HMS.out, if_pos h10]
            go_num
          · have hr10 : r ≠ 10 := fun e => h10 (UInt8.toNat_inj.1 (hr.trans e))
            have j5 : ((r : Int) == 10) = false := beq_eq_false_iff_ne.2 (by omega)
            go_wp2
            refine ⟨⟨j + 1, hlt2, by go_num, ?_, trivial⟩, by simp [intOf]; omega⟩
            rw [HMS.out, if_neg h10]
            rfl
        · obtain rfl : j = s.data.toList.length := by omega
          have j1 : ¬ ((s.data.toList.length : Nat) : Int) < (s.size : Int) := by omega
          rw [List.take_of_length_le (Nat.le_refl _)]
          have hml := (lns_length s.data.toList).2
          obtain ⟨mj, hmj⟩ : ∃ mj, (lns s.data.toList).length = mj := ⟨_, rfl⟩
          rw [hmj] at hml ⊢
          have j4 : IntKind.i64.wrap ((mj : Int) + 1) = (mj : Int) + 1 := IntWalk.i64_in _ (by omega)
          go_wp2_with (go_at_call 13; refine (awake13_any _).mono ?_; rintro e w7 ⟨rfl, hB7⟩)
          go_ret
          exact ⟨rfl, hB.trans (hB7.mono hB.size)⟩



set_option maxRecDepth 100000 in
set_option maxHeartbeats 8000000 in
theorem more_wrong {w0 : World} (s m : ByteArray) (hs : s.size ≤ 1000) (hm : m.size ≤ 100) (hM : ∀ c ∈ m.data.toList, c ≠ 10) (hz : (linesF s.data.toList).2 = 0) (hb : (nb m.data.toList).all okS = false) : Calls Try.prog 7 #[.string s, .string m] w0 fun e w' => e = .returned (.bool true) ∧ Below w0.heap.size w0 w' := by
  have hsz : s.data.toList.length = s.size := Array.length_toList
  have hmz : m.data.toList.length = m.size := Array.length_toList
  have g1 : ¬ (1000 : Int) < (s.size : Int) := by omega
  have g2 : ¬ (100 : Int) < (m.size : Int) := by omega
  have hlm := lines_more s.data.toList m.data.toList hM
  have hll := lines_lone m.data.toList hM
  rw [if_pos hz, scan_one, hb, if_neg (by decide)] at hlm
  rw [scan_one, hb, if_neg (by decide)] at hll
  have HA := Lib.hid (fun W => lines_okL s (by omega) hz W)
  have HB := Lib.hid (fun W => lines_noL m (by omega) (by rw [hll]; decide) W)
  have HC := Lib.hid (fun W => lines_noL (s ++ ⟨#[10]⟩ ++ m) (by rw [cat_size]; omega) (by rw [cat_data, hlm]; exact Nat.succ_ne_zero _) W)
  rw [hll] at HB
  rw [cat_data, hlm] at HC
  clear hlm hll hz
  go_enter Try.func7, Try.ntmps7
  go_wp2
  go_loopw [5] (fun v wr => ∃ i : Nat, i ≤ m.data.toList.length ∧ v = .int .i64 i ∧ wr = w0) (fun v _ => m.size - (intOf v).toNat)
  case atStart => exact ⟨0, Nat.zero_le _, rfl, rfl⟩
  case round =>
    obtain ⟨i, hi, rfl, hwr⟩ := hrel
    obtain rfl : w0 = wr := hwr.symm
    by_cases hlt : i < m.data.toList.length
    · obtain ⟨b, hb⟩ : ∃ b, m.data.toList[i]? = some b := ⟨_, List.getElem?_eq_getElem hlt⟩
      have hix := fun W => ixStr m i b hb W
      have i1 : (i : Int) < (m.size : Int) := by omega
      have i3 : IntKind.i64.wrap ((i : Int) + 1) = (i : Int) + 1 := IntWalk.i64_in _ (by omega)
      obtain ⟨r, hr⟩ : ∃ r, b.toNat = r := ⟨_, rfl⟩
      rw [hr] at hix
      by_cases h10 : b = 10
      · exact absurd h10 (hM b (List.mem_of_getElem? hb))
      · have hr10 : r ≠ 10 := fun e => h10 (UInt8.toNat_inj.1 (hr.trans e))
        have i5 : ((r : Int) == 10) = false := beq_eq_false_iff_ne.2 (by omega)
        go_wp2
        exact ⟨⟨i + 1, hlt, by go_num, trivial⟩, by simp [intOf]; omega⟩
    · have i1 : ¬ (i : Int) < (m.size : Int) := by omega
      go_wp2_with fail
      refine (HA.out _).mono ?_
      rintro e w1 ⟨A, c, ls, rfl, hF, hB1⟩
      go_wp2_with fail
      refine (HB.out _).mono ?_
      rintro e w2 ⟨rfl, hB2⟩
      go_wp2_with fail
      refine (HC.out _).mono ?_
      rintro e w3 ⟨rfl, hB3⟩
      have b1 := hB1.size
      have b2 := hB2.size
      have b3 := hB3.size
      have hB : Below w0.heap.size w0 w3 := (hB1.trans (hB2.mono b1)).trans (hB3.mono (by omega))
      go_wp2
      clear hM hF
      go_loopw [15, 16] (fun u v wr => ∃ j : Nat, j ≤ s.data.toList.length ∧ v = .int .i64 j ∧ u = .int .i64 ((lns (s.data.toList.take j)).length : Nat) ∧ wr = w3) (fun _ v _ => s.size - (intOf v).toNat)
      case atStart => exact ⟨0, Nat.zero_le _, rfl, rfl, rfl⟩
      case round =>
        obtain ⟨j, hj, rfl, rfl, hwr⟩ := hrel
        obtain rfl : w3 = wr := hwr.symm
        by_cases hlt2 : j < s.data.toList.length
        · obtain ⟨b, hb⟩ : ∃ b, s.data.toList[j]? = some b := ⟨_, List.getElem?_eq_getElem hlt2⟩
          have hix := fun W => ixStr s j b hb W
          have j1 : (j : Int) < (s.size : Int) := by omega
          have j3 : IntKind.i64.wrap ((j : Int) + 1) = (j : Int) + 1 := IntWalk.i64_in _ (by omega)
          have hms := many_step s.data.toList j b hb
          have hml := (lns_length (s.data.toList.take j)).2
          have htl := List.length_take_le j s.data.toList
          generalize (lns (s.data.toList.take j)).length = mj at *
          have j4 : IntKind.i64.wrap ((mj : Int) + 1) = (mj : Int) + 1 := IntWalk.i64_in _ (by omega)
          have HMS := Lib.hid hms
          clear hms
          obtain ⟨r, hr⟩ : ∃ r, b.toNat = r := ⟨_, rfl⟩
          rw [hr] at hix
          by_cases h10 : b = 10
          · obtain rfl : r = 10 := by rw [← hr, h10]; rfl
            go_wp2
            refine ⟨⟨j + 1, hlt2, by go_num, ?_, trivial⟩, by simp [intOf]; omega⟩
            rw [HMS.out, if_pos h10]
            go_num
          · have hr10 : r ≠ 10 := fun e => h10 (UInt8.toNat_inj.1 (hr.trans e))
            have j5 : ((r : Int) == 10) = false := beq_eq_false_iff_ne.2 (by omega)
            go_wp2
            refine ⟨⟨j + 1, hlt2, by go_num, ?_, trivial⟩, by simp [intOf]; omega⟩
            rw [HMS.out, if_neg h10]
            rfl
        · obtain rfl : j = s.data.toList.length := by omega
          have j1 : ¬ ((s.data.toList.length : Nat) : Int) < (s.size : Int) := by omega
          rw [List.take_of_length_le (Nat.le_refl _)]
          have hml := (lns_length s.data.toList).2
          obtain ⟨mj, hmj⟩ : ∃ mj, (lns s.data.toList).length = mj := ⟨_, rfl⟩
          rw [hmj] at hml ⊢
          have j4 : IntKind.i64.wrap ((mj : Int) + 1) = (mj : Int) + 1 := IntWalk.i64_in _ (by omega)
          have e1 : ((nl s.data.toList + 1 : Nat) : Int) = (mj : Int) + 1 := by rw [← hmj]; rfl
          
          go_wp2_with (go_at_call 13; refine (awake13_any _).mono ?_; rintro e w7 ⟨rfl, hB7⟩)
          go_ret
          exact ⟨rfl, hB.trans (hB7.mono hB.size)⟩



/-- What Lines tells of a text that is right, by its lines. -/
def OkN (W : World) (P : List (Nat × List (List UInt8))) (N : Nat) (e : Ending) (w' : World) : Prop :=
  ∃ A c ls, e = .returned (.tuple #[.slice A N c, .int .i64 0, .int .i64 0]) ∧ ((ls.length = N ∧ ls.map Ln.tell = P) ∧ Cel w' w'.heap.size 2 A N c (lcell ls) ∧ LR w' ls) ∧ Below W.heap.size W w'
theorem lines_okN (s : ByteArray) (hs : s.size ≤ 65536) (P : List (Nat × List (List UInt8))) (h : linesF s.data.toList = (P, 0)) (N : Nat) (hN : P.length = N) (W : World) : Calls Try.prog 10 #[.string s] W (OkN W P N) :=
  (lines_okL s hs (by rw [h]) W).mono fun e w' hh => by
    obtain ⟨A, c, ls, he, ⟨h1, h2, h3⟩, hb⟩ := hh
    rw [h] at h1
    have hl : ls.length = N := by
      have h4 := congrArg List.length h1
      rw [List.length_map] at h4
      exact h4.trans hN
    have h2' := h2.cel
    rw [hl] at h2' he
    exact ⟨A, c, ls, he, ⟨⟨hl, h1⟩, h2', h3⟩, hb⟩
theorem join_okN (A : Option Addr) (c N : Nat) (ls : List Ln) (P : List (Nat × List (List UInt8))) (hl : ls.length = N) (hP : ls.map Ln.tell = P) (hb : ∀ p ∈ P, p.2.length ≤ 65536) (hj : (joinF (P.map (·.2))).length ≤ 65536) (W : World) (h1 : Cel W W.heap.size 2 A N c (lcell ls)) (h2 : LR W ls) :
    Calls Try.prog 14 #[.slice A N c] W fun e w' => e = .returned (.string ⟨(joinF (P.map (·.2))).toArray⟩) ∧ Below W.heap.size W w' := by
  have h := join_any A c ls W (by rw [hl]; exact h1) h2 (by rw [tell_ws, hP]; omega) (fun x hx => by
    have := hb x.tell (by rw [← hP]; exact List.mem_map_of_mem hx)
    have e : x.tell.2 = x.ws := rfl
    rw [e] at this
    omega)
  rw [tell_ws, hP, hl] at h
  exact h
theorem wds_bd (L : List UInt8) (hL : L.length ≤ 65536) : ∀ p ∈ (linesF L).1, p.2.length ≤ 65536 := fun p hp => by
  have h := scan_le L.length (lns L) 1 [] (fun l hl => lns_mem L l hl) (fun y hy => by cases hy) p hp
  omega
theorem byte_cat (a b : List UInt8) : (⟨(a ++ b).toArray⟩ : ByteArray) = ⟨a.toArray⟩ ++ ⟨b.toArray⟩ := byte_ext (by simp)
set_option maxRecDepth 100000 in
set_option maxHeartbeats 8000000 in
theorem more_none {w0 : World} (s m : ByteArray) (hs : s.size ≤ 1000) (hm : m.size ≤ 100) (hM : ∀ c ∈ m.data.toList, c ≠ 10) (hz : (linesF s.data.toList).2 = 0) (hb : (nb m.data.toList).all okS = true) (hwd : wds (nb m.data.toList) = []) : Calls Try.prog 7 #[.string s, .string m] w0 fun e w' => e = .returned (.bool true) ∧ Below w0.heap.size w0 w' := by
  have hsz : s.data.toList.length = s.size := Array.length_toList
  have hmz : m.data.toList.length = m.size := Array.length_toList
  have g1 : ¬ (1000 : Int) < (s.size : Int) := by omega
  have g2 : ¬ (100 : Int) < (m.size : Int) := by omega
  have hlm := lines_more s.data.toList m.data.toList hM
  have hll := lines_lone m.data.toList hM
  rw [if_pos hz, scan_one, hb, if_pos rfl, if_pos hwd] at hlm
  rw [scan_one, hb, if_pos rfl, if_pos hwd] at hll
  have hla : linesF s.data.toList = ((linesF s.data.toList).1, 0) := by rw [← hz]
  have hbA := wds_bd s.data.toList (by omega)
  have hbB := wds_bd m.data.toList (by omega)
  have hlC : (s ++ ⟨#[10]⟩ ++ m).data.toList.length ≤ 1101 := by rw [cat_data, List.length_append, List.length_cons]; omega
  have hbC := wds_bd (s ++ ⟨#[10]⟩ ++ m).data.toList (by omega)
  have hjA := joinF_len s.data.toList
  have hjB := joinF_len m.data.toList
  have hjC := joinF_len (s ++ ⟨#[10]⟩ ++ m).data.toList
  have hlm' : linesF (s ++ ⟨#[10]⟩ ++ m).data.toList = ((linesF s.data.toList).1, 0) := by rw [cat_data, hlm]
  rw [hlm'] at hbC hjC
  rw [hll] at hbB hjB
  replace hbB : ∀ p ∈ ([] : List (Nat × List (List UInt8))), p.2.length ≤ 65536 := hbB
  replace hjB : (joinF (([] : List (Nat × List (List UInt8))).map (·.2))).length ≤ 2 * m.data.toList.length + 2 := hjB
  replace hbC : ∀ p ∈ ((linesF s.data.toList).1 : List (Nat × List (List UInt8))), p.2.length ≤ 65536 := hbC
  replace hjC : (joinF (((linesF s.data.toList).1 : List (Nat × List (List UInt8))).map (·.2))).length ≤ 2 * (s ++ ⟨#[10]⟩ ++ m).data.toList.length + 2 := hjC
  have hNle : (linesF s.data.toList).1.length ≤ s.data.toList.length + 1 := by
    have h1 := scan_len (lns s.data.toList) 1 []
    have h2 := (lns_length s.data.toList).2
    have h3 : scan 1 (lns s.data.toList) [] = linesF s.data.toList := rfl
    rw [h3] at h1
    simp only [List.length_nil] at h1
    omega
  obtain ⟨P, hP⟩ : ∃ P, (linesF s.data.toList).1 = P := ⟨_, rfl⟩
  rw [hP] at hla hbA hbC hjA hjC hlm' hNle
  obtain ⟨N, hN⟩ : ∃ N, P.length = N := ⟨_, rfl⟩
  rw [hN] at hNle
  have HA := Lib.hid (fun W => lines_okN s (by omega) P hla N hN W)
  have HB := Lib.hid (fun W => lines_okN m (by omega) [] hll 0 rfl W)
  have HC := Lib.hid (fun W => lines_okN (s ++ ⟨#[10]⟩ ++ m) (by rw [cat_size]; omega) P hlm' N hN W)
  obtain ⟨SA, hSA⟩ : ∃ SA : ByteArray, ⟨(joinF (P.map (·.2))).toArray⟩ = SA := ⟨_, rfl⟩
  obtain ⟨SB, hSB⟩ : ∃ SB : ByteArray, ⟨(joinF (([] : List (Nat × List (List UInt8))).map (·.2))).toArray⟩ = SB := ⟨_, rfl⟩
  have hSC : (⟨(joinF (P.map (·.2))).toArray⟩ : ByteArray) = SA ++ SB := by
    rw [← hSA, ← hSB, ← byte_cat, ← joinF_append]; rw [List.map_nil, List.append_nil]
  have HJA : Hid (∀ A c ls W, ls.length = N → ls.map Ln.tell = P → Cel W W.heap.size 2 A N c (lcell ls) → LR W ls → Calls Try.prog 14 #[.slice A N c] W fun e w' => e = .returned (.string SA) ∧ Below W.heap.size W w') := Lib.hid fun A c ls W h1 h2 h3 h4 => by
    have h := join_okN A c N ls P h1 h2 hbA (by omega) W h3 h4
    rw [hSA] at h
    exact h
  have HJB : Hid (∀ A c ls W, ls.length = 0 → ls.map Ln.tell = [] → Cel W W.heap.size 2 A 0 c (lcell ls) → LR W ls → Calls Try.prog 14 #[.slice A 0 c] W fun e w' => e = .returned (.string SB) ∧ Below W.heap.size W w') := Lib.hid fun A c ls W h1 h2 h3 h4 => by
    have h := join_okN A c 0 ls [] h1 h2 hbB (by omega) W h3 h4
    rw [hSB] at h
    exact h
  have HJC : Hid (∀ A c ls W, ls.length = N → ls.map Ln.tell = P → Cel W W.heap.size 2 A N c (lcell ls) → LR W ls → Calls Try.prog 14 #[.slice A N c] W fun e w' => e = .returned (.string (SA ++ SB)) ∧ Below W.heap.size W w') := Lib.hid fun A c ls W h1 h2 h3 h4 => by
    have h := join_okN A c N ls P h1 h2 hbC (by omega) W h3 h4
    rw [hSC] at h
    exact h
  have hsA : SA.size ≤ 65536 := by
    rw [← hSA]
    show (joinF (P.map (·.2))).toArray.size ≤ 65536
    rw [List.size_toArray]
    omega
  have hsB : SB.size ≤ 65536 := by
    rw [← hSB]
    show (joinF (([] : List (Nat × List (List UInt8))).map (·.2))).toArray.size ≤ 65536
    rw [List.size_toArray]
    omega
  have n1 : IntKind.i64.wrap (N : Int) = N := IntWalk.i64_in _ (by omega)
  have n2 : IntKind.i64.wrap ((N : Int) + 1) = (N : Int) + 1 := IntWalk.i64_in _ (by omega)
  have HN := Lib.hid hN
  have HP := Lib.hid hP
  clear hlm hll hz hla hbA hbB hbC hjA hjB hjC hlC hlm' hSA hSB hSC
  go_enter Try.func7, Try.ntmps7
  go_wp2
  go_loopw [5] (fun v wr => ∃ i : Nat, i ≤ m.data.toList.length ∧ v = .int .i64 i ∧ wr = w0) (fun v _ => m.size - (intOf v).toNat)
  case atStart => exact ⟨0, Nat.zero_le _, rfl, rfl⟩
  case round =>
    obtain ⟨i, hi, rfl, hwr⟩ := hrel
    obtain rfl : w0 = wr := hwr.symm
    by_cases hlt : i < m.data.toList.length
    · obtain ⟨b, hb⟩ : ∃ b, m.data.toList[i]? = some b := ⟨_, List.getElem?_eq_getElem hlt⟩
      have hix := fun W => ixStr m i b hb W
      have i1 : (i : Int) < (m.size : Int) := by omega
      have i3 : IntKind.i64.wrap ((i : Int) + 1) = (i : Int) + 1 := IntWalk.i64_in _ (by omega)
      obtain ⟨r, hr⟩ : ∃ r, b.toNat = r := ⟨_, rfl⟩
      rw [hr] at hix
      by_cases h10 : b = 10
      · exact absurd h10 (hM b (List.mem_of_getElem? hb))
      · have hr10 : r ≠ 10 := fun e => h10 (UInt8.toNat_inj.1 (hr.trans e))
        have i5 : ((r : Int) == 10) = false := beq_eq_false_iff_ne.2 (by omega)
        go_wp2
        exact ⟨⟨i + 1, hlt, by go_num, trivial⟩, by simp [intOf]; omega⟩
    · have i1 : ¬ (i : Int) < (m.size : Int) := by omega
      go_wp2_with fail
      refine (HA.out _).mono ?_
      rintro e w1 ⟨A, c, la, rfl, hFA, hB1⟩
      go_wp2_with fail
      refine (HB.out _).mono ?_
      rintro e w2 ⟨A2, c2, lb, rfl, hFB, hB2⟩
      go_wp2_with fail
      refine (HC.out _).mono ?_
      rintro e w3 ⟨A3, c3, lc, rfl, hFC, hB3⟩
      have b1 := hB1.size
      have b2 := hB2.size
      have b3 := hB3.size
      have hB : Below w0.heap.size w0 w3 := (hB1.trans (hB2.mono b1)).trans (hB3.mono (by omega))
      have HFA := Lib.hid (And.intro hFA.1 (And.intro ((hFA.2.1.below hB2).below (hB3.mono b2)) ((hFA.2.2.below hB2).below hB3)))
      have HFB := Lib.hid (And.intro hFB.1 (And.intro (hFB.2.1.below hB3) (hFB.2.2.below hB3)))
      have HFC := Lib.hid hFC
      clear hFA hFB hFC hM
      go_wp2
      go_loopw [15, 16] (fun u v wr => ∃ j : Nat, j ≤ s.data.toList.length ∧ v = .int .i64 j ∧ u = .int .i64 ((lns (s.data.toList.take j)).length : Nat) ∧ wr = w3) (fun _ v _ => s.size - (intOf v).toNat)
      case atStart => exact ⟨0, Nat.zero_le _, rfl, rfl, rfl⟩
      case round =>
        obtain ⟨j, hj, rfl, rfl, hwr⟩ := hrel
        obtain rfl : w3 = wr := hwr.symm
        by_cases hlt2 : j < s.data.toList.length
        · obtain ⟨b, hb⟩ : ∃ b, s.data.toList[j]? = some b := ⟨_, List.getElem?_eq_getElem hlt2⟩
          have hix := fun W => ixStr s j b hb W
          have j1 : (j : Int) < (s.size : Int) := by omega
          have j3 : IntKind.i64.wrap ((j : Int) + 1) = (j : Int) + 1 := IntWalk.i64_in _ (by omega)
          have hms := many_step s.data.toList j b hb
          have hml := (lns_length (s.data.toList.take j)).2
          have htl := List.length_take_le j s.data.toList
          generalize (lns (s.data.toList.take j)).length = mj at *
          have j4 : IntKind.i64.wrap ((mj : Int) + 1) = (mj : Int) + 1 := IntWalk.i64_in _ (by omega)
          have HMS := Lib.hid hms
          clear hms
          obtain ⟨r, hr⟩ : ∃ r, b.toNat = r := ⟨_, rfl⟩
          rw [hr] at hix
          by_cases h10 : b = 10
          · obtain rfl : r = 10 := by rw [← hr, h10]; rfl
            go_wp2
            refine ⟨⟨j + 1, hlt2, by go_num, ?_, trivial⟩, by simp [intOf]; omega⟩
            rw [HMS.out, if_pos h10]
            go_num
          · have hr10 : r ≠ 10 := fun e => h10 (UInt8.toNat_inj.1 (hr.trans e))
            have j5 : ((r : Int) == 10) = false := beq_eq_false_iff_ne.2 (by omega)
            go_wp2
            refine ⟨⟨j + 1, hlt2, by go_num, ?_, trivial⟩, by simp [intOf]; omega⟩
            rw [HMS.out, if_neg h10]
            rfl
        · obtain rfl : j = s.data.toList.length := by omega
          have j1 : ¬ ((s.data.toList.length : Nat) : Int) < (s.size : Int) := by omega
          rw [List.take_of_length_le (Nat.le_refl _)]
          have hml := (lns_length s.data.toList).2
          obtain ⟨mj, hmj⟩ : ∃ mj, (lns s.data.toList).length = mj := ⟨_, rfl⟩
          rw [hmj] at hml ⊢
          have j4 : IntKind.i64.wrap ((mj : Int) + 1) = (mj : Int) + 1 := IntWalk.i64_in _ (by omega)
          go_wp2_with fail
          refine (HJC.out _ c3 lc w3 HFC.out.1.1 HFC.out.1.2 HFC.out.2.1 HFC.out.2.2).mono ?_
          rintro e w4 ⟨rfl, hB4⟩
          go_wp2_with fail
          have b4 := hB4.size
          refine (HJA.out _ c la w4 HFA.out.1.1 HFA.out.1.2 ((HFA.out.2.1.below (hB4.mono (by omega))).more (by omega)) (HFA.out.2.2.below hB4)).mono ?_
          rintro e w5 ⟨rfl, hB5⟩
          go_wp2_with fail
          have b5 := hB5.size
          refine (HJB.out _ c2 lb w5 HFB.out.1.1 HFB.out.1.2 (((HFB.out.2.1.below (hB4.mono (by omega))).below (hB5.mono (by omega))).more (by omega)) ((HFB.out.2.2.below hB4).below hB5)).mono ?_
          rintro e w6 ⟨rfl, hB6⟩
          have b6 := hB6.size
          have hB36 : Below w3.heap.size w3 w6 := (hB4.trans (hB5.mono b4)).trans (hB6.mono (by omega))
          go_wp2_with (go_at_call 13; refine (awake13_any _).mono ?_; rintro e w7 ⟨rfl, hB7⟩)
          go_ret
          have hB06 := hB.trans (hB36.mono hB.size)
          exact ⟨rfl, hB06.trans (hB7.mono hB06.size)⟩



set_option maxRecDepth 100000 in
set_option maxHeartbeats 8000000 in
theorem more_one {w0 : World} (s m : ByteArray) (hs : s.size ≤ 1000) (hm : m.size ≤ 100) (hM : ∀ c ∈ m.data.toList, c ≠ 10) (hz : (linesF s.data.toList).2 = 0) (hb : (nb m.data.toList).all okS = true) (hwd : wds (nb m.data.toList) ≠ []) : Calls Try.prog 7 #[.string s, .string m] w0 fun e w' => e = .returned (.bool true) ∧ Below w0.heap.size w0 w' := by
  have hsz : s.data.toList.length = s.size := Array.length_toList
  have hmz : m.data.toList.length = m.size := Array.length_toList
  have g1 : ¬ (1000 : Int) < (s.size : Int) := by omega
  have g2 : ¬ (100 : Int) < (m.size : Int) := by omega
  have hlm := lines_more s.data.toList m.data.toList hM
  have hll := lines_lone m.data.toList hM
  rw [if_pos hz, scan_one, hb, if_pos rfl, if_neg hwd] at hlm
  rw [scan_one, hb, if_pos rfl, if_neg hwd] at hll
  have hla : linesF s.data.toList = ((linesF s.data.toList).1, 0) := by rw [← hz]
  have hbA := wds_bd s.data.toList (by omega)
  have hbB := wds_bd m.data.toList (by omega)
  have hlC : (s ++ ⟨#[10]⟩ ++ m).data.toList.length ≤ 1101 := by rw [cat_data, List.length_append, List.length_cons]; omega
  have hbC := wds_bd (s ++ ⟨#[10]⟩ ++ m).data.toList (by omega)
  have hjA := joinF_len s.data.toList
  have hjB := joinF_len m.data.toList
  have hjC := joinF_len (s ++ ⟨#[10]⟩ ++ m).data.toList
  have hlm' : linesF (s ++ ⟨#[10]⟩ ++ m).data.toList = (((linesF s.data.toList).1 ++ [(nl s.data.toList + 1, wds (nb m.data.toList))]), 0) := by rw [cat_data, hlm]
  rw [hlm'] at hbC hjC
  rw [hll] at hbB hjB
  replace hbB : ∀ p ∈ ([(1, wds (nb m.data.toList))] : List (Nat × List (List UInt8))), p.2.length ≤ 65536 := hbB
  replace hjB : (joinF (([(1, wds (nb m.data.toList))] : List (Nat × List (List UInt8))).map (·.2))).length ≤ 2 * m.data.toList.length + 2 := hjB
  replace hbC : ∀ p ∈ (((linesF s.data.toList).1 ++ [(nl s.data.toList + 1, wds (nb m.data.toList))]) : List (Nat × List (List UInt8))), p.2.length ≤ 65536 := hbC
  replace hjC : (joinF ((((linesF s.data.toList).1 ++ [(nl s.data.toList + 1, wds (nb m.data.toList))]) : List (Nat × List (List UInt8))).map (·.2))).length ≤ 2 * (s ++ ⟨#[10]⟩ ++ m).data.toList.length + 2 := hjC
  have hNle : (linesF s.data.toList).1.length ≤ s.data.toList.length + 1 := by
    have h1 := scan_len (lns s.data.toList) 1 []
    have h2 := (lns_length s.data.toList).2
    have h3 : scan 1 (lns s.data.toList) [] = linesF s.data.toList := rfl
    rw [h3] at h1
    simp only [List.length_nil] at h1
    omega
  obtain ⟨P, hP⟩ : ∃ P, (linesF s.data.toList).1 = P := ⟨_, rfl⟩
  rw [hP] at hla hbA hbC hjA hjC hlm' hNle
  obtain ⟨N, hN⟩ : ∃ N, P.length = N := ⟨_, rfl⟩
  rw [hN] at hNle
  have HA := Lib.hid (fun W => lines_okN s (by omega) P hla N hN W)
  have HB := Lib.hid (fun W => lines_okN m (by omega) [(1, wds (nb m.data.toList))] hll 1 rfl W)
  have HC := Lib.hid (fun W => lines_okN (s ++ ⟨#[10]⟩ ++ m) (by rw [cat_size]; omega) (P ++ [(nl s.data.toList + 1, wds (nb m.data.toList))]) hlm' (N + 1) (by rw [List.length_append, hN]; rfl) W)
  obtain ⟨SA, hSA⟩ : ∃ SA : ByteArray, ⟨(joinF (P.map (·.2))).toArray⟩ = SA := ⟨_, rfl⟩
  obtain ⟨SB, hSB⟩ : ∃ SB : ByteArray, ⟨(joinF (([(1, wds (nb m.data.toList))] : List (Nat × List (List UInt8))).map (·.2))).toArray⟩ = SB := ⟨_, rfl⟩
  have hSC : (⟨(joinF ((P ++ [(nl s.data.toList + 1, wds (nb m.data.toList))]).map (·.2))).toArray⟩ : ByteArray) = SA ++ SB := by
    rw [← hSA, ← hSB, ← byte_cat, ← joinF_append]; rw [List.map_append]; rfl
  have HJA : Hid (∀ A c ls W, ls.length = N → ls.map Ln.tell = P → Cel W W.heap.size 2 A N c (lcell ls) → LR W ls → Calls Try.prog 14 #[.slice A N c] W fun e w' => e = .returned (.string SA) ∧ Below W.heap.size W w') := Lib.hid fun A c ls W h1 h2 h3 h4 => by
    have h := join_okN A c N ls P h1 h2 hbA (by omega) W h3 h4
    rw [hSA] at h
    exact h
  have HJB : Hid (∀ A c ls W, ls.length = 1 → ls.map Ln.tell = [(1, wds (nb m.data.toList))] → Cel W W.heap.size 2 A 1 c (lcell ls) → LR W ls → Calls Try.prog 14 #[.slice A 1 c] W fun e w' => e = .returned (.string SB) ∧ Below W.heap.size W w') := Lib.hid fun A c ls W h1 h2 h3 h4 => by
    have h := join_okN A c 1 ls [(1, wds (nb m.data.toList))] h1 h2 hbB (by omega) W h3 h4
    rw [hSB] at h
    exact h
  have HJC : Hid (∀ A c ls W, ls.length = (N + 1) → ls.map Ln.tell = (P ++ [(nl s.data.toList + 1, wds (nb m.data.toList))]) → Cel W W.heap.size 2 A (N + 1) c (lcell ls) → LR W ls → Calls Try.prog 14 #[.slice A (N + 1) c] W fun e w' => e = .returned (.string (SA ++ SB)) ∧ Below W.heap.size W w') := Lib.hid fun A c ls W h1 h2 h3 h4 => by
    have h := join_okN A c (N + 1) ls (P ++ [(nl s.data.toList + 1, wds (nb m.data.toList))]) h1 h2 hbC (by omega) W h3 h4
    rw [hSC] at h
    exact h
  have hsA : SA.size ≤ 65536 := by
    rw [← hSA]
    show (joinF (P.map (·.2))).toArray.size ≤ 65536
    rw [List.size_toArray]
    omega
  have hsB : SB.size ≤ 65536 := by
    rw [← hSB]
    show (joinF (([(1, wds (nb m.data.toList))] : List (Nat × List (List UInt8))).map (·.2))).toArray.size ≤ 65536
    rw [List.size_toArray]
    omega
  have n1 : IntKind.i64.wrap (N : Int) = N := IntWalk.i64_in _ (by omega)
  have n2 : IntKind.i64.wrap ((N : Int) + 1) = (N : Int) + 1 := IntWalk.i64_in _ (by omega)
  have HN := Lib.hid hN
  have HP := Lib.hid hP
  clear hlm hll hz hla hbA hbB hbC hjA hjB hjC hlC hlm' hSA hSB hSC
  go_enter Try.func7, Try.ntmps7
  go_wp2
  go_loopw [5] (fun v wr => ∃ i : Nat, i ≤ m.data.toList.length ∧ v = .int .i64 i ∧ wr = w0) (fun v _ => m.size - (intOf v).toNat)
  case atStart => exact ⟨0, Nat.zero_le _, rfl, rfl⟩
  case round =>
    obtain ⟨i, hi, rfl, hwr⟩ := hrel
    obtain rfl : w0 = wr := hwr.symm
    by_cases hlt : i < m.data.toList.length
    · obtain ⟨b, hb⟩ : ∃ b, m.data.toList[i]? = some b := ⟨_, List.getElem?_eq_getElem hlt⟩
      have hix := fun W => ixStr m i b hb W
      have i1 : (i : Int) < (m.size : Int) := by omega
      have i3 : IntKind.i64.wrap ((i : Int) + 1) = (i : Int) + 1 := IntWalk.i64_in _ (by omega)
      obtain ⟨r, hr⟩ : ∃ r, b.toNat = r := ⟨_, rfl⟩
      rw [hr] at hix
      by_cases h10 : b = 10
      · exact absurd h10 (hM b (List.mem_of_getElem? hb))
      · have hr10 : r ≠ 10 := fun e => h10 (UInt8.toNat_inj.1 (hr.trans e))
        have i5 : ((r : Int) == 10) = false := beq_eq_false_iff_ne.2 (by omega)
        go_wp2
        exact ⟨⟨i + 1, hlt, by go_num, trivial⟩, by simp [intOf]; omega⟩
    · have i1 : ¬ (i : Int) < (m.size : Int) := by omega
      go_wp2_with fail
      refine (HA.out _).mono ?_
      rintro e w1 ⟨A, c, la, rfl, hFA, hB1⟩
      go_wp2_with fail
      refine (HB.out _).mono ?_
      rintro e w2 ⟨A2, c2, lb, rfl, hFB, hB2⟩
      go_wp2_with fail
      refine (HC.out _).mono ?_
      rintro e w3 ⟨A3, c3, lc, rfl, hFC, hB3⟩
      have b1 := hB1.size
      have b2 := hB2.size
      have b3 := hB3.size
      have hB : Below w0.heap.size w0 w3 := (hB1.trans (hB2.mono b1)).trans (hB3.mono (by omega))
      have HFA := Lib.hid (And.intro hFA.1 (And.intro ((hFA.2.1.below hB2).below (hB3.mono b2)) ((hFA.2.2.below hB2).below hB3)))
      have HFB := Lib.hid (And.intro hFB.1 (And.intro (hFB.2.1.below hB3) (hFB.2.2.below hB3)))
      have HFC := Lib.hid hFC
      obtain ⟨bc, oc, rfl, hbc, hcc⟩ := hFC.2.1.at_ (by omega)
      clear hFA hFB hFC hM
      go_wp2
      go_loopw [15, 16] (fun u v wr => ∃ j : Nat, j ≤ s.data.toList.length ∧ v = .int .i64 j ∧ u = .int .i64 ((lns (s.data.toList.take j)).length : Nat) ∧ wr = w3) (fun _ v _ => s.size - (intOf v).toNat)
      case atStart => exact ⟨0, Nat.zero_le _, rfl, rfl, rfl⟩
      case round =>
        obtain ⟨j, hj, rfl, rfl, hwr⟩ := hrel
        obtain rfl : w3 = wr := hwr.symm
        by_cases hlt2 : j < s.data.toList.length
        · obtain ⟨b, hb⟩ : ∃ b, s.data.toList[j]? = some b := ⟨_, List.getElem?_eq_getElem hlt2⟩
          have hix := fun W => ixStr s j b hb W
          have j1 : (j : Int) < (s.size : Int) := by omega
          have j3 : IntKind.i64.wrap ((j : Int) + 1) = (j : Int) + 1 := IntWalk.i64_in _ (by omega)
          have hms := many_step s.data.toList j b hb
          have hml := (lns_length (s.data.toList.take j)).2
          have htl := List.length_take_le j s.data.toList
          generalize (lns (s.data.toList.take j)).length = mj at *
          have j4 : IntKind.i64.wrap ((mj : Int) + 1) = (mj : Int) + 1 := IntWalk.i64_in _ (by omega)
          have HMS := Lib.hid hms
          clear hms
          obtain ⟨r, hr⟩ : ∃ r, b.toNat = r := ⟨_, rfl⟩
          rw [hr] at hix
          by_cases h10 : b = 10
          · obtain rfl : r = 10 := by rw [← hr, h10]; rfl
            go_wp2
            refine ⟨⟨j + 1, hlt2, by go_num, ?_, trivial⟩, by simp [intOf]; omega⟩
            rw [HMS.out, if_pos h10]
            go_num
          · have hr10 : r ≠ 10 := fun e => h10 (UInt8.toNat_inj.1 (hr.trans e))
            have j5 : ((r : Int) == 10) = false := beq_eq_false_iff_ne.2 (by omega)
            go_wp2
            refine ⟨⟨j + 1, hlt2, by go_num, ?_, trivial⟩, by simp [intOf]; omega⟩
            rw [HMS.out, if_neg h10]
            rfl
        · obtain rfl : j = s.data.toList.length := by omega
          have j1 : ¬ ((s.data.toList.length : Nat) : Int) < (s.size : Int) := by omega
          rw [List.take_of_length_le (Nat.le_refl _)]
          have hml := (lns_length s.data.toList).2
          obtain ⟨mj, hmj⟩ : ∃ mj, (lns s.data.toList).length = mj := ⟨_, rfl⟩
          rw [hmj] at hml ⊢
          have j4 : IntKind.i64.wrap ((mj : Int) + 1) = (mj : Int) + 1 := IntWalk.i64_in _ (by omega)
          go_wp2_with fail
          refine (HJC.out _ c3 lc w3 HFC.out.1.1 HFC.out.1.2 HFC.out.2.1 HFC.out.2.2).mono ?_
          rintro e w4 ⟨rfl, hB4⟩
          go_wp2_with fail
          have b4 := hB4.size
          refine (HJA.out _ c la w4 HFA.out.1.1 HFA.out.1.2 ((HFA.out.2.1.below (hB4.mono (by omega))).more (by omega)) (HFA.out.2.2.below hB4)).mono ?_
          rintro e w5 ⟨rfl, hB5⟩
          go_wp2_with fail
          have b5 := hB5.size
          refine (HJB.out _ c2 lb w5 HFB.out.1.1 HFB.out.1.2 (((HFB.out.2.1.below (hB4.mono (by omega))).below (hB5.mono (by omega))).more (by omega)) ((HFB.out.2.2.below hB4).below hB5)).mono ?_
          rintro e w6 ⟨rfl, hB6⟩
          have b6 := hB6.size
          have hB36 : Below w3.heap.size w3 w6 := (hB4.trans (hB5.mono b4)).trans (hB6.mono (by omega))
          have hnum : w6.cell? ⟨bc, oc + N * 2, none⟩ = some (.int .i64 ((mj : Int) + 1)) := by
            have hc := hcc (N * 2) (by omega)
            have he : lc[N]?.map Ln.tell = some (nl s.data.toList + 1, wds (nb m.data.toList)) := by
              rw [← List.getElem?_map, HFC.out.1.2, List.getElem?_append_right (by rw [HN.out]; exact Nat.le_refl _), HN.out, Nat.sub_self]
              rfl
            unfold lcell at hc
            cases hx : lc[N]? with
            | none => rw [hx] at he; cases he
            | some x =>
              rw [hx] at he
              injection he with he
              injection he with e1 e2
              rw [show N * 2 / 2 = N by omega, hx, show N * 2 % 2 = 0 by omega] at hc
              have e3 : ((x.num : Nat) : Int) = (mj : Int) + 1 := by rw [e1]; show ((nl s.data.toList + 1 : Nat) : Int) = _; rw [← hmj]; rfl
              have e4 : w3.cell? ⟨bc, oc + N * 2, none⟩ = some (.int .i64 ((x.num : Nat) : Int)) := hc
              rw [e3] at e4
              exact (hB36.cell (p := ⟨bc, oc + N * 2, none⟩) hbc).trans e4
          have k0 : (0 : Int) ≤ (N : Int) := by omega
          have k1 : (N : Int) < (N : Int) + 1 := by omega
          have k2 : (N : Int) + 1 - 1 = (N : Int) := by omega
          have k3 : IntKind.i64.wrap ((N : Int) + 1 - 1) = (N : Int) := by rw [k2]; exact n1
          have k4 : N < N + 1 := by omega
          go_wp2_with (go_at_call 13; refine (awake13_any _).mono ?_; rintro e w7 ⟨rfl, hB7⟩)
          go_ret
          have hB06 := hB.trans (hB36.mono hB.size)
          exact ⟨rfl, hB06.trans (hB7.mono hB06.size)⟩



set_option maxRecDepth 100000 in
set_option maxHeartbeats 8000000 in
theorem walk_LexMore {w0 : World} (s : ByteArray) (_ws : s.size ≤ maxLen) (m : ByteArray) (_wm : m.size ≤ maxLen) : Calls Try.prog 7 #[.string s, .string m] w0 fun e w' => e = .returned (.bool true) ∧ Below w0.heap.size w0 w' := by
  by_cases hs : s.size ≤ 1000
  · by_cases hm : m.size ≤ 100
    · by_cases hM : ∀ c ∈ m.data.toList, c ≠ 10
      · by_cases hz : (linesF s.data.toList).2 = 0
        · cases hb : (nb m.data.toList).all okS
          · exact more_wrong s m hs hm hM hz hb
          · by_cases hw : wds (nb m.data.toList) = []
            · exact more_none s m hs hm hM hz hb hw
            · exact more_one s m hs hm hM hz hb hw
        · exact more_bad s m hs hm hM hz
      · exact more_ten s m hs hm hM
    · have g1 : decide ((1000 : Int) < (s.size : Int)) = false := decide_eq_false (by omega)
      have g2 : decide ((100 : Int) < (m.size : Int)) = true := decide_eq_true (by omega)
      have g3 : ¬ (1000 : Int) < (s.size : Int) := by omega
      have g4 : (100 : Int) < (m.size : Int) := by omega
      go_enter Try.func7, Try.ntmps7
      go_wp2
      go_ret
      exact ⟨rfl, Below.refl _ _⟩
  · have g1 : decide ((1000 : Int) < (s.size : Int)) = true := decide_eq_true (by omega)
    have g3 : (1000 : Int) < (s.size : Int) := by omega
    go_enter Try.func7, Try.ntmps7
    go_wp2
    go_ret
    exact ⟨rfl, Below.refl _ _⟩

namespace lexMoreRow
open Go.ChangeShapes Go.WideShapes Go.ChangeAt Go.RowKit Go.Joins
open Go.ChangeMaps (open_string shut_string)
set_option linter.unusedVariables false
theorem own : ownKnob Try.prog.godebug = none := by kernel_rfl
theorem laidOut : laidOutB Try.prog = true := by kernel_rfl
set_option maxRecDepth 100000 in
theorem lifted (os : Os) (started : os.Started) (H : Type) (enc : TypeId × Value → H) :
    ReturnsInHanded {} Try.checked os 7 .any (Rows.lexMoreSpec.pre6 enc Try.prog Try.f7 Rows.lexMoreRow.domain false) (Rows.lexMoreSpec.post enc Try.prog Try.f7 false true false false) := by
  refine returnsInHanded_of_change (C := Try.checked) own started (by kernel_rfl) Try.func7
    (ChangeSpec.witness6 (enc := enc) (C := Try.checked) false ⟨#[], #[.string ⟨#[]⟩, .string ⟨#[]⟩], []⟩ 8 (by kernel_rfl) (by kernel_rfl) (by kernel_rfl) (by kernel_rfl)) ?_
  intro W base args ds gs before hval0 hW hcnd _
  have hval : ∀ (j : Nat) t v, Try.f7.params[j]? = some t → args[j]? = some v → Value.okWide Try.prog W .any base t v := hval0
  have hW' := hW
  obtain ⟨p, q, hA0, hV, rfl, hfz, hnd⟩ := hW
  have hA : DataW.TrodAll enc Try.prog W 0 (fun _ => true) true Try.f7.params.toList args.toList ds p := hA0
  rw [Try.params7] at hA hval
  obtain ⟨v0, vs0, d0, ds0, p0, q0, hargs, rfl, rfl, h0, r0⟩ := trodAll_cons hA
  obtain ⟨v1, vs1, d1, ds1, p1, q1, rfl, rfl, rfl, h1, r1⟩ := trodAll_cons r0
  obtain ⟨rfl, rfl, rfl⟩ := trodAll_nil r1
  obtain rfl : args = #[v0, v1] := by cases args; simp_all
  obtain ⟨rfl, rfl⟩ := trodVars_none hV
  have k0 := h0
  have lt0 : ∀ x ∈ p0, x.block < W.heap.size := by obtain ⟨m, hm⟩ := k0; exact DataW.trod_lt m _ _ _ hm
  have k1 := h1
  have lt1 : ∀ x ∈ p1, x.block < W.heap.size := by obtain ⟨m, hm⟩ := k1; exact DataW.trod_lt m _ _ _ hm
  obtain ⟨s0, rfl, rfl, rfl, w0⟩ := open_string Try.underlying9 (hval 0 9 v0 rfl rfl) h0
  obtain ⟨s1, rfl, rfl, rfl, w1⟩ := open_string Try.underlying9 (hval 1 9 v1 rfl rfl) h1
  clear hA0 hval0
  refine (walk_LexMore (w0 := W) s0 w0 s1 w1).mono fun e W' ⟨he, bel⟩ => ?_
  subst he
  exact ⟨_, rfl, _, _, _, [], _, [], hW', trodAll_mk1 (shut_bool Try.underlying4 _), (trodAll_cons_mk (Below.trod laidOut (by kernel_rfl) (of_decide_eq_true (by kernel_rfl)) k0 bel lt0) (trodAll_cons_mk (Below.trod laidOut (by kernel_rfl) (of_decide_eq_true (by kernel_rfl)) k1 bel lt1) trodAll_mk0)), rfl, bel.frame _, fun h => by cases h⟩

theorem over : Rows.lexMoreRow.holds Try.pinned (OpenSpec.ofChange Rows.lexMoreSpec) :=
  OpenClaim.holds_of_wide 7 Try.f7 rfl rfl rfl rfl rfl rfl rfl ⟨rfl, rfl, rfl, rfl, rfl⟩ rfl rfl rfl rfl rfl (by kernel_rfl) Try.func7 (by kernel_rfl)
    (of_decide_eq_true (by kernel_rfl)) (by unfold Func.isWrapper; first | (rw [if_pos (by decide +kernel)]; kernel_rfl) | (rw [if_neg (by decide +kernel)]; exact ⟨rfl, rfl⟩))
    (fun os started H enc _ => lifted os started H enc)
end lexMoreRow

theorem lexMore_proved : Rows.LexMoreSaid := lexMoreRow.over
#print axioms lexMore_proved
end Go.Proofs.Ytieebnninhbdoaa
