/-
  The law ActWords holds for every input: the text of an action, as words, is read as it, whatever stands behind it. No condition.
-/
import Derived.Test.YtplnaejbfanioaaDoorRows
import Derived.Test.YtplnaejbfanioaaDoorCards
import Derived.Test.YtplnaejbfanioaaDoorTie
import Derived.Test.YtplnaejbfanioaaDoorGl
import Derived.Test.YtplnaejbfanioaaDoorHb
import Derived.Test.YtplnaejbfanioaaDoorBx
import Derived.Test.YtplnaejbfanioaaDoorMem
import Derived.WalkKit
import Derived.ProofKit
import Derived.OpenShut
import Derived.ShutString
import Derived.ChangeOld
import Derived.Below
import Derived.Lib.SmallJoins
import Derived.SevenTiedAt
import Derived.LaidMore
import Derived.Stop.Joined
import Derived.Deep.Cut
import Derived.RegionTactic
import Derived.Deep.RegionHeld3
import Derived.Deep.CutRange
namespace Go.Proofs.YtplnaejbfanioaaDoor
open Go.RowKit Go.Shelf
set_option linter.unusedVariables false

theorem infoS : (Tryd.prog.info? 9).map (fun i => (i.zero, i.size, i.bytes)) = some (some (.string ⟨#[]⟩), 1, 16) := by kernel_rfl
theorem one_str (w : World) (s : ByteArray) (E : TypeId) : Cel (w.alloc (.cells #[.string s] E)) (w.heap.size + 1) 1 (some ⟨w.heap.size, 0, none⟩) 1 1 (fun _ => .string s) :=
  Cel.mk_ (by omega) (by decide) (by decide) (fun i hi => by
    obtain rfl : i = 0 := by omega
    exact (RowC.new w #[.string s] E _ rfl).cell 0 _ rfl)
theorem own_at {w : World} {base n c : Nat} {E : TypeId} {A : Option Addr} {F : Nat → Value} (h : OwnC w base E 1 A n c F) (hn : 0 < n) : ∃ b, A = some ⟨b, 0, none⟩ ∧ base ≤ b ∧ b < w.heap.size ∧ ∀ i, i < n → w.cell? ⟨b, i, none⟩ = some (F i) := by
  have hown := h
  obtain ⟨gg, cap, hv, hg, hl⟩ := World.ownsRow.form hown hn
  injection hv with e1 e2 e3
  subst e1 e3
  refine ⟨gg, rfl, hg, hl, fun i hi => ?_⟩
  have hc := World.ownsRow.cells hown rfl i (F i) (by simp [hi])
  rw [Lib.add_plain, Nat.zero_add] at hc
  exact hc
theorem ixS (S : ByteArray) (p : Nat) (b : UInt8) (h : S.data.toList[p]? = some b) (W : World) : (Instr.index 9 (.string S) (.int .i64 p)).run Tryd.prog W = .ok (.int .u8 b.toNat) W := by
  have hp : p < S.size := by
    have := (List.getElem?_eq_some_iff.1 h).1
    simpa using this
  have hb : S[p] = b := by
    have := (List.getElem?_eq_some_iff.1 h).2
    show S.data[p] = b
    simpa using this
  have h1 : (0 ≤ (p : Int) ∧ (p : Int) < S.size) := by omega
  simp [Instr.index, run_underlying Tryd.underlying9, asIntOf, h1, hp, hb, go_sem]

theorem right_or9 (kd nm : Int) : (∃ j : Nat, j < 8 ∧ kd = (j : Int) + 1 ∧ mayA j nm = true) ∨ (∀ j : Nat, j < 8 → kd = (j : Int) + 1 → mayA j nm = false) := by
  by_cases h : ∃ j : Nat, j < 8 ∧ kd = (j : Int) + 1 ∧ mayA j nm = true
  · exact .inl h
  · refine .inr fun j hj he => ?_
    cases hm : mayA j nm with
    | false => rfl
    | true => exact absurd ⟨j, hj, he, hm⟩ h
/-- The words' cells: the text alone, or its two words. -/
def gW (S F0 F1 : ByteArray) (n i : Nat) : Value := if n = 1 then .string S else if i = 0 then .string F0 else .string F1
theorem own_one (w : World) (S F0 F1 : ByteArray) (E : TypeId) (base : Nat) (hb : base ≤ w.heap.size) : OwnC (w.alloc (.cells #[.string S] E)) base E 1 (some ⟨w.heap.size, 0, none⟩) 1 1 (gW S F0 F1 1) :=
  World.ownsRow_lit (base := base) (e := E) (size := 1) w #[.string S] 1 hb (by decide) rfl
theorem own_two (w : World) (S F0 F1 : ByteArray) (E : TypeId) (base : Nat) (hb : base ≤ w.heap.size) : OwnC (w.alloc (.cells #[.string F0, .string F1] E)) base E 1 (some ⟨w.heap.size, 0, none⟩) 2 2 (gW S F0 F1 2) :=
  World.ownsRow_lit (base := base) (e := E) (size := 1) w #[.string F0, .string F1] 2 hb (by decide) rfl
theorem cat_lastG (S F0 F1 : ByteArray) (n : Nat) (s : ByteArray) : ∀ i, i < (n + 1) * 1 → catC (n * 1) (gW S F0 F1 n) (fun _ => .string s) i = (if i < n then gW S F0 F1 n i else .string s) := by
  intro i hi
  unfold catC
  rw [Nat.mul_one]

set_option maxRecDepth 100000 in
set_option maxHeartbeats 8000000 in
/-- The walk at a right action, its text and its words being known. -/
theorem words_right {w0 : World} (kd nm : Int) (s : ByteArray) (hs : s.size ≤ 30) (ht : TabP w0) (S F0 F1 : ByteArray) (q N : Nat) (hq : q ≤ S.size) (hsz : S.size ≤ 60)
    (hN : (q = S.size ∧ N = 1) ∨ (q < S.size ∧ N = 2))
    (hno : ∀ (p : Nat), p < S.size → p ≠ q → ∃ b : UInt8, S.data.toList[p]? = some b ∧ b ≠ 32)
    (hbl : q < S.size → S.data.toList[q]? = some 32 ∧ S.extract 0 q = F0 ∧ S.extract (q + 1) S.size = F1)
    (hR : ∀ X, Calls Tryd.prog 25 #[.agg #[.int .i64 kd, .int .i64 nm]] X fun e w' => e = .returned (.bool true) ∧ Below X.heap.size X w')
    (hT : ∀ X, TabP X → Calls Tryd.prog 26 #[.agg #[.int .i64 kd, .int .i64 nm]] X fun e w' => e = .returned (.string S) ∧ Below X.heap.size X w')
    (hRd : ∀ X b c', TabP X → (∀ i, i < N → X.cell? ⟨b, i, none⟩ = some (gW S F0 F1 N i)) → Calls Tryd.prog 21 #[.slice (some ⟨b, 0, none⟩) (N + 1) c'] X fun e w' => e = .returned (.tuple #[.agg #[.int .i64 kd, .int .i64 nm], .int .i64 N, .int .i64 0]) ∧ Below X.heap.size X w') :
    Calls Tryd.prog 10 #[.agg #[.int .i64 kd, .int .i64 nm], .string s] w0 fun e w' => e = .returned (.bool true) ∧ Below w0.heap.size w0 w' := by
  obtain ⟨W0, hW0⟩ : ∃ W, w0.alloc (.cells #[.int .i64 kd, .int .i64 nm] 54) = W := ⟨_, rfl⟩
  have r0 : RowC W0 w0.heap.size #[.int .i64 kd, .int .i64 nm] 54 := by rw [← hW0]; exact RowC.new _ _ _ _ rfl
  have hb0 : Below w0.heap.size w0 W0 := by rw [← hW0]; exact (Below.refl _ _).alloc (Nat.le_refl _) _
  have R0 := Lib.hid r0
  have HB0 := Lib.hid hb0
  have HT := Lib.hid ht
  have HW0 := Lib.hid hW0
  have HO := Lib.hid fun X => of_any kd nm X
  have HR := Lib.hid hR
  have HTX := Lib.hid hT
  have HRD := Lib.hid hRd
  have HNO := Lib.hid hno
  have HBL := Lib.hid hbl
  have HNN := Lib.hid hN
  have q0 : ¬ (s.size : Int) > 30 := by omega
  have q1 : decide ((s.size : Int) > 30) = false := by simpa using q0
  clear hR hT hRd hno hbl hN ht hW0 hb0 r0
  go_enter Tryd.func10, Tryd.ntmps10
  go_upto_region 1 with fail
  rw [HW0.out]
  have k0 := R0.out.cell 0 (.int .i64 kd) rfl
  have k1 := R0.out.cell 1 (.int .i64 nm) rfl
  go_wp2_with fail
  refine (HR.out _).mono ?_
  rintro e w2 ⟨rfl, h12⟩
  have r2 := R0.out.below h12 R0.out.lt
  have b2 := Lib.hid (HB0.out.trans (h12.mono HB0.out.size))
  clear k0 k1 h12
  have k0 := r2.cell 0 (.int .i64 kd) rfl
  have k1 := r2.cell 1 (.int .i64 nm) rfl
  go_wp2_with fail
  refine (HO.out _).mono ?_
  rintro e w3 ⟨rfl, hB3⟩
  have b3 := Lib.hid (b2.out.trans (hB3.mono b2.out.size))
  have HX3 := Lib.hid (HTX.out w3 (tab_on HT.out b3.out (Nat.le_refl _)))
  go_wp2_with fail
  refine HX3.out.mono ?_
  rintro e w4 ⟨rfl, hB4⟩
  have h34 : Below w2.heap.size w2 w4 := hB3.trans (hB4.mono hB3.size)
  have r4 := r2.below h34 r2.lt
  have b4 := Lib.hid (b2.out.trans (h34.mono b2.out.size))
  have s4 : Hid (w0.heap.size < w4.heap.size) := Lib.hid r4.lt
  have R4 := Lib.hid r4
  have ho1 := own_one w4 S F0 F1 9 w4.heap.size (Nat.le_refl _)
  have HO1 := Lib.hid ho1
  clear hB3 hB4 k0 k1 r2 h34 r4 HX3 ho1
  go_wp2_with fail
  go_loopw [6, 7] (fun ws i wr => ∃ (p n : Nat) (A' : Option Addr) (c' : Nat), p ≤ S.size ∧ i = .int .i64 p ∧ ws = .slice A' n c' ∧ ((p ≤ q ∧ n = 1) ∨ (q < p ∧ n = 2)) ∧ OwnC wr w4.heap.size 9 1 A' n c' (gW S F0 F1 n) ∧ Below w4.heap.size w4 wr)
    (fun _ i _ => S.size - (intOf i).toNat)
  case atStart => exact ⟨0, 1, _, 1, by omega, rfl, rfl, .inl ⟨by omega, rfl⟩, HO1.out, (Below.refl _ _).alloc (Nat.le_refl _) _⟩
  case round =>
    obtain ⟨p, n, A', c', hp, rfl, rfl, hcase, hown, hB⟩ := hrel
    have HOW := Lib.hid hown
    have HBW := Lib.hid hB
    have hsB := hB.size
    clear hown hB HO1
    by_cases hlt : p < S.size
    · have g1 : (p : Int) < (S.size : Int) := by omega
      have i0 : (0 : Int) ≤ (p : Int) := by omega
      by_cases hpq : p = q
      · subst hpq
        obtain ⟨hb, hp0, hp1⟩ := HBL.out hlt
        have hix := ixS S p 32 hb
        have v1 : IntKind.i64.wrap ((p : Int) + 1) = (p : Int) + 1 := by rw [IntKind.wrap_i64]; omega
        have i1 : (0 : Int) ≤ (p : Int) + 1 := by omega
        have i2 : (p : Int) + 1 ≤ (S.size : Int) := by omega
        have i3 : (p : Int) ≤ (S.size : Int) := by omega
        have i4 : ((p : Int) + 1).toNat = p + 1 := by omega
        have HP := Lib.hid (And.intro hp0 hp1)
        clear hb hcase hq
        go_upto_region 9 with fail
        go_region
        all_goals go_wp2
        all_goals
          exact ⟨⟨p + 1, 2, _, 2, by omega, by go_num, rfl, .inr ⟨by omega, rfl⟩, (own_two wr S F0 F1 9 w4.heap.size hsB).drew, (HBW.out.alloc hsB _).drew⟩, by simp [intOf]; omega⟩
      · obtain ⟨b, hb, hne⟩ := HNO.out p hlt hpq
        have hix := ixS S p b hb
        have g5 : ((b.toNat : Int) == 32) = false := by
          rw [show ((b.toNat : Int) == 32) = (b == 32) by rw [Bool.eq_iff_iff]; simp [← UInt8.toNat_inj]; omega]
          simpa using hne
        clear hb hne
        go_wp2
        exact ⟨⟨p + 1, n, A', c', by omega, by go_num, rfl, by omega, HOW.out, HBW.out⟩, by simp [intOf]; omega⟩
    · have hpS : p = S.size := by omega
      obtain rfl : n = N := by
        rcases hcase with ⟨h1, h2⟩ | ⟨h1, h2⟩ <;> rcases HNN.out with ⟨h3, h4⟩ | ⟨h3, h4⟩ <;> omega
      have hn2 : n ≤ 2 := by omega
      have g1 : ¬ (p : Int) < (S.size : Int) := by omega
      have g2 : decide ((p : Int) < (S.size : Int)) = false := by simpa using g1
      clear hcase hpS
      go_upto_region 10 with fail
      go_wp2_with (at_builtin; go_must (refine app_cells _ rfl _ _ _ 9 rfl Tryd.underlying22 infoS rfl (by decide) rfl (HOW.out.alloc _) rfl (one_str wr _ 9) (fun i _ => rfl) (by unfold maxLen; omega) (by omega) (by simp; omega) (n + 1) rfl (fun i => if i < n then gW S F0 F1 n i else .string s) (cat_lastG S F0 F1 n s) ?_; rintro A2 c2 w5 ho2 hb5))
      have hB5 : Below w4.heap.size w4 w5 := (HBW.out.alloc hsB _).trans hb5
      obtain ⟨bb, rfl, hbb, hbl, hcl⟩ := own_at ho2 (by omega)
      have b5 := Lib.hid (b4.out.trans (hB5.mono b4.out.size))
      have HR5 := Lib.hid (HRD.out w5 bb c2 (tab_on HT.out b5.out (Nat.le_refl _)) (fun i hi => by rw [hcl i (by omega), if_pos hi]))
      refine HR5.out.mono ?_
      rintro e w6 ⟨rfl, hB6⟩
      have hs4 := s4.out
      have hs5 := hB5.size
      have hs6 := hB6.size
      obtain ⟨U, hU⟩ : ∃ U, w6.alloc (.cells #[.int .i64 kd, .int .i64 nm] 51) = U := ⟨_, rfl⟩
      have ru : RowC U w6.heap.size #[.int .i64 kd, .int .i64 nm] 51 := by rw [← hU]; exact RowC.new _ _ _ _ rfl
      have h46 : Below w4.heap.size w4 U := by rw [← hU]; exact (hB5.trans (hB6.mono hs5)).alloc (by omega) _
      have r4 := R4.out.below h46 R4.out.lt
      have bU := Lib.hid (b4.out.trans (h46.mono b4.out.size))
      have HU := Lib.hid hU
      have RU := Lib.hid ru
      clear hU h46 hB6 hB5 hcl ho2 hb5
      go_upto_region 11 with fail
      rw [HU.out]
      have R4U := Lib.hid r4
      have hS : Hid (∀ W, Below U.heap.size U W → W.cell? ⟨w0.heap.size, 0, none⟩ = some (.int .i64 kd) ∧ W.cell? ⟨w0.heap.size, 1, none⟩ = some (.int .i64 nm) ∧ W.cell? ⟨w6.heap.size, 0, none⟩ = some (.int .i64 kd) ∧ W.cell? ⟨w6.heap.size, 1, none⟩ = some (.int .i64 nm)) := Lib.hid fun W hW => ⟨(R4U.out.below hW R4U.out.lt).cell 0 _ rfl, (R4U.out.below hW R4U.out.lt).cell 1 _ rfl, (RU.out.below hW RU.out.lt).cell 0 _ rfl, (RU.out.below hW RU.out.lt).cell 1 _ rfl⟩
      have hk0 : Below U.heap.size U U.drew := (Below.refl _ U).drew
      have HAW : Hid (∀ W, Below U.heap.size U W → Calls Tryd.prog 24 #[] W fun e w' => e = .returned (.bool true) ∧ Below W.heap.size W w') := Lib.hid fun W hW => awake9_any W
      clear r4 ru hs4 hs5 hs6 R4U RU HU HT HBW HOW HR5 HRD HTX HR HB0 HW0 R0 R4 g1 g2 hsz hlt q0 q1 hs hsB hbb hbl hp HNO HBL HNN
      generalize w6.heap.size = X at *
      go_region_held3 (fun w' => w'.cell? ⟨w0.heap.size, 0, none⟩ = some (.int .i64 kd) ∧ w'.cell? ⟨w0.heap.size, 1, none⟩ = some (.int .i64 nm) ∧ w'.cell? ⟨X, 0, none⟩ = some (.int .i64 kd) ∧ w'.cell? ⟨X, 1, none⟩ = some (.int .i64 nm))
        (first | exact hS.out _ hk2 | exact hS.out _ hk1 | exact hS.out _ hk0 | assumption | go_keep)
        (first
          | (go_at_call 23
             (with_reducible refine (HO.out _).mono ?_)
             rintro e w7 ⟨rfl, hB7⟩
             have hk1 := hk0.trans (hB7.mono hk0.size))
          | (go_at_call 24
             (with_reducible refine (HAW.out _ hk1).mono ?_)
             rintro e w8 ⟨rfl, hB8⟩
             have hk2 := hk1.trans (hB8.mono hk1.size)))
      all_goals go_wp2
      all_goals go_ret
      all_goals exact ⟨rfl, bU.out.trans (hk2.mono bU.out.size)⟩
theorem piece (l : List UInt8) (x k : Nat) : (ByteArray.mk l.toArray).extract x (x + k) = ⟨((l.drop x).take k).toArray⟩ := by
  apply ByteArray.ext
  rw [ByteArray.data_extract]
  apply Array.toList_inj.1
  simp

theorem two_words (l1 l2 : List UInt8) (h1 : ∀ b ∈ l1, b ≠ 32) (h2 : ∀ b ∈ l2, b ≠ 32) :
    (ByteArray.mk (l1 ++ 32 :: l2).toArray).size = l1.length + 1 + l2.length ∧
    (∀ (p : Nat), p < (ByteArray.mk (l1 ++ 32 :: l2).toArray).size → p ≠ l1.length → ∃ b : UInt8, (ByteArray.mk (l1 ++ 32 :: l2).toArray).data.toList[p]? = some b ∧ b ≠ 32) ∧
    (ByteArray.mk (l1 ++ 32 :: l2).toArray).data.toList[l1.length]? = some 32 ∧ (ByteArray.mk (l1 ++ 32 :: l2).toArray).extract 0 l1.length = ⟨l1.toArray⟩ ∧
    (ByteArray.mk (l1 ++ 32 :: l2).toArray).extract (l1.length + 1) (ByteArray.mk (l1 ++ 32 :: l2).toArray).size = ⟨l2.toArray⟩ := by
  have hs : (ByteArray.mk (l1 ++ 32 :: l2).toArray).size = l1.length + 1 + l2.length := by
    show (l1 ++ 32 :: l2).toArray.size = _
    simp
    omega
  refine ⟨hs, fun p hp hne => ?_, ?_, ?_, ?_⟩
  · rw [hs] at hp
    show ∃ b : UInt8, (l1 ++ 32 :: l2)[p]? = some b ∧ b ≠ 32
    by_cases h : p < l1.length
    · exact ⟨l1[p], by rw [List.getElem?_append_left h, List.getElem?_eq_getElem h], h1 _ (List.getElem_mem h)⟩
    · obtain ⟨d, rfl⟩ : ∃ d, p = l1.length + (d + 1) := ⟨p - l1.length - 1, by omega⟩
      have hd : d < l2.length := by omega
      refine ⟨l2[d], ?_, h2 _ (List.getElem_mem hd)⟩
      rw [List.getElem?_append_right (by omega), Nat.add_sub_cancel_left, List.getElem?_cons_succ, List.getElem?_eq_getElem hd]
  · show (l1 ++ 32 :: l2)[l1.length]? = some 32
    rw [List.getElem?_append_right (Nat.le_refl _), Nat.sub_self]
    rfl
  · have h := piece (l1 ++ 32 :: l2) 0 l1.length
    rw [Nat.zero_add] at h
    rw [h, List.drop_zero, List.take_left']
    rfl
  · have h := piece (l1 ++ 32 :: l2) (l1.length + 1) l2.length
    rw [hs, h]
    congr 2
    rw [List.drop_append, List.drop_eq_nil_of_le (by omega), Nat.add_sub_cancel_left]
    simp
theorem kw_no32 (j : Nat) : ∀ b ∈ (kwA j).data.toList, b ≠ 32 := by unfold kwA; split <;> decide
theorem dec_no32 (u : Nat) : ∀ b ∈ Lib.decDigits u, b ≠ 32 := fun b hb e => by
  have := (decDigits_dig u b hb).1
  rw [e] at this
  exact absurd this (by decide)
set_option maxRecDepth 100000 in
set_option maxHeartbeats 8000000 in
theorem words_wrong {w0 : World} (kd nm : Int) (s : ByteArray) (hs : s.size ≤ 30) (hno : ∀ j : Nat, j < 8 → kd = (j : Int) + 1 → mayA j nm = false) :
    Calls Tryd.prog 10 #[.agg #[.int .i64 kd, .int .i64 nm], .string s] w0 fun e w' => e = .returned (.bool true) ∧ Below w0.heap.size w0 w' := by
  have HB0 := Lib.hid (show Below w0.heap.size w0 (w0.alloc (.cells #[.int .i64 kd, .int .i64 nm] 54)) from (Below.refl _ _).alloc (Nat.le_refl _) _)
  have HR := Lib.hid fun X => right9_no kd nm hno X
  have q0 : ¬ (s.size : Int) > 30 := by omega
  have q1 : decide ((s.size : Int) > 30) = false := by simpa using q0
  clear hno
  go_enter Tryd.func10, Tryd.ntmps10
  go_wp2_with fail
  refine (HR.out _).mono ?_
  rintro e w2 ⟨rfl, h12⟩
  have b2 := Lib.hid (HB0.out.trans (h12.mono HB0.out.size))
  clear h12
  go_wp2_with (go_at_call 24; refine (awake9_any _).mono ?_; rintro e w9 ⟨rfl, hB9⟩)
  go_ret
  exact ⟨rfl, b2.out.trans (hB9.mono b2.out.size)⟩
set_option maxRecDepth 100000 in
set_option maxHeartbeats 4000000 in
theorem words_long {w0 : World} (kd nm : Int) (s : ByteArray) (hs : ¬ s.size ≤ 30) :
    Calls Tryd.prog 10 #[.agg #[.int .i64 kd, .int .i64 nm], .string s] w0 fun e w' => e = .returned (.bool true) ∧ Below w0.heap.size w0 w' := by
  have HB0 := Lib.hid (show Below w0.heap.size w0 (w0.alloc (.cells #[.int .i64 kd, .int .i64 nm] 54)) from (Below.refl _ _).alloc (Nat.le_refl _) _)
  have q0 : (s.size : Int) > 30 := by omega
  have q1 : decide ((s.size : Int) > 30) = true := by simpa using q0
  go_enter Tryd.func10, Tryd.ntmps10
  go_wp2
  go_ret
  exact ⟨rfl, HB0.out⟩
theorem walk_ActWords {w0 : World} (kd nm : Int) (_hk : (Lit.int .i64 kd).wf = true) (_hn : (Lit.int .i64 nm).wf = true) (s : ByteArray) (hs : s.size ≤ maxLen) (ht : TabP w0) :
    Calls Tryd.prog 10 #[.agg #[.int .i64 kd, .int .i64 nm], .string s] w0 fun e w' => e = .returned (.bool true) ∧ Below w0.heap.size w0 w' := by
  by_cases hl : s.size ≤ 30
  · rcases right_or9 kd nm with ⟨j, hj, rfl, hm⟩ | hno
    · have hbd := may_bd hm
      have hks := kw_size j
      have hmk : kwA j = ⟨(kwA j).data.toList.toArray⟩ := by simp
      cases hk : knA j
      · have hn0 : nm = 0 := by
          have h1 : j ≠ 3 := by rintro rfl; cases hk
          have h2 : j ≠ 5 := by rintro rfl; cases hk
          rw [may_other j nm h1 h2] at hm
          simpa using hm
        subst hn0
        refine words_right _ 0 s hl ht (kwA j) ⟨#[]⟩ ⟨#[]⟩ (kwA j).size 1 (Nat.le_refl _) (by omega) (.inl ⟨rfl, rfl⟩) (fun p hp _ => ?_) (fun h => by omega) (fun X => right9_ok j hj 0 hm X) (fun X _ => text_plain j hj 0 hm hk X) ?_
        · have hp' : p < (kwA j).data.toList.length := by rw [Array.length_toList]; exact hp
          exact ⟨_, List.getElem?_eq_getElem hp', kw_no32 j _ (List.getElem_mem hp')⟩
        · intro X b c' _ hc
          exact readA_plain j hj hk b 2 c' (by omega) X (hc 0 (by omega))
      · obtain ⟨u, rfl⟩ := Int.eq_ofNat_of_zero_le hbd.1
        have hu : u ≤ 65535 := by omega
        obtain ⟨t1, t2, t3, t4, t5⟩ := two_words (kwA j).data.toList (Lib.decDigits u) (kw_no32 j) (dec_no32 u)
        have hlen : (kwA j).data.toList.length = (kwA j).size := Array.length_toList
        rw [hlen] at t1 t2 t3 t4 t5
        have hds := dec_size u hu
        have hds2 : (Lib.decDigits u).length ≤ 5 := by
          have : (dec u).size = (Lib.decDigits u).length := by show (Lib.decDigits u).toArray.size = _; simp
          omega
        refine words_right _ (u : Int) s hl ht _ (kwA j) (dec u) (kwA j).size 2 (by omega) (by omega) (.inr ⟨by omega, rfl⟩) t2 (fun _ => ⟨t3, by rw [t4, ← hmk], t5⟩) (fun X => right9_ok j hj u hm X) (fun X hX => ?_) ?_
        · have h := text_num j hj u hm hk X hX
          have e : ((kwA j ++ ⟨#[32]⟩) ++ ⟨(Lib.itoa (u : Int)).toArray⟩ : ByteArray) = ⟨((kwA j).data.toList ++ 32 :: Lib.decDigits u).toArray⟩ := by
            rw [Lib.itoa_nonneg]
            apply ByteArray.ext
            simp
          rw [e] at h
          exact h
        · intro X b c' hX hc
          exact readA_num j hj hk u hu hm b 3 c' (by omega) X hX (hc 0 (by omega)) (hc 1 (by omega))
    · exact words_wrong kd nm s hl hno
  · exact words_long kd nm s hl

theorem of_laid {W : World} (h : laidMetH Tryd.prog Rows.actWordsRow.laid W) : TabP W := by
  rw [MakeChecks.laidMetH_plain _ _ _ (by kernel_rfl)] at h
  exact tab_of_third h

namespace actWordsRow
open Go.ChangeShapes Go.WideShapes Go.ChangeAt Go.RowKit Go.Joins
open Go.ChangeMaps (open_string shut_string)
set_option linter.unusedVariables false
theorem own : ownKnob Tryd.prog.godebug = none := by kernel_rfl
theorem laidOut : laidOutB Tryd.prog = true := by kernel_rfl
set_option maxRecDepth 100000 in
theorem lifted (os : Os) (started : os.Started) (H : Type) (enc : TypeId × Value → H) :
    ReturnsInHanded {} Tryd.checked os 10 .any (fun w args => (Rows.actWordsSpec.pre enc Tryd.prog Tryd.f10 [] false w args ∧ laidMetH Tryd.prog Rows.actWordsRow.laid w) ∧ sizedMet enc Tryd.prog Tryd.f10 (OpenSpec.ofChange Rows.actWordsSpec) false w args) (Rows.actWordsSpec.post enc Tryd.prog Tryd.f10 false true false false) := by
  refine returnsInHanded_of_change_and (C := Tryd.checked) (X := fun w _ => laidMetH Tryd.prog Rows.actWordsRow.laid w) (fun _ _ _ hh h => h.of_heap hh) own started (by kernel_rfl) Tryd.func10
    (ChangeSpec.witness_shaped (enc := enc) (C := Tryd.checked) (os := os) (X := fun w _ => laidMetH Tryd.prog Rows.actWordsRow.laid w) false (World.laidAll Tryd.prog os Rows.actWordsRow.laid) #[.agg #[.int .i64 0, .int .i64 0], .string ⟨#[]⟩] 8 (World.laidAll_os _ _ _) (World.shaped_of_ZipB (by kernel_rfl) (by kernel_rfl)) (by kernel_rfl) (by kernel_rfl) (by kernel_rfl) (by rw [MakeChecks.laidMetH_plain _ _ _ (by kernel_rfl)]; exact laidMet_laidAll _ (by kernel_rfl) (by kernel_rfl))) ?_
  intro W base args ds gs before hval0 hW _ _ hL _
  have hval : ∀ (j : Nat) t v, Tryd.f10.params[j]? = some t → args[j]? = some v → Value.okWide Tryd.prog W .any base t v := hval0
  have hW' := hW
  obtain ⟨p, q, hA0, hV, rfl, hfz, hnd⟩ := hW
  have hA : DataW.TrodAll enc Tryd.prog W 0 (fun _ => true) true Tryd.f10.params.toList args.toList ds p := hA0
  rw [Tryd.params10] at hA hval
  obtain ⟨v0, vs0, d0, ds0, p0, q0, hargs, rfl, rfl, h0, r0⟩ := trodAll_cons hA
  obtain ⟨v1, vs1, d1, ds1, p1, q1, rfl, rfl, rfl, h1, r1⟩ := trodAll_cons r0
  obtain ⟨rfl, rfl, rfl⟩ := trodAll_nil r1
  obtain rfl : args = #[v0, v1] := by cases args; simp_all
  obtain ⟨rfl, rfl⟩ := trodVars_none hV
  have k0 := h0
  have lt0 : ∀ x ∈ p0, x.block < W.heap.size := by obtain ⟨m, hm⟩ := k0; exact DataW.trod_lt m _ _ _ hm
  have k1 := h1
  have lt1 : ∀ x ∈ p1, x.block < W.heap.size := by obtain ⟨m, hm⟩ := k1; exact DataW.trod_lt m _ _ _ hm
  obtain ⟨cc00, cc01, yy00, yy01, mm0, rfl, _, _, hyy00, hyy01⟩ := open_agg2 Tryd.underlying54 (by kernel_rfl) (show Tryd.prog.cellsOf 54 = 2 by kernel_rfl) (hval 0 54 v0 rfl rfl) h0
  obtain ⟨n00, ee00, _, u00⟩ := DataW.trod_int Tryd.underlying3 hyy00
  obtain ⟨n01, ee01, _, u01⟩ := DataW.trod_int Tryd.underlying3 hyy01
  simp only [List.cons.injEq, and_true] at ee00 ee01
  subst ee00 ee01
  obtain ⟨s1, rfl, rfl, rfl, w1⟩ := open_string Tryd.underlying9 (hval 1 9 v1 rfl rfl) h1
  clear hA0 hval0
  refine (walk_ActWords (w0 := W) n00 n01 u00 u01 s1 w1 (of_laid hL)).mono fun e W' ⟨he, bel⟩ => ?_
  subst he
  exact ⟨_, rfl, _, _, _, [], _, [], hW', trodAll_mk1 (shut_bool Tryd.underlying4 _), (trodAll_cons_mk (Below.trod laidOut (by kernel_rfl) (of_decide_eq_true (by kernel_rfl)) k0 bel lt0) (trodAll_cons_mk (Below.trod laidOut (by kernel_rfl) (of_decide_eq_true (by kernel_rfl)) k1 bel lt1) trodAll_mk0)), rfl, bel.frame _, fun h => by cases h⟩

theorem over : Rows.actWordsRow.holds Tryd.pinned (OpenSpec.ofChange Rows.actWordsSpec) :=
  OpenClaim.holds_of_wide 10 Tryd.f10 rfl rfl rfl rfl rfl rfl rfl ⟨rfl, rfl, rfl, rfl, rfl⟩ rfl rfl rfl rfl rfl (by kernel_rfl) Tryd.func10 (by kernel_rfl)
    (of_decide_eq_true (by kernel_rfl)) (by unfold Func.isWrapper; first | (rw [if_pos (by decide +kernel)]; kernel_rfl) | (rw [if_neg (by decide +kernel)]; exact ⟨rfl, rfl⟩))
    (fun os started H enc _ => lifted os started H enc)
end actWordsRow

theorem actWords_proved : Rows.ActWordsCardSaid :=
  Claim7.holds_tied_plain_at .later [] [.data, .data, .data, .sentinel, .sentinel] true Rows.actWordsCard.stood.harness true
    actWordsRow.over (fun _ h => by cases h) (by kernel_rfl) (fun _ h => by cases h) actWords_row_tie rfl ⟨rfl, rfl⟩ (by kernel_rfl) rfl
    (fun f fn hf hfn => by
      obtain rfl : f = 10 := Option.some.inj ((show Tryd.prog.funcNamed "strainer/strainerlaw09.ActWords" = some 10 by kernel_rfl).symm.trans hf) |>.symm
      obtain rfl : fn = Tryd.f10 := (Option.some.inj (Tryd.func10.symm.trans hfn)).symm
      exact ⟨by kernel_rfl, fun j t ht => by
        rw [Tryd.params10] at ht
        have hall : ∀ t ∈ [54, 9], Tryd.prog.wantsStandIn t = false := by
          intro t ht
          simp only [List.mem_cons, List.not_mem_nil, or_false] at ht
          rcases ht with rfl | rfl <;> kernel_rfl
        exact hall t (by simpa using Array.mem_of_getElem? ht)⟩)
    (by kernel_rfl)
#print axioms actWords_proved
end Go.Proofs.YtplnaejbfanioaaDoor
