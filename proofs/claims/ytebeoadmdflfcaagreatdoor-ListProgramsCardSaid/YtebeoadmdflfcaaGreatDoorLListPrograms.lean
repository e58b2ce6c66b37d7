/-
  The law ListPrograms holds for every lines: list.Program tells the instructions that the document's Read tells of the lines, or the first line that is wrong. No condition.
-/
import Derived.Test.YtebeoadmdflfcaaGreatDoorRows
import Derived.Test.YtebeoadmdflfcaaGreatDoorCards
import Derived.Test.YtebeoadmdflfcaaGreatDoorTie
import Derived.Test.YtebeoadmdflfcaaGreatDoorPe
import Derived.Test.YtebeoadmdflfcaaGreatDoorPw
import Derived.Test.YtebeoadmdflfcaaGreatDoorQh
import Derived.Test.YtebeoadmdflfcaaGreatDoorPsh
import Derived.Test.YtebeoadmdflfcaaGreatDoorTab
import Derived.Stop.LaidErr
import Derived.LaidLaws
import Derived.Lay
import Derived.MakeChecks
import Derived.WalkKit
import Derived.ProofKit
import Derived.OpenShut
import Derived.ShutString
import Derived.ChangeOld
import Derived.Below
import Derived.Lib.SmallJoins
import Derived.SevenTiedAt
import Derived.LaidMore
import Derived.Stop.Joined
import Derived.Deep.Cut
import Derived.RegionTactic
import Derived.Deep.RegionHeld3
import Derived.Deep.CutRange
import Derived.Deep.Strs
namespace Go.Proofs.YtebeoadmdflfcaaGreatDoor
open Go.RowKit Go.Shelf
set_option linter.unusedVariables false

theorem bTrans {w w' w'' : World} (h : Below w.heap.size w w') (h2 : Below w'.heap.size w' w'') : Below w.heap.size w w'' := h.trans (h2.mono h.size)
theorem cel_strs {w : World} {x : Addr} {n c : Nat} {B : Nat → ByteArray} (h1 : n ≤ c) (h2 : c ≤ maxLen) (hc : ∀ i, i < n → w.cell? (x.add i) = some (.string (B i))) :
    Cel w w.heap.size 1 (some x) n c (fun i => .string (B i)) := by
  refine .inr ⟨x, rfl, h1, h2, fun i hi => ?_⟩
  have hcell := hc i (by omega)
  have hlt := World.block_lt_of_cell? w _ hcell
  have eb : (x.add i).block = x.block := by unfold Addr.add; split <;> rfl
  rw [eb] at hlt
  exact ⟨hlt, hcell⟩
theorem infoR3 : (Tryz.prog.info? 29).map (fun i => (i.zero, i.size, i.bytes)) = some (some (.agg #[.int .u16 0, .int .u8 0, .int .u8 0, .int .u32 0]), 4, 8) := by kernel_rfl
/-- The lines as rows of bytes. -/
def lnsF (f : Nat → ByteArray) (q : Nat) : List (List UInt8) := (List.range q).map fun i => (f i).data.toList
theorem lnsF_succ (f : Nat → ByteArray) (q : Nat) : joinL (lnsF f (q + 1)) = joinL (lnsF f q) ++ ((f q).data.toList ++ [10]) := by
  unfold lnsF
  rw [List.range_succ, List.map_append]
  exact joinL_snoc _ _
theorem lnsF_size (f : Nat → ByteArray) (q : Nat) (h : ∀ i, i < q → (f i).size ≤ 60) : (joinL (lnsF f q)).length ≤ q * 61 := by
  have h1 := joinL_len (lnsF f q) 60 fun x hx => by
    unfold lnsF at hx
    obtain ⟨i, hi, rfl⟩ := List.mem_map.1 hx
    have := h i (List.mem_range.1 hi)
    rw [Array.length_toList]
    exact this
  rw [show (lnsF f q).length = q by unfold lnsF; simp] at h1
  exact h1
/-- What is so far: no line is wrong, or the first one that is. -/
def StP (xs : Nat → Int) (q m : Nat) (bad wrong : Int) : Prop := (∀ i, i < m → xs i = 0 ∨ xs i = 4) ∧ ((m = q ∧ bad = 0 ∧ wrong = 0) ∨ (m < q ∧ (xs m == 0) = false ∧ (xs m == 4) = false ∧ bad = (m : Int) + 1 ∧ wrong = xs m))
set_option maxRecDepth 100000 in
set_option maxHeartbeats 64000000 in
theorem programs_ok {w0 : World} (A : Option Addr) (n c : Nat) (F : Nat → ByteArray) (hr : Cel w0 w0.heap.size 1 A n c (fun i => .string (F i))) (hn : n ≤ 30) (he : EnvN w0) :
    Calls Tryz.prog 4 #[.slice A n c] w0 fun e w' => e = .returned (.bool true) ∧ Below w0.heap.size w0 w' := by
  have q1 : ¬ (n : Int) > 30 := by omega
  have q2 : decide ((n : Int) > 30) = false := decide_eq_false q1
  have hch : ∀ i : Nat, ∃ y : IV × Int, (i < n → (F i).size ≤ 60 → SameR (F i) y.1.c y.1.t y.1.f y.1.k y.2 ∧ (y.2 = 0 ∨ y.2 = 4 ∨ y.2 = 13)) ∧ (n ≤ i → y.2 = 4) := fun i => by
    by_cases h : i < n ∧ (F i).size ≤ 60
    · obtain ⟨c, t, f, k, x, h1, h2, _⟩ := reads3_same (F i) (by omega)
      exact ⟨(⟨c, t, f, k⟩, x), fun _ _ => ⟨h1, h2⟩, fun h3 => by omega⟩
    · exact ⟨(⟨0, 0, 0, 0⟩, 4), fun h1 h2 => absurd ⟨h1, h2⟩ h, fun _ => rfl⟩
  obtain ⟨ys, hys⟩ := Classical.axiomOfChoice hch
  obtain ⟨rs, hrs⟩ : ∃ rs : Nat → IV, rs = fun i => (ys i).1 := ⟨_, rfl⟩
  obtain ⟨xs, hxs⟩ : ∃ xs : Nat → Int, xs = fun i => (ys i).2 := ⟨_, rfl⟩
  have HYS : Hid (∀ i, i < n → (F i).size ≤ 60 → SameR (F i) (rs i).c (rs i).t (rs i).f (rs i).k (xs i) ∧ (xs i = 0 ∨ xs i = 4 ∨ xs i = 13)) := Lib.hid fun i h1 h2 => by rw [hrs, hxs]; exact (hys i).1 h1 h2
  have HXN : Hid (xs n = 4) := Lib.hid (by rw [hxs]; exact (hys n).2 (Nat.le_refl _))
  have HC : Hid (∀ X, Below w0.heap.size w0 X → ∀ i, i < n → ∃ b o, A = some ⟨b, o, none⟩ ∧ X.cell? ⟨b, o + i, none⟩ = some (.string (F i))) := Lib.hid fun X hX i hi => by
    obtain ⟨b, o, e1, h1, h2⟩ := hr.at_ (by omega)
    exact ⟨b, o, e1, (hX.cell (p := ⟨b, o + i, none⟩) h1).trans (h2 i (by omega))⟩
  have HE := Lib.hid he
  clear hr he hch hys hrs hxs
  go_enter Tryz.func4, Tryz.ntmps4
  go_wp2
  go_loopw [3, 4, 5, 6, 7] (fun tx wt bd wg i wr => ∃ (q m : Nat) (bad wrong : Int) (A' : Option Addr) (c' : Nat), q ≤ n ∧ m ≤ q ∧ StP xs q m bad wrong ∧ tx = .string ⟨(joinL (lnsF F q)).toArray⟩ ∧ wt = .slice A' (accL rs xs m).length c' ∧ bd = .int .i64 bad ∧ wg = .int .i64 wrong ∧ i = .int .i64 q ∧ (∀ i, i < q → (F i).size ≤ 60 ∧ ∀ c ∈ (F i).data.toList, c ≠ 10) ∧ OwnC wr w0.heap.size 29 4 A' (accL rs xs m).length c' (icell (gOf (accL rs xs m))) ∧ Below w0.heap.size w0 wr) (fun _ _ _ _ i _ => n - (intOf i).toNat)
  case atStart => exact ⟨0, 0, 0, 0, none, 0, by omega, by omega, ⟨fun i h => by omega, .inl ⟨rfl, rfl, rfl⟩⟩, rfl, rfl, rfl, rfl, rfl, fun i h => by omega, OwnC.nil_, Below.refl _ _⟩
  case round => as_aux_lemma =>
    obtain ⟨q, m, bad, wrong, A', c', hq, hmq, hst, rfl, rfl, rfl, rfl, rfl, hls, hown, hB⟩ := hrel
    have HST := Lib.hid hst
    have HLS := Lib.hid hls
    have HOW := Lib.hid hown
    have HBW := Lib.hid hB
    have hal : (accL rs xs m).length ≤ m := accL_len rs xs m
    have HTS := Lib.hid (lnsF_size F q fun i hi => (hls i hi).1)
    clear hst hls hown hB
    by_cases hlt : q < n
    · obtain ⟨b, o, rfl, hcell⟩ := HC.out _ HBW.out q hlt
      obtain ⟨S, hS⟩ : ∃ S, F q = S := ⟨_, rfl⟩
      rw [hS] at hcell
      have g1 : (q : Int) < (n : Int) := by omega
      have g2 : (0 : Int) ≤ (q : Int) := by omega
      by_cases hsz : S.size ≤ 60
      · have g3 : decide ((S.size : Int) > 60) = false := decide_eq_false (by omega)
        have g3' : ¬ (S.size : Int) > 60 := by omega
        have HSV := Lib.hid hS
        have HIX : Hid (∀ (p : Nat) (b : UInt8), S.data.toList[p]? = some b → ∀ W, (Instr.index 9 (.string S) (.int .i64 p)).run Tryz.prog W = .ok (.int .u8 b.toNat) W) := Lib.hid fun p b h W => ixQ S p b h W
        have hlen : S.data.toList.length ≤ S.size ∧ S.size ≤ S.data.toList.length := by rw [Array.length_toList]; exact ⟨Nat.le_refl _, Nat.le_refl _⟩
        clear hS
        go_wp2
        go_loopw [8] (fun i wr2 => ∃ k : Nat, k ≤ S.data.toList.length ∧ i = .int .i64 k ∧ (∀ c ∈ S.data.toList.take k, c ≠ 10) ∧ wr2 = wr) (fun i _ => S.data.toList.length - (intOf i).toNat)
        case atStart => exact ⟨0, by omega, rfl, by simp, rfl⟩
        case round =>
          obtain ⟨k, hk, rfl, hnl, rfl⟩ := hrel
          have HNL := Lib.hid hnl
          clear hnl
          by_cases hkl : k < S.data.toList.length
          · obtain ⟨x, hx⟩ : ∃ x, S.data.toList[k]? = some x := ⟨_, List.getElem?_eq_getElem hkl⟩
            have hix := HIX.out k x hx
            have g4 : (k : Int) < (S.size : Int) := by omega
            have g5 : (0 : Int) ≤ (k : Int) := by omega
            by_cases h10 : x = 10
            · have g6 : ((x.toNat : Int) == 10) = true := by rw [h10]; rfl
              clear HYS HXN HC HE HST HLS HOW HTS HIX hx
              go_wp2
              go_ret
              exact ⟨rfl, HBW.out⟩
            · have g6 : ((x.toNat : Int) == 10) = false := beq_eq_false_iff_ne.2 fun h => h10 (UInt8.toNat_inj.1 (by show x.toNat = 10; omega))
              have HN2 : Hid (∀ c ∈ S.data.toList.take (k + 1), c ≠ 10) := Lib.hid fun y hy => by
                rw [List.take_add_one, hx, List.mem_append] at hy
                rcases hy with hy | hy
                · exact HNL.out y hy
                · obtain rfl : y = x := by simpa using hy
                  exact h10
              clear HYS HXN HC HE HST HLS HOW HTS HIX hx
              go_wp2
              exact ⟨⟨k + 1, by omega, by go_num, HN2.out, by trivial⟩, by simp [intOf]; omega⟩
          · obtain rfl : k = S.data.toList.length := by omega
            have g4 : ¬ (S.data.toList.length : Int) < (S.size : Int) := by omega
            have HLS2 : Hid (∀ i, i < q + 1 → (F i).size ≤ 60 ∧ ∀ c ∈ (F i).data.toList, c ≠ 10) := Lib.hid fun i hi => by
              rcases Nat.lt_succ_iff_lt_or_eq.1 hi with h1 | rfl
              · exact HLS.out i h1
              · rw [HSV.out]
                refine ⟨hsz, fun c hc => HNL.out c ?_⟩
                rw [List.take_length]; exact hc
            obtain ⟨T, hT⟩ : ∃ T : ByteArray, (⟨(joinL (lnsF F q)).toArray⟩ : ByteArray) = T := ⟨_, rfl⟩
            have HTN : Hid (T ++ (S ++ ⟨#[10]⟩) = ⟨(joinL (lnsF F (q + 1))).toArray⟩) := Lib.hid (by
              have e3 : S = ⟨S.data.toList.toArray⟩ := ByteArray.ext (by simp)
              conv => lhs; rw [e3]
              rw [← hT, show (⟨#[10]⟩ : ByteArray) = ⟨([10] : List UInt8).toArray⟩ from rfl, txt_app, txt_app, lnsF_succ, HSV.out])
            have hTs : T.size ≤ 2000 := by
              rw [← hT]
              show (joinL (lnsF F q)).toArray.size ≤ _
              have := HTS.out
              simp
              omega
            have y1 : ¬ 9223372036854775807 < S.size + 1 := by omega
            have y2 : ¬ 9223372036854775807 < T.size + (S.size + 1) := by omega
            obtain ⟨hsr, hxc⟩ := HYS.out q hlt (by rw [HSV.out]; exact hsz)
            rw [HSV.out] at hsr
            have HRD := Lib.hid hsr.2
            have HAC0 : Hid (xs q = 0 → accL rs xs (q + 1) = accL rs xs q ++ [rs q]) := Lib.hid fun h => by rw [accL, if_pos h]
            have HAC4 : Hid (xs q = 4 → accL rs xs (q + 1) = accL rs xs q) := Lib.hid fun h => by rw [accL, if_neg (by rw [h]; decide)]
            obtain ⟨v, hv⟩ : ∃ v, rs q = v := ⟨_, rfl⟩
            obtain ⟨x, hx⟩ : ∃ x, xs q = x := ⟨_, rfl⟩
            have HXE := Lib.hid hx
            rw [hv, hx] at HRD
            rw [hv] at HAC0
            rw [hx] at HAC0 HAC4 hxc
            rw [hT]
            clear HYS HIX HNL HTS HSV hsr hv hx hT
            rcases HST.out with ⟨hok, ⟨he1, he2, he3⟩ | ⟨hmq2, hb1, hb2, hb3, hb4⟩⟩
            · subst he1 he2 he3
              have HOK := Lib.hid hok
              clear HST hok
              rcases hxc with rfl | rfl | rfl
              · have HACX := Lib.hid (HAC0.out rfl)
                obtain ⟨ac, hac⟩ : ∃ ac, accL rs xs m = ac := ⟨_, rfl⟩
                rw [hac] at HACX HOW hal
                rw [hac]
                clear HAC0 HAC4 hac
                go_wp2_with fail
                refine (HRD.out _).mono ?_
                rintro e w2 ⟨rfl, hB2⟩
                have HO2 := Lib.hid (HOW.out.below hB2 (Nat.le_refl _))
                have HB2 := Lib.hid (HBW.out.trans (hB2.mono HBW.out.size))
                have hs2 : w0.heap.size ≤ w2.heap.size := HB2.out.size
                clear hB2 HOW
                go_wp2_with (at_builtin; go_must (refine app_cells _ (by rfl) _ _ _ 29 (by rfl) Tryz.underlying36 infoR3 (by rfl) (by decide) rfl ((HO2.out.alloc _).alloc _) rfl (one_instK _ (w2.heap.size + 1) (by simp) v 29) (fun i _ => icell_one _ i) (by unfold maxLen; omega) (by omega) (by simp; omega) (ac.length + 1) rfl (icell (gOf (ac ++ [v]))) (icell_gcat ac v) ?_; rintro A7 c7 w7 hown7 hB7))
                exact ⟨⟨m + 1, m + 1, 0, 0, A7, c7, by omega, by omega, ⟨fun i hi => by
                  rcases Nat.lt_succ_iff_lt_or_eq.1 hi with h1 | rfl
                  · exact HOK.out i h1
                  · exact .inl HXE.out, .inl ⟨rfl, rfl, rfl⟩⟩, by rw [HTN.out], by rw [HACX.out, List.length_append]; rfl, by trivial, by trivial, by go_num, HLS2.out, by rw [HACX.out, List.length_append]; exact hown7, ((HB2.out.alloc hs2 _).alloc (by simp; omega) _).trans hB7⟩, by simp [intOf]; omega⟩
              · have HACX := Lib.hid (HAC4.out rfl)
                clear HAC0 HAC4
                go_wp2_with fail
                refine (HRD.out _).mono ?_
                rintro e w2 ⟨rfl, hB2⟩
                have HO2 := Lib.hid (HOW.out.below hB2 (Nat.le_refl _))
                have HB2 := Lib.hid (HBW.out.trans (hB2.mono HBW.out.size))
                have hs2 : w0.heap.size ≤ w2.heap.size := HB2.out.size
                clear hB2 HOW
                go_wp2
                exact ⟨⟨m + 1, m + 1, 0, 0, A', c', by omega, by omega, ⟨fun i hi => by
                  rcases Nat.lt_succ_iff_lt_or_eq.1 hi with h1 | rfl
                  · exact HOK.out i h1
                  · exact .inr HXE.out, .inl ⟨rfl, rfl, rfl⟩⟩, by rw [HTN.out], by rw [HACX.out], by trivial, by trivial, by go_num, HLS2.out, by rw [HACX.out]; exact HO2.out.alloc _, HB2.out.alloc hs2 _⟩, by simp [intOf]; omega⟩
              · clear HAC0 HAC4
                go_wp2_with fail
                refine (HRD.out _).mono ?_
                rintro e w2 ⟨rfl, hB2⟩
                have HO2 := Lib.hid (HOW.out.below hB2 (Nat.le_refl _))
                have HB2 := Lib.hid (HBW.out.trans (hB2.mono HBW.out.size))
                have hs2 : w0.heap.size ≤ w2.heap.size := HB2.out.size
                clear hB2 HOW
                go_wp2
                exact ⟨⟨m + 1, m, (m : Int) + 1, 13, A', c', by omega, by omega, ⟨HOK.out, .inr ⟨by omega, by rw [HXE.out]; rfl, by rw [HXE.out]; rfl, rfl, HXE.out.symm⟩⟩, by rw [HTN.out], by trivial, by go_num, by trivial, by go_num, HLS2.out, HO2.out.alloc _, HB2.out.alloc hs2 _⟩, by simp [intOf]; omega⟩
            · have HBD : Hid ((∀ i, i < m → xs i = 0 ∨ xs i = 4) ∧ (xs m == 0) = false ∧ (xs m == 4) = false) := Lib.hid ⟨hok, hb1, hb2⟩
              subst hb3
              have HWG := Lib.hid hb4
              have g7 : ((m : Int) + 1 == 0) = false := beq_eq_false_iff_ne.2 (by omega)
              clear HST hok hb1 hb2 hb4 HAC0 HAC4 HXE
              rcases hxc with rfl | rfl | rfl
              all_goals
                go_wp2_with fail
                refine (HRD.out _).mono ?_
                rintro e w2 ⟨rfl, hB2⟩
                have HO2 := Lib.hid (HOW.out.below hB2 (Nat.le_refl _))
                have HB2 := Lib.hid (HBW.out.trans (hB2.mono HBW.out.size))
                have hs2 : w0.heap.size ≤ w2.heap.size := HB2.out.size
                clear hB2
                go_wp2
                exact ⟨⟨q + 1, m, (m : Int) + 1, wrong, A', c', by omega, by omega, ⟨HBD.out.1, .inr ⟨by omega, HBD.out.2.1, HBD.out.2.2, rfl, HWG.out⟩⟩, by rw [HTN.out], by trivial, by trivial, by trivial, by go_num, HLS2.out, HO2.out.alloc _, HB2.out.alloc hs2 _⟩, by simp [intOf]; omega⟩
      · have g3 : decide ((S.size : Int) > 60) = true := decide_eq_true (by omega)
        clear HYS HXN HC HE HST HLS HOW HTS
        go_wp2
        go_ret
        exact ⟨rfl, HBW.out⟩
    · obtain rfl : q = n := by omega
      have g1 : ¬ (q : Int) < (q : Int) := by omega
      obtain ⟨T, hT⟩ : ∃ T : ByteArray, (⟨(joinL (lnsF F q)).toArray⟩ : ByteArray) = T := ⟨_, rfl⟩
      have hlenL : (lnsF F q).length = q := by unfold lnsF; simp
      have hL10 : ∀ x ∈ lnsF F q, ∀ c ∈ x, c ≠ 10 := fun x hx c hc => by
        unfold lnsF at hx
        obtain ⟨i, hi, rfl⟩ := List.mem_map.1 hx
        exact (HLS.out i (List.mem_range.1 hi)).2 c hc
      have hRD : ∀ i, i < (lnsF F q).length + 1 → ∀ X, Below wr.heap.size wr X → Calls Tryz.prog 6 #[.string ⟨(pcN (lnsF F q) i).toArray⟩] X fun e w' => e = .returned (.tuple #[.agg (instA ((fun j => if j < q then rs j else ⟨0, 0, 0, 0⟩) i).c ((fun j => if j < q then rs j else ⟨0, 0, 0, 0⟩) i).t ((fun j => if j < q then rs j else ⟨0, 0, 0, 0⟩) i).f ((fun j => if j < q then rs j else ⟨0, 0, 0, 0⟩) i).k), .int .i64 (xs i)]) ∧ Below X.heap.size X w' := fun i hi X hX => by
        rw [hlenL] at hi
        by_cases h : i < q
        · have e1 : (⟨(pcN (lnsF F q) i).toArray⟩ : ByteArray) = F i := by
            rw [pcN_at _ _ (by omega)]
            unfold lnsF
            rw [List.getD_eq_getElem?_getD, List.getElem?_map, List.getElem?_range h]
            exact ByteArray.ext (by simp)
          simp only [if_pos h]
          rw [e1]
          exact (HYS.out i h (HLS.out i h).1).1.1 X (envN_on HE.out (HBW.out.trans (hX.mono HBW.out.size)) (Nat.le_refl _))
        · obtain rfl : i = q := by omega
          simp only [if_neg h]
          have e1 : pcN (lnsF F i) i = [] := by
            have := pcN_last (lnsF F i)
            rw [hlenL] at this
            exact this
          rw [e1, HXN.out]
          exact readL_empty ⟨([] : List UInt8).toArray⟩ (by decide) (by decide) (by decide) X
      have hsz0 : (joinL (lnsF F q)).length ≤ 65536 := by have := HTS.out; omega
      have HAW : Hid (∀ X, Below w0.heap.size w0 X → Calls Tryz.prog 9 #[] X fun e w' => e = .returned (.bool true) ∧ Below X.heap.size X w') := Lib.hid fun X hX => awake3_any X (envN_on HE.out hX (Nat.le_refl _)).r.env
      rcases HST.out with ⟨hok, ⟨he1, he2, he3⟩ | ⟨hmq2, hb1, hb2, hb3, hb4⟩⟩
      · subst he2 he3
        obtain rfl : m = q := he1
        have hacc : ∀ rs' : Nat → IV, (∀ i, i < m → rs' i = rs i) → accL rs' xs m = accL rs xs m := fun rs' h => by
          have : ∀ k, k ≤ m → accL rs' xs k = accL rs xs k := by
            intro k
            induction k with
            | zero => intro _; rfl
            | succ k ih => intro hk; rw [accL, accL, ih (by omega), h k (by omega)]
          exact this m (Nat.le_refl _)
        have hpr := progL_any (lnsF F m) hL10 hsz0 (fun j => if j < m then rs j else ⟨0, 0, 0, 0⟩) xs (m + 1) (by omega) (fun i hi => by
          rcases Nat.lt_succ_iff_lt_or_eq.1 hi with h1 | rfl
          · exact hok i h1
          · exact .inr HXN.out) (fun h => by omega) wr (envN_on HE.out HBW.out (Nat.le_refl _)).r.env hRD
        have hae : accL (fun j => if j < m then rs j else ⟨0, 0, 0, 0⟩) xs (m + 1) = accL rs xs m := by
          rw [accL, if_neg (by rw [HXN.out]; decide)]
          exact hacc _ fun i hi => by simp only [if_pos hi]
        rw [hae, hT] at hpr
        have hpr2 : Calls Tryz.prog 10 #[.string T] wr fun e w' => ∃ A7 c7, e = .returned (.tuple #[.slice A7 (accL rs xs m).length c7, .int .i64 0, .int .i64 0]) ∧ Cel w' w'.heap.size 4 A7 (accL rs xs m).length c7 (icell (gOf (accL rs xs m))) ∧ Below wr.heap.size wr w' := hpr.mono fun e w' h => by
          rcases h with ⟨⟨_, A7, c7, h1, h2⟩ | ⟨h1, _⟩, h3⟩
          · exact ⟨A7, c7, h1, h2, h3⟩
          · omega
        have HPR := Lib.hid hpr2
        obtain ⟨ac, hac⟩ : ∃ ac, accL rs xs m = ac := ⟨_, rfl⟩
        rw [hac] at HPR HOW hal
        rw [hac, hT]
        clear hpr hpr2 hacc hae hRD hok HST HLS HTS HYS HXN hT hL10 hlenL hsz0 hac
        go_wp2_with fail
        refine HPR.out.mono ?_
        rintro e w2 ⟨A7, c7, rfl, hc7, hB2⟩
        have HB2 := Lib.hid (HBW.out.trans (hB2.mono HBW.out.size))
        have HC7 := Lib.hid hc7
        have HCW := Lib.hid (HOW.out.below hB2 (Nat.le_refl _)).cel
        clear hc7 hB2 HPR HOW
        obtain ⟨N, hN⟩ : ∃ N, ac.length = N := ⟨_, rfl⟩
        rw [hN] at HC7 HCW hal
        rw [hN]
        have HNE := Lib.hid hN
        clear hN
        go_wp2
        go_loopw [14] (fun i wr2 => ∃ k : Nat, k ≤ N ∧ i = .int .i64 k ∧ Below w2.heap.size w2 wr2) (fun i _ => N - (intOf i).toNat)
        case atStart => exact ⟨0, by omega, rfl, Below.refl _ _⟩
        case round =>
          obtain ⟨k, hk, rfl, hb⟩ := hrel
          have HBX := Lib.hid hb
          clear hb
          by_cases hkl : k < N
          · obtain ⟨b1, o1, rfl, hb1, hcc1⟩ := HC7.out.at_ (by omega)
            obtain ⟨b2, o2, rfl, hb2, hcc2⟩ := HCW.out.at_ (by omega)
            have g4 : (k : Int) < (N : Int) := by omega
            have g5 : (0 : Int) ≤ (k : Int) := by omega
            have HS0 : Hid (∀ X, Below wr.heap.size wr X → X.cell? ⟨b1, o1 + k * 4, none⟩ = some (.int .u16 (gOf ac k).c) ∧ X.cell? ⟨b1, o1 + k * 4 + 1, none⟩ = some (.int .u8 (gOf ac k).t) ∧ X.cell? ⟨b1, o1 + k * 4 + 2, none⟩ = some (.int .u8 (gOf ac k).f) ∧ X.cell? ⟨b1, o1 + k * 4 + 3, none⟩ = some (.int .u32 (gOf ac k).k) ∧ X.cell? ⟨b2, o2 + k * 4, none⟩ = some (.int .u16 (gOf ac k).c) ∧ X.cell? ⟨b2, o2 + k * 4 + 1, none⟩ = some (.int .u8 (gOf ac k).t) ∧ X.cell? ⟨b2, o2 + k * 4 + 2, none⟩ = some (.int .u8 (gOf ac k).f) ∧ X.cell? ⟨b2, o2 + k * 4 + 3, none⟩ = some (.int .u32 (gOf ac k).k)) := Lib.hid fun X hX => by
              have hY := HBX.out.trans (hX.mono HBX.out.size)
              have c1 : ∀ j, j < 4 → X.cell? ⟨b1, o1 + (k * 4 + j), none⟩ = some (icell (gOf ac) (k * 4 + j)) := fun j hj => (hY.cell (p := ⟨b1, o1 + (k * 4 + j), none⟩) hb1).trans (hcc1 (k * 4 + j) (by omega))
              have c2 : ∀ j, j < 4 → X.cell? ⟨b2, o2 + (k * 4 + j), none⟩ = some (icell (gOf ac) (k * 4 + j)) := fun j hj => (hY.cell (p := ⟨b2, o2 + (k * 4 + j), none⟩) hb2).trans (hcc2 (k * 4 + j) (by omega))
              refine ⟨?_, ?_, ?_, ?_, ?_, ?_, ?_, ?_⟩
              · have := c1 0 (by decide); rw [Nat.add_zero, icell0] at this; exact this
              · have := c1 1 (by decide); rw [icell1, ← Nat.add_assoc] at this; exact this
              · have := c1 2 (by decide); rw [icell2, ← Nat.add_assoc] at this; exact this
              · have := c1 3 (by decide); rw [icell3, ← Nat.add_assoc] at this; exact this
              · have := c2 0 (by decide); rw [Nat.add_zero, icell0] at this; exact this
              · have := c2 1 (by decide); rw [icell1, ← Nat.add_assoc] at this; exact this
              · have := c2 2 (by decide); rw [icell2, ← Nat.add_assoc] at this; exact this
              · have := c2 3 (by decide); rw [icell3, ← Nat.add_assoc] at this; exact this
            generalize gOf ac k = v at HS0
            clear hcc1 hcc2
            go_upto_region 30 with fail
            have hk0 : Below wr.heap.size wr wr.drew := (Below.refl _ wr).drew
            go_region_held3 (fun w' => w'.cell? ⟨b1, o1 + k * 4, none⟩ = some (.int .u16 v.c) ∧ w'.cell? ⟨b1, o1 + k * 4 + 1, none⟩ = some (.int .u8 v.t) ∧ w'.cell? ⟨b1, o1 + k * 4 + 2, none⟩ = some (.int .u8 v.f) ∧ w'.cell? ⟨b1, o1 + k * 4 + 3, none⟩ = some (.int .u32 v.k) ∧ w'.cell? ⟨b2, o2 + k * 4, none⟩ = some (.int .u16 v.c) ∧ w'.cell? ⟨b2, o2 + k * 4 + 1, none⟩ = some (.int .u8 v.t) ∧ w'.cell? ⟨b2, o2 + k * 4 + 2, none⟩ = some (.int .u8 v.f) ∧ w'.cell? ⟨b2, o2 + k * 4 + 3, none⟩ = some (.int .u32 v.k))
              (exact HS0.out _ (by first | with_reducible assumption | exact hk0))
              (first
                | (go_at_call 8
                   (with_reducible refine (of3_any _ _ _ _ _).mono ?_)
                   rintro e w7 ⟨rfl, hB7⟩
                   have hk1 := bTrans (by first | with_reducible assumption | exact hk0) hB7))
            all_goals go_wp2
            all_goals exact ⟨⟨k + 1, by omega, by go_num, HBX.out.trans ((by with_reducible assumption : Below wr.heap.size wr _).mono HBX.out.size)⟩, by simp [intOf]; omega⟩
          · obtain rfl : k = N := by omega
            have g4 : ¬ (k : Int) < (k : Int) := by omega
            have hb := HB2.out.trans (HBX.out.mono HB2.out.size)
            have HF := Lib.hid hb
            have HX := Lib.hid (HAW.out wr hb)
            clear hb HAW
            go_wp2_with fail
            refine HX.out.mono ?_
            rintro e w4 ⟨rfl, hB4⟩
            go_wp2
            go_ret
            exact ⟨rfl, HF.out.trans (hB4.mono HF.out.size)⟩
      · subst hb3
        have hpr := progL_any (lnsF F q) hL10 hsz0 (fun j => if j < q then rs j else ⟨0, 0, 0, 0⟩) xs m (by omega) hok (fun _ => ⟨hb1, hb2⟩) wr (envN_on HE.out HBW.out (Nat.le_refl _)).r.env hRD
        rw [hT, ← hb4] at hpr
        have hpr2 : Calls Tryz.prog 10 #[.string T] wr fun e w' => e = .returned (.tuple #[.slice none 0 0, .int .i64 ((m : Int) + 1), .int .i64 wrong]) ∧ Below wr.heap.size wr w' := hpr.mono fun e w' h => by
          rcases h with ⟨⟨h1, _⟩ | ⟨_, h1⟩, h3⟩
          · omega
          · exact ⟨h1, h3⟩
        have HPR := Lib.hid hpr2
        have g7 : decide ((m : Int) + 1 > 0) = true := decide_eq_true (by omega)
        have g8 : (m : Int) + 1 > 0 := by omega
        rw [hT]
        clear hpr hpr2 hRD hok HST HLS HTS HYS HXN hT hL10 hlenL hsz0 hb1 hb2 hb4 HOW
        go_wp2_with fail
        refine HPR.out.mono ?_
        rintro e w2 ⟨rfl, hB2⟩
        have hb := HBW.out.trans (hB2.mono HBW.out.size)
        have HF := Lib.hid hb
        have HX := Lib.hid (HAW.out w2 hb)
        clear hb hB2 HAW HPR
        go_wp2_with fail
        refine HX.out.mono ?_
        rintro e w4 ⟨rfl, hB4⟩
        go_wp2
        go_ret
        exact ⟨rfl, HF.out.trans (hB4.mono HF.out.size)⟩
set_option maxHeartbeats 1000000 in
theorem walk_ListPrograms {w0 : World} (A : Option Addr) (n c : Nat) (F : Nat → ByteArray) (hr : Cel w0 w0.heap.size 1 A n c (fun i => .string (F i))) (he : EnvN w0) :
    Calls Tryz.prog 4 #[.slice A n c] w0 fun e w' => e = .returned (.bool true) ∧ Below w0.heap.size w0 w' := by
  have hmx := hr.le
  unfold maxLen at hmx
  obtain ⟨m1, m2⟩ := hmx
  by_cases h : n ≤ 30
  · exact programs_ok A n c F hr h he
  · have q1 : (n : Int) > 30 := by omega
    have q2 : decide ((n : Int) > 30) = true := decide_eq_true q1
    go_enter Tryz.func4, Tryz.ntmps4
    go_wp2
    go_ret
    exact ⟨rfl, Below.refl _ _⟩
theorem space_datum : (Rows.laid_strings_asciiSpace : DataW Unit) = Lib.tabData .u8 Lib.asciiSpaceTab := by kernel_rfl
theorem starE : "*" ++ "errors.errorString" = "*errors.errorString" := by decide
theorem rowE (u : TypeId) (h : Tryz.prog.typeName? 3 u = some "*errors.errorString") : u = 162 :=
  typeName_ptr_named (nm := "errors.errorString") (by rw [starE]; kernel_rfl) (by kernel_rfl) (by decide) u (by rw [starE]; exact h)
theorem of_laid {W : World} (h : laidMetH Tryz.prog Rows.listProgramsRow.laid W) (hSh : W.ShapedOpen Tryz.prog) : EnvN W := by
  rw [MakeChecks.laidMetH_plain _ _ _ (by kernel_rfl)] at h
  have h3 := h.tail.tail.tail.tail
  have h4 := h.tail.tail.tail.tail.tail
  have h7 := h.tail.tail.tail.tail.tail.tail.tail
  rw [space_datum] at h7
  obtain ⟨x, sx, hx, _, _, _⟩ := laid_sentinel (g := 7) (ti := 65) (tp := 162) (te := 164) (ts := 9) h3 (by kernel_rfl) (by kernel_rfl) Tryz.underlying65 rowE Tryz.underlying162 Tryz.underlying164 rfl rfl Tryz.underlying9 (by kernel_rfl) (by kernel_rfl)
  obtain ⟨y, sy, hy, _, _, _⟩ := laid_sentinel (g := 6) (ti := 65) (tp := 162) (te := 164) (ts := 9) h4 (by kernel_rfl) (by kernel_rfl) Tryz.underlying65 rowE Tryz.underlying162 Tryz.underlying164 rfl rfl Tryz.underlying9 (by kernel_rfl) (by kernel_rfl)
  exact ⟨⟨env_of (tab_of_third h) hSh, Lib.tabIs_of_head (t := 103) (e := 5) (n := 256) (g := 0) (by kernel_rfl) (by kernel_rfl) Tryz.underlying103 Tryz.underlying5 (by kernel_rfl) (by kernel_rfl) h7⟩, ⟨_, _, hy⟩, ⟨_, _, hx⟩⟩

namespace listProgramsRow
open Go.ChangeShapes Go.WideShapes Go.ChangeAt Go.RowKit Go.Joins
open Go.ChangeMaps (open_string shut_string)
set_option linter.unusedVariables false
theorem own : ownKnob Tryz.prog.godebug = none := by kernel_rfl
theorem laidOut : laidOutB Tryz.prog = true := by kernel_rfl
set_option maxRecDepth 100000 in
theorem lifted (os : Os) (started : os.Started) (H : Type) (enc : TypeId × Value → H) :
    ReturnsInHanded {} Tryz.checked os 4 .any (fun w args => (Rows.listProgramsSpec.pre enc Tryz.prog Tryz.f4 [] false w args ∧ laidMetH Tryz.prog Rows.listProgramsRow.laid w) ∧ sizedMet enc Tryz.prog Tryz.f4 (OpenSpec.ofChange Rows.listProgramsSpec) false w args) (Rows.listProgramsSpec.post enc Tryz.prog Tryz.f4 false true false false) := by
  refine returnsInHanded_and_shaped (C := Tryz.checked) (X := fun w _ => laidMetH Tryz.prog Rows.listProgramsRow.laid w) (fun _ _ _ hh h => h.of_heap hh) own started (by kernel_rfl) Tryz.func4
    (ChangeSpec.witness_shaped (enc := enc) (C := Tryz.checked) (os := os) (X := fun w _ => laidMetH Tryz.prog Rows.listProgramsRow.laid w) false (World.laidAll Tryz.prog os Rows.listProgramsRow.laid) #[.slice none 0 0] 8 (World.laidAll_os _ _ _) (World.shaped_of_ZipB (by kernel_rfl) (by kernel_rfl)) (by kernel_rfl) (by kernel_rfl) (by kernel_rfl) (by rw [MakeChecks.laidMetH_plain _ _ _ (by kernel_rfl)]; exact laidMet_laidAll _ (by kernel_rfl) (by kernel_rfl))) ?_
  intro W base args ds gs before hval0 hW _ _ hL hSh _
  have hval : ∀ (j : Nat) t v, Tryz.f4.params[j]? = some t → args[j]? = some v → Value.okWide Tryz.prog W .any base t v := hval0
  have hW' := hW
  obtain ⟨p, q, hA0, hV, rfl, hfz, hnd⟩ := hW
  have hA : DataW.TrodAll enc Tryz.prog W 0 (fun _ => true) true Tryz.f4.params.toList args.toList ds p := hA0
  rw [Tryz.params4] at hA hval
  obtain ⟨v0, vs0, d0, ds0, p0, q0, hargs, rfl, rfl, h0, r0⟩ := trodAll_cons hA
  obtain ⟨rfl, rfl, rfl⟩ := trodAll_nil r0
  obtain rfl : args = #[v0] := by cases args; simp_all
  obtain ⟨rfl, rfl⟩ := trodVars_none hV
  have k0 := h0
  have lt0 : ∀ x ∈ p0, x.block < W.heap.size := by obtain ⟨m, hm⟩ := k0; exact DataW.trod_lt m _ _ _ hm
  obtain ⟨a0, len0, cap0, rfl⟩ := okWide_slice Tryz.underlying35 (hval 0 35 v0 rfl rfl)
  obtain ⟨f0, w0⟩ : ∃ f : Nat → ByteArray, Cel W W.heap.size 1 a0 len0 cap0 (fun i => .string (f i)) := by
    obtain ⟨fuel, hf⟩ := h0
    rcases Go.Deep.open_strs Tryz.underlying35 Tryz.underlying9 (by kernel_rfl) hf with ⟨hcs, _⟩ | ⟨x, l, c, m, B, hcs, _, hl, hm, hmm, _, hcell⟩
    · simp [Value.cells] at hcs
      obtain ⟨rfl, rfl, rfl⟩ := hcs
      exact ⟨fun _ => ⟨#[]⟩, Cel.nil_⟩
    · simp [Value.cells] at hcs
      obtain ⟨rfl, rfl, rfl⟩ := hcs
      exact ⟨B, cel_strs hl hm fun i hi => (hcell i (by rw [hmm]; split <;> omega)).1⟩
  clear hA0 hval0
  refine (walk_ListPrograms (w0 := W) a0 len0 cap0 f0 w0 (of_laid hL hSh)).mono fun e W' ⟨he, bel⟩ => ?_
  subst he
  exact ⟨_, rfl, _, _, _, [], _, [], hW', trodAll_mk1 (shut_bool Tryz.underlying4 _), (trodAll_cons_mk (Below.trod laidOut (by kernel_rfl) (of_decide_eq_true (by kernel_rfl)) k0 bel lt0) trodAll_mk0), rfl, bel.frame _, fun h => by cases h⟩

theorem over : Rows.listProgramsRow.holds Tryz.pinned (OpenSpec.ofChange Rows.listProgramsSpec) :=
  OpenClaim.holds_of_wide 4 Tryz.f4 rfl rfl rfl rfl rfl rfl rfl ⟨rfl, rfl, rfl, rfl, rfl⟩ rfl rfl rfl rfl rfl (by kernel_rfl) Tryz.func4 (by kernel_rfl)
    (of_decide_eq_true (by kernel_rfl)) (by unfold Func.isWrapper; first | (rw [if_pos (by decide +kernel)]; kernel_rfl) | (rw [if_neg (by decide +kernel)]; exact ⟨rfl, rfl⟩))
    (fun os started H enc _ => lifted os started H enc)
end listProgramsRow

theorem listPrograms_proved : Rows.ListProgramsCardSaid :=
  Claim7.holds_tied_plain_at .later [] [.data, .data, .data, .data, .sentinel, .sentinel, .listed, .data, .pinned] true Rows.listProgramsCard.stood.harness true
    listProgramsRow.over (fun _ h => by cases h) (by kernel_rfl) (fun _ h => by cases h) listPrograms_row_tie rfl ⟨rfl, rfl⟩ (by kernel_rfl) rfl
    (fun f fn hf hfn => by
      obtain rfl : f = 4 := Option.some.inj ((show Tryz.prog.funcNamed "strainer/strainerlaw03.ListPrograms" = some 4 by kernel_rfl).symm.trans hf) |>.symm
      obtain rfl : fn = Tryz.f4 := (Option.some.inj (Tryz.func4.symm.trans hfn)).symm
      exact ⟨by kernel_rfl, fun j t ht => by
        rw [Tryz.params4] at ht
        have hall : ∀ t ∈ [35], Tryz.prog.wantsStandIn t = false := by
          intro t ht
          simp only [List.mem_cons, List.not_mem_nil, or_false] at ht
          rcases ht with rfl <;> kernel_rfl
        exact hall t (by simpa using Array.mem_of_getElem? ht)⟩)
    (by kernel_rfl)
#print axioms listPrograms_proved
end Go.Proofs.YtebeoadmdflfcaaGreatDoor
