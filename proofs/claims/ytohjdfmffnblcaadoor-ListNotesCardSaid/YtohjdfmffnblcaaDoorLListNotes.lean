/-
  The law ListNotes holds for every input: blanks around words, and a note behind a line, change nothing. No condition.
-/
import Derived.Test.YtohjdfmffnblcaaDoorRows
import Derived.Test.YtohjdfmffnblcaaDoorCards
import Derived.Test.YtohjdfmffnblcaaDoorTie
import Derived.Test.YtohjdfmffnblcaaDoorPe
import Derived.Test.YtohjdfmffnblcaaDoorPq
import Derived.Test.YtohjdfmffnblcaaDoorPsh
import Derived.Test.YtohjdfmffnblcaaDoorTab
import Derived.Stop.LaidErr
import Derived.LaidLaws
import Derived.Lay
import Derived.MakeChecks
import Derived.WalkKit
import Derived.ProofKit
import Derived.OpenShut
import Derived.ShutString
import Derived.ChangeOld
import Derived.Below
import Derived.Lib.SmallJoins
import Derived.SevenTiedAt
import Derived.LaidMore
import Derived.Stop.Joined
import Derived.Deep.Cut
import Derived.RegionTactic
import Derived.Deep.RegionHeld3
import Derived.Deep.CutRange
namespace Go.Proofs.YtohjdfmffnblcaaDoor
open Go.RowKit Go.Shelf
set_option linter.unusedVariables false

theorem bTrans {w w' w'' : World} (h : Below w.heap.size w w') (h2 : Below w'.heap.size w' w'') : Below w.heap.size w w'' := h.trans (h2.mono h.size)
/-- Texts behind one another. -/
theorem txt_app (a b : List UInt8) : (⟨a.toArray⟩ : ByteArray) ++ ⟨b.toArray⟩ = ⟨(a ++ b).toArray⟩ := by
  apply ByteArray.ext
  rw [ByteArray.data_append]
  apply Array.toList_inj.1
  simp
theorem ixN (S : ByteArray) (p : Nat) (b : UInt8) (h : S.data.toList[p]? = some b) (W : World) : (Instr.index 9 (.string S) (.int .i64 p)).run Tryd.prog W = .ok (.int .u8 b.toNat) W := by
  have hp : p < S.size := by
    have := (List.getElem?_eq_some_iff.1 h).1
    simpa using this
  have hb : S[p] = b := by
    have := (List.getElem?_eq_some_iff.1 h).2
    show S.data[p] = b
    simpa using this
  have h1 : (0 ≤ (p : Int) ∧ (p : Int) < S.size) := by omega
  simp [Instr.index, run_underlying Tryd.underlying9, asIntOf, h1, hp, hb, go_sem]
set_option maxRecDepth 100000 in
set_option maxHeartbeats 16000000 in
theorem walk_ListNotes {w0 : World} (c t f k : Nat) (hc : c < 65536) (ht : t < 256) (hf : f < 256) (hk : k < 4294967296) (s : ByteArray) (_hs : s.size ≤ maxLen) (he : EnvN w0) :
    Calls Tryd.prog 3 #[.agg #[.int .u16 c, .int .u8 t, .int .u8 f, .int .u32 k], .string s] w0 fun e w' => e = .returned (.bool true) ∧ Below w0.heap.size w0 w' := by
  obtain ⟨W0, hW0⟩ : ∃ W, w0.alloc (.cells (instA c t f k) 25) = W := ⟨_, rfl⟩
  have hb0 : Below w0.heap.size w0 W0 := by rw [← hW0]; exact (Below.refl _ _).alloc (Nat.le_refl _) _
  have r0 : RowC W0 w0.heap.size (instA c t f k) 25 := by rw [← hW0]; exact RowC.new _ _ _ _ rfl
  have HE := Lib.hid he
  have HB := Lib.hid hb0
  have HW := Lib.hid hW0
  have HR := Lib.hid r0
  clear he hb0 hW0
  by_cases hl : s.size ≤ 30
  · have q1 : ¬ (s.size : Int) > 30 := by omega
    have q2 : decide ((s.size : Int) > 30) = false := decide_eq_false q1
    obtain ⟨L, hL⟩ : ∃ L, lineL c t f k = L := ⟨_, rfl⟩
    have hll : L.length ≤ 220 := by rw [← hL]; exact line_len c t f k hc ht hf hk
    have hnl : s.data.toList.length ≤ 1000 := by rw [Array.length_toList]; show s.size ≤ _; omega
    have HLN : Hid (∀ X, Below W0.heap.size W0 X → Calls Tryd.prog 4 #[.agg #[.int .u16 c, .int .u8 t, .int .u8 f, .int .u32 k]] X fun e w' => e = .returned (.string ⟨L.toArray⟩) ∧ Below X.heap.size X w') := Lib.hid fun X hX => by
      rw [← hL]
      exact lineP_any c t f k hc ht hf hk X (env_on HE.out.r.env (HB.out.trans (hX.mono HB.out.size)) (Nat.le_refl _))
    have HRD : Hid (∀ X, Below W0.heap.size W0 X → Calls Tryd.prog 6 #[.string ((⟨(32 :: 9 :: wid L).toArray⟩ : ByteArray) ++ ⟨#[9, 59]⟩ ++ s)] X fun e w' => e = .returned (.tuple #[.agg (instA c t f k), .int .i64 0]) ∧ Below X.heap.size X w') := Lib.hid fun X hX => by
      have e1 : (⟨(32 :: 9 :: wid L).toArray⟩ : ByteArray) ++ ⟨#[9, 59]⟩ ++ s = ⟨(widT L s.data.toList).toArray⟩ := by
        have e2 : (⟨#[9, 59]⟩ : ByteArray) = ⟨([9, 59] : List UInt8).toArray⟩ := rfl
        have e3 : s = ⟨s.data.toList.toArray⟩ := ByteArray.ext (by simp)
        conv => lhs; rw [e3]
        rw [e2, txt_app, txt_app]
        congr 2
        simp [widT]
      rw [e1, ← hL]
      exact readL_wide c t f k hc ht hf hk _ hnl X (envN_on HE.out (HB.out.trans (hX.mono HB.out.size)) (Nat.le_refl _))
    have HRN : Hid (∀ X, Calls Tryd.prog 6 #[.string ((⟨#[32, 59]⟩ : ByteArray) ++ s)] X fun e w' => e = .returned (.tuple #[.agg zI, .int .i64 4]) ∧ Below X.heap.size X w') := Lib.hid fun X => by
      have e1 : (⟨#[32, 59]⟩ : ByteArray) ++ s = ⟨(32 :: 59 :: s.data.toList).toArray⟩ := by
        have e2 : (⟨#[32, 59]⟩ : ByteArray) = ⟨([32, 59] : List UInt8).toArray⟩ := rfl
        have e3 : s = ⟨s.data.toList.toArray⟩ := ByteArray.ext (by simp)
        conv => lhs; rw [e3]
        rw [e2, txt_app]
        rfl
      rw [e1]
      exact readL_note _ hnl X
    have HAW : Hid (∀ X, Below W0.heap.size W0 X → Calls Tryd.prog 7 #[] X fun e w' => e = .returned (.bool true) ∧ Below X.heap.size X w') := Lib.hid fun X hX => awake3_any X (env_on HE.out.r.env (HB.out.trans (hX.mono HB.out.size)) (Nat.le_refl _))
    have k0 := r0.cell 0 (.int .u16 c) rfl
    have k1 := r0.cell 1 (.int .u8 t) rfl
    have k2 := r0.cell 2 (.int .u8 f) rfl
    have k3 := r0.cell 3 (.int .u32 k) rfl
    have hsz : (⟨L.toArray⟩ : ByteArray).size = L.length := by show L.toArray.size = _; simp
    clear r0 hL hnl
    go_enter Tryd.func3, Tryd.ntmps3
    go_upto_region 1 with fail
    rw [HW.out]
    go_wp2_with fail
    refine (of3_any _ _ _ _ _).mono ?_
    rintro e w1 ⟨rfl, hB1⟩
    have HB1 := Lib.hid hB1
    clear hB1
    go_wp2_with fail
    refine (HLN.out _ HB1.out).mono ?_
    rintro e w2 ⟨rfl, hB2⟩
    have HB2 := Lib.hid (bTrans HB1.out hB2)
    clear hB2
    obtain ⟨S, hS⟩ : ∃ S : ByteArray, (⟨L.toArray⟩ : ByteArray) = S := ⟨_, rfl⟩
    rw [hS] at hsz
    rw [hS]
    go_wp2_with fail
    go_loopw [6, 7] (fun x i wr => ∃ q : Nat, q ≤ L.length ∧ i = .int .i64 q ∧ x = .string ⟨(32 :: 9 :: wid (L.take q)).toArray⟩ ∧ wr = w2) (fun _ i _ => L.length - (intOf i).toNat)
    case atStart => exact ⟨0, by omega, rfl, rfl, rfl⟩
    case round =>
      obtain ⟨q, hq, rfl, rfl, rfl⟩ := hrel
      by_cases hlt : q < L.length
      · obtain ⟨b, hb⟩ : ∃ b, L[q]? = some b := ⟨_, List.getElem?_eq_getElem hlt⟩
        have hix := fun X => ixN S q b (by rw [← hS]; exact hb) X
        have htk : L.take (q + 1) = L.take q ++ [b] := by rw [List.take_add_one, hb]; rfl
        have g1 : (q : Int) < (S.size : Int) := by omega
        have g2 : (0 : Int) ≤ (q : Int) := by omega
        have hsp : (q : Int) ≤ 9223372036854775800 := by omega
        obtain ⟨X, hX⟩ : ∃ X : ByteArray, (⟨(32 :: 9 :: wid (L.take q)).toArray⟩ : ByteArray) = X := ⟨_, rfl⟩
        have hXs : X.size ≤ 1000 := by
          rw [← hX]
          have h1 := wid_len (L.take q)
          have h2 : (L.take q).length ≤ L.length := by simp; omega
          show (32 :: 9 :: wid (L.take q)).toArray.size ≤ _
          simp
          omega
        have y1 : ¬ 9223372036854775807 < X.size + 3 := by omega
        have y2 : ¬ 9223372036854775807 < X.size + (min (q + 1) L.length - q) := by omega
        rw [hX]
        by_cases h32 : b = 32
        · have hix2 : ∀ X, (Instr.index 9 (.string S) (.int .i64 q)).run Tryd.prog X = .ok (.int .u8 32) X := fun X => by
            have h := hix X
            rw [h32] at h
            exact h
          have HN : Hid (X ++ ⟨#[13, 32, 32]⟩ = (⟨(32 :: 9 :: wid (L.take (q + 1))).toArray⟩ : ByteArray)) := Lib.hid (by
            rw [← hX, show (⟨#[13, 32, 32]⟩ : ByteArray) = ⟨([13, 32, 32] : List UInt8).toArray⟩ from rfl, txt_app, htk, wid_snoc, if_pos h32]
            rfl)
          have HHX := Lib.hid hX
          have HHS := Lib.hid hS
          clear hX hS htk h32 hb hix
          go_wp2
          exact ⟨⟨q + 1, by omega, by go_num, by rw [HN.out], by trivial⟩, by simp [intOf]; omega⟩
        · have e1 : ((b.toNat : Int) == 32) = false := beq_eq_false_iff_ne.2 fun h => h32 (UInt8.toNat_inj.1 (by show b.toNat = 32; omega))
          have HN : Hid (X ++ S.extract q (q + 1) = (⟨(32 :: 9 :: wid (L.take (q + 1))).toArray⟩ : ByteArray)) := Lib.hid (by
            have e3 : (L.drop q).take 1 = [b] := by
              rw [List.drop_eq_getElem_cons hlt]
              have := (List.getElem?_eq_some_iff.1 hb).2
              rw [this]; rfl
            rw [← hX, ← hS, txt_extract, show q + 1 - q = 1 by omega, e3, txt_app, htk, wid_snoc, if_neg h32]
            rfl)
          have g3 : (q : Int) ≤ (q : Int) + 1 := by omega
          have g4 : (q : Int) + 1 ≤ (S.size : Int) := by omega
          have HHX := Lib.hid hX
          have HHS := Lib.hid hS
          clear hX hS htk h32 hb
          go_wp2
          exact ⟨⟨q + 1, by omega, by go_num, by rw [HN.out], by trivial⟩, by simp [intOf]; omega⟩
      · obtain rfl : q = L.length := by omega
        have g1 : ¬ (L.length : Int) < (S.size : Int) := by omega
        rw [List.take_length]
        obtain ⟨X, hX⟩ : ∃ X : ByteArray, (⟨(32 :: 9 :: wid L).toArray⟩ : ByteArray) = X := ⟨_, rfl⟩
        have hXs : X.size ≤ 1000 := by
          rw [← hX]
          have h1 := wid_len L
          show (32 :: 9 :: wid L).toArray.size ≤ _
          simp
          omega
        have y1 : ¬ 9223372036854775807 < X.size + 2 := by omega
        have y2 : ¬ 9223372036854775807 < X.size + 2 + s.size := by omega
        have y3 : ¬ 9223372036854775807 < 2 + s.size := by omega
        rw [hX] at HRD ⊢
        clear hX
        go_wp2_with fail
        refine (HRD.out _ HB2.out).mono ?_
        rintro e w3 ⟨rfl, hB3⟩
        obtain ⟨W4, hW4⟩ : ∃ X, w3.alloc (.cells (instA c t f k) 27) = X := ⟨_, rfl⟩
        have hb4 : Below w3.heap.size w3 W4 := by rw [← hW4]; exact (Below.refl _ _).alloc (Nat.le_refl _) _
        have r4 : RowC W4 w3.heap.size (instA c t f k) 27 := by rw [← hW4]; exact RowC.new _ _ _ _ rfl
        have HB4 := Lib.hid (bTrans (bTrans HB2.out hB3) hb4)
        have HW4 := Lib.hid hW4
        have HR4 := Lib.hid r4
        clear hB3 hW4 hb4 r4
        go_upto_region 12 with fail
        rw [HW4.out]
        go_wp2_with fail
        refine (HRN.out _).mono ?_
        rintro e w5 ⟨rfl, hB5⟩
        obtain ⟨W6, hW6⟩ : ∃ X, w5.alloc (.cells #[.int .u16 0, .int .u8 0, .int .u8 0, .int .u32 0] 27) = X := ⟨_, rfl⟩
        have hb6 : Below w5.heap.size w5 W6 := by rw [← hW6]; exact (Below.refl _ _).alloc (Nat.le_refl _) _
        have hb46 : Below W4.heap.size W4 W6 := bTrans hB5 hb6
        have r6 := HR4.out.below hb46 HR4.out.lt
        have r0' := HR.out.below (HB4.out.trans (hb46.mono HB4.out.size)) HR.out.lt
        have HB6 := Lib.hid (HB4.out.trans (hb46.mono HB4.out.size))
        have HW6 := Lib.hid hW6
        have HS0 : Hid (∀ X, Below W6.heap.size W6 X → X.cell? ⟨w3.heap.size, 0, none⟩ = some (.int .u16 c) ∧ X.cell? ⟨w3.heap.size, 1, none⟩ = some (.int .u8 t) ∧ X.cell? ⟨w3.heap.size, 2, none⟩ = some (.int .u8 f) ∧ X.cell? ⟨w3.heap.size, 3, none⟩ = some (.int .u32 k) ∧ X.cell? ⟨w0.heap.size, 0, none⟩ = some (.int .u16 c) ∧ X.cell? ⟨w0.heap.size, 1, none⟩ = some (.int .u8 t) ∧ X.cell? ⟨w0.heap.size, 2, none⟩ = some (.int .u8 f) ∧ X.cell? ⟨w0.heap.size, 3, none⟩ = some (.int .u32 k)) := Lib.hid fun X hX => ⟨(r6.below hX r6.lt).cell 0 _ rfl, (r6.below hX r6.lt).cell 1 _ rfl, (r6.below hX r6.lt).cell 2 _ rfl, (r6.below hX r6.lt).cell 3 _ rfl, (r0'.below hX r0'.lt).cell 0 _ rfl, (r0'.below hX r0'.lt).cell 1 _ rfl, (r0'.below hX r0'.lt).cell 2 _ rfl, (r0'.below hX r0'.lt).cell 3 _ rfl⟩
        have HAW6 : Hid (∀ X, Below W6.heap.size W6 X → Calls Tryd.prog 7 #[] X fun e w' => e = .returned (.bool true) ∧ Below X.heap.size X w') := Lib.hid fun X hX => HAW.out X (HB6.out.trans (hX.mono HB6.out.size))
        clear hB5 hW6 hb6 hb46 r6 r0' k0 k1 k2 k3 HRD HRN HLN HAW
        go_upto_region 13 with fail
        rw [HW6.out]
        have hk0 : Below W6.heap.size W6 W6.drew := (Below.refl _ W6).drew
        clear HW6
        go_region_held3 (fun w' => w'.cell? ⟨w3.heap.size, 0, none⟩ = some (.int .u16 c) ∧ w'.cell? ⟨w3.heap.size, 1, none⟩ = some (.int .u8 t) ∧ w'.cell? ⟨w3.heap.size, 2, none⟩ = some (.int .u8 f) ∧ w'.cell? ⟨w3.heap.size, 3, none⟩ = some (.int .u32 k) ∧ w'.cell? ⟨w0.heap.size, 0, none⟩ = some (.int .u16 c) ∧ w'.cell? ⟨w0.heap.size, 1, none⟩ = some (.int .u8 t) ∧ w'.cell? ⟨w0.heap.size, 2, none⟩ = some (.int .u8 f) ∧ w'.cell? ⟨w0.heap.size, 3, none⟩ = some (.int .u32 k))
          (exact HS0.out _ (by first | with_reducible assumption | exact hk0))
          (first
            | (go_at_call 5
               (with_reducible refine (of3_any _ _ _ _ _).mono ?_)
               rintro e w7 ⟨rfl, hB7⟩
               have hk1 := bTrans (by first | with_reducible assumption | exact hk0) hB7)
            | (go_at_call 7
               (with_reducible refine (HAW6.out _ (by first | with_reducible assumption | exact hk0)).mono ?_)
               rintro e w7 ⟨rfl, hB7⟩
               have hk1 := bTrans (by first | with_reducible assumption | exact hk0) hB7))
        all_goals go_wp2
        all_goals go_ret
        all_goals exact ⟨rfl, HB.out.trans ((HB6.out.trans ((by with_reducible assumption : Below W6.heap.size W6 _).mono HB6.out.size)).mono HB.out.size)⟩
  · have q1 : (s.size : Int) > 30 := by omega
    have q2 : decide ((s.size : Int) > 30) = true := decide_eq_true q1
    go_enter Tryd.func3, Tryd.ntmps3
    go_upto_region 1 with fail
    rw [HW.out]
    go_wp2
    go_ret
    exact ⟨rfl, HB.out⟩
theorem space_datum : (Rows.laid_strings_asciiSpace : DataW Unit) = Lib.tabData .u8 Lib.asciiSpaceTab := by kernel_rfl
theorem starE : "*" ++ "errors.errorString" = "*errors.errorString" := by decide
theorem rowE (u : TypeId) (h : Tryd.prog.typeName? 3 u = some "*errors.errorString") : u = 143 :=
  typeName_ptr_named (nm := "errors.errorString") (by rw [starE]; kernel_rfl) (by kernel_rfl) (by decide) u (by rw [starE]; exact h)
theorem of_laid {W : World} (h : laidMetH Tryd.prog Rows.listNotesRow.laid W) (hSh : W.ShapedOpen Tryd.prog) : EnvN W := by
  rw [MakeChecks.laidMetH_plain _ _ _ (by kernel_rfl)] at h
  have h3 := h.tail.tail.tail.tail
  have h4 := h.tail.tail.tail.tail.tail
  have h7 := h.tail.tail.tail.tail.tail.tail.tail
  rw [space_datum] at h7
  obtain ⟨x, sx, hx, _, _, _⟩ := laid_sentinel (g := 9) (ti := 75) (tp := 143) (te := 145) (ts := 9) h3 (by kernel_rfl) (by kernel_rfl) Tryd.underlying75 rowE Tryd.underlying143 Tryd.underlying145 rfl rfl Tryd.underlying9 (by kernel_rfl) (by kernel_rfl)
  obtain ⟨y, sy, hy, _, _, _⟩ := laid_sentinel (g := 8) (ti := 75) (tp := 143) (te := 145) (ts := 9) h4 (by kernel_rfl) (by kernel_rfl) Tryd.underlying75 rowE Tryd.underlying143 Tryd.underlying145 rfl rfl Tryd.underlying9 (by kernel_rfl) (by kernel_rfl)
  exact ⟨⟨env_of (tab_of_third h) hSh, Lib.tabIs_of_head (t := 88) (e := 5) (n := 256) (g := 0) (by kernel_rfl) (by kernel_rfl) Tryd.underlying88 Tryd.underlying5 (by kernel_rfl) (by kernel_rfl) h7⟩, ⟨_, _, hy⟩, ⟨_, _, hx⟩⟩

namespace listNotesRow
open Go.ChangeShapes Go.WideShapes Go.ChangeAt Go.RowKit Go.Joins
open Go.ChangeMaps (open_string shut_string)
set_option linter.unusedVariables false
theorem own : ownKnob Tryd.prog.godebug = none := by kernel_rfl
theorem laidOut : laidOutB Tryd.prog = true := by kernel_rfl
set_option maxRecDepth 100000 in
theorem lifted (os : Os) (started : os.Started) (H : Type) (enc : TypeId × Value → H) :
    ReturnsInHanded {} Tryd.checked os 3 .any (fun w args => (Rows.listNotesSpec.pre enc Tryd.prog Tryd.f3 [] false w args ∧ laidMetH Tryd.prog Rows.listNotesRow.laid w) ∧ sizedMet enc Tryd.prog Tryd.f3 (OpenSpec.ofChange Rows.listNotesSpec) false w args) (Rows.listNotesSpec.post enc Tryd.prog Tryd.f3 false true false false) := by
  refine returnsInHanded_and_shaped (C := Tryd.checked) (X := fun w _ => laidMetH Tryd.prog Rows.listNotesRow.laid w) (fun _ _ _ hh h => h.of_heap hh) own started (by kernel_rfl) Tryd.func3
    (ChangeSpec.witness_shaped (enc := enc) (C := Tryd.checked) (os := os) (X := fun w _ => laidMetH Tryd.prog Rows.listNotesRow.laid w) false (World.laidAll Tryd.prog os Rows.listNotesRow.laid) #[.agg #[.int .u16 0, .int .u8 0, .int .u8 0, .int .u32 0], .string ⟨#[]⟩] 8 (World.laidAll_os _ _ _) (World.shaped_of_ZipB (by kernel_rfl) (by kernel_rfl)) (by kernel_rfl) (by kernel_rfl) (by kernel_rfl) (by rw [MakeChecks.laidMetH_plain _ _ _ (by kernel_rfl)]; exact laidMet_laidAll _ (by kernel_rfl) (by kernel_rfl))) ?_
  intro W base args ds gs before hval0 hW _ _ hL hSh _
  have hval : ∀ (j : Nat) t v, Tryd.f3.params[j]? = some t → args[j]? = some v → Value.okWide Tryd.prog W .any base t v := hval0
  have hW' := hW
  obtain ⟨p, q, hA0, hV, rfl, hfz, hnd⟩ := hW
  have hA : DataW.TrodAll enc Tryd.prog W 0 (fun _ => true) true Tryd.f3.params.toList args.toList ds p := hA0
  rw [Tryd.params3] at hA hval
  obtain ⟨v0, vs0, d0, ds0, p0, q0, hargs, rfl, rfl, h0, r0⟩ := trodAll_cons hA
  obtain ⟨v1, vs1, d1, ds1, p1, q1, rfl, rfl, rfl, h1, r1⟩ := trodAll_cons r0
  obtain ⟨rfl, rfl, rfl⟩ := trodAll_nil r1
  obtain rfl : args = #[v0, v1] := by cases args; simp_all
  obtain ⟨rfl, rfl⟩ := trodVars_none hV
  have k0 := h0
  have lt0 : ∀ x ∈ p0, x.block < W.heap.size := by obtain ⟨m, hm⟩ := k0; exact DataW.trod_lt m _ _ _ hm
  have k1 := h1
  have lt1 : ∀ x ∈ p1, x.block < W.heap.size := by obtain ⟨m, hm⟩ := k1; exact DataW.trod_lt m _ _ _ hm
  obtain ⟨cc00, cc01, cc02, cc03, yy00, yy01, yy02, yy03, mm0, rfl, _, _, hyy00, hyy01, hyy02, hyy03⟩ := open_agg4 Tryd.underlying25 (by kernel_rfl) (show Tryd.prog.cellsOf 25 = 4 by kernel_rfl) (hval 0 25 v0 rfl rfl) h0
  obtain ⟨n00, ee00, _, u00⟩ := DataW.trod_int Tryd.underlying22 hyy00
  obtain ⟨n01, ee01, _, u01⟩ := DataW.trod_int Tryd.underlying5 hyy01
  obtain ⟨n02, ee02, _, u02⟩ := DataW.trod_int Tryd.underlying5 hyy02
  obtain ⟨n03, ee03, _, u03⟩ := DataW.trod_int Tryd.underlying23 hyy03
  simp only [List.cons.injEq, and_true] at ee00 ee01 ee02 ee03
  subst ee00 ee01 ee02 ee03
  simp [Lit.wf, IntKind.min, IntKind.max, IntKind.signed, IntKind.bits] at u00 u01 u02 u03
  obtain ⟨x00, rfl⟩ := Int.eq_ofNat_of_zero_le u00.1
  obtain ⟨x01, rfl⟩ := Int.eq_ofNat_of_zero_le u01.1
  obtain ⟨x02, rfl⟩ := Int.eq_ofNat_of_zero_le u02.1
  obtain ⟨x03, rfl⟩ := Int.eq_ofNat_of_zero_le u03.1
  obtain ⟨s1, rfl, rfl, rfl, w1⟩ := open_string Tryd.underlying9 (hval 1 9 v1 rfl rfl) h1
  clear hA0 hval0
  refine (walk_ListNotes (w0 := W) x00 x01 x02 x03 (by omega) (by omega) (by omega) (by omega) s1 w1 (of_laid hL hSh)).mono fun e W' ⟨he, bel⟩ => ?_
  subst he
  exact ⟨_, rfl, _, _, _, [], _, [], hW', trodAll_mk1 (shut_bool Tryd.underlying4 _), (trodAll_cons_mk (Below.trod laidOut (by kernel_rfl) (of_decide_eq_true (by kernel_rfl)) k0 bel lt0) (trodAll_cons_mk (Below.trod laidOut (by kernel_rfl) (of_decide_eq_true (by kernel_rfl)) k1 bel lt1) trodAll_mk0)), rfl, bel.frame _, fun h => by cases h⟩

theorem over : Rows.listNotesRow.holds Tryd.pinned (OpenSpec.ofChange Rows.listNotesSpec) :=
  OpenClaim.holds_of_wide 3 Tryd.f3 rfl rfl rfl rfl rfl rfl rfl ⟨rfl, rfl, rfl, rfl, rfl⟩ rfl rfl rfl rfl rfl (by kernel_rfl) Tryd.func3 (by kernel_rfl)
    (of_decide_eq_true (by kernel_rfl)) (by unfold Func.isWrapper; first | (rw [if_pos (by decide +kernel)]; kernel_rfl) | (rw [if_neg (by decide +kernel)]; exact ⟨rfl, rfl⟩))
    (fun os started H enc _ => lifted os started H enc)
end listNotesRow

theorem listNotes_proved : Rows.ListNotesCardSaid :=
  Claim7.holds_tied_plain_at .later [] [.data, .data, .data, .data, .sentinel, .sentinel, .listed, .data, .pinned] true Rows.listNotesCard.stood.harness true
    listNotesRow.over (fun _ h => by cases h) (by kernel_rfl) (fun _ h => by cases h) listNotes_row_tie rfl ⟨rfl, rfl⟩ (by kernel_rfl) rfl
    (fun f fn hf hfn => by
      obtain rfl : f = 3 := Option.some.inj ((show Tryd.prog.funcNamed "strainer/strainerlaw03.ListNotes" = some 3 by kernel_rfl).symm.trans hf) |>.symm
      obtain rfl : fn = Tryd.f3 := (Option.some.inj (Tryd.func3.symm.trans hfn)).symm
      exact ⟨by kernel_rfl, fun j t ht => by
        rw [Tryd.params3] at ht
        have hall : ∀ t ∈ [25, 9], Tryd.prog.wantsStandIn t = false := by
          intro t ht
          simp only [List.mem_cons, List.not_mem_nil, or_false] at ht
          rcases ht with rfl | rfl <;> kernel_rfl
        exact hall t (by simpa using Array.mem_of_getElem? ht)⟩)
    (by kernel_rfl)
#print axioms listNotes_proved
end Go.Proofs.YtohjdfmffnblcaaDoor
