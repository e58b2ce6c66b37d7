/-
  list.split at any text; list.instOf where no form fits; list.Read at any words.
-/
import Derived.Test.YtebeoadmdflfcaaGreatDoorPs
namespace Go.Proofs.YtebeoadmdflfcaaGreatDoor
open Go.RowKit Go.Shelf
set_option linter.unusedVariables false

set_option maxHeartbeats 8000000 in
set_option maxRecDepth 100000 in
theorem instOf_none (b o n c2 : Nat) (W : Nat → List UInt8) (hW : ∀ i, i < n → (W i).length ≤ 100000) (hn : n ≤ 1000000) (hno : ∀ i, i < 42 → fitQ n W i = false) (w : World) (h2 : WdP w b o n W) (he : EnvN w) :
    Calls Tryz.prog 33 #[.slice (some ⟨b, o, none⟩) n c2] w fun e w' => e = badE ∧ Below w.heap.size w w' := by
  obtain ⟨W0, hW0⟩ : ∃ X, (w.alloc (.cells #[.slice (some ⟨b, o, none⟩) n c2] 35)).alloc (.cells #[.int .u16 0, .int .u8 0, .int .u8 0, .int .u32 0] 25) = X := ⟨_, rfl⟩
  have hb0 : Below w.heap.size w W0 := by rw [← hW0]; exact ((Below.refl _ _).alloc (Nat.le_refl _) _).alloc (by simp) _
  have r0 : RowC W0 w.heap.size #[.slice (some ⟨b, o, none⟩) n c2] 35 := by rw [← hW0]; exact (RowC.new _ _ _ _ rfl).alloc _
  have HFO := Lib.hid (formOf_none b o n c2 W hW hn hno W0 (h2.below hb0) (envN_on he hb0 (Nat.le_refl _)).r)
  have k0 := r0.cell 0 _ rfl
  have HB := Lib.hid hb0
  have HW := Lib.hid hW0
  clear hb0 hW0 r0 h2 he hW hno
  go_enter Tryz.func33, Tryz.ntmps33
  go_upto_region 1 with fail
  rw [HW.out]
  go_wp2_with fail
  refine HFO.out.mono ?_
  rintro e w1 ⟨rfl, hB1⟩
  exact ⟨rfl, rfl, HB.out.trans (hB1.mono HB.out.size)⟩
/-- strings.FieldsFunc at split's question, at every text. -/
theorem fieldsA_any (s : ByteArray) (hs : s.size ≤ 4294967296) (w : World) :
    Calls Tryz.prog 30 #[.string s, .func (.func 31) #[] #[]] w fun e w' => ∃ A, e = .returned (.slice (some ⟨A, 0, none⟩) (wds s.data.toList).length (wds s.data.toList).length) ∧ w.heap.size ≤ A ∧
      w'.ownsRow w.heap.size 9 1 (.slice (some ⟨A, 0, none⟩) (wds s.data.toList).length (wds s.data.toList).length) (wds s.data.toList).length ((wds s.data.toList).map fun x => Value.string ⟨x.toArray⟩) ∧ Below w.heap.size w w' := by
  have h := Tryz.strings_FieldsFunc 31 #[] (enters_of Tryz.func31 (by kernel_rfl) rfl) isBl s w hs (pred_blankL w)
  rw [fields_wdA s, List.length_map, List.map_map] at h
  exact h
/-- The words of a line, without its note. -/
def wsOf (l : List UInt8) : List (List UInt8) := wds (Lib.cut l [59]).1
def wsN (l : List UInt8) (i : Nat) : List UInt8 := (wsOf l).getD i []
set_option maxHeartbeats 8000000 in
theorem split_words (s : ByteArray) (hs : s.size ≤ 4294967296) (hL : (Lib.cut s.data.toList [59]).1.length ≤ 4294967296) (w : World) :
    Calls Tryz.prog 14 #[.string s] w fun e w' => ∃ A, e = .returned (.slice (some ⟨A, 0, none⟩) (wsOf s.data.toList).length (wsOf s.data.toList).length) ∧ WdP w' A 0 (wsOf s.data.toList).length (wsN s.data.toList) ∧ Below w.heap.size w w' := by
  have hc := cut_any s 59 hs w
  have hf : ∀ W, Calls Tryz.prog 30 #[.string ⟨(Lib.cut s.data.toList [59]).1.toArray⟩, .func (.func 31) #[] #[]] W fun e w' => ∃ A, e = .returned (.slice (some ⟨A, 0, none⟩) (wsOf s.data.toList).length (wsOf s.data.toList).length) ∧ WdP w' A 0 (wsOf s.data.toList).length (wsN s.data.toList) ∧ Below W.heap.size W w' := fun W => by
    refine (fieldsA_any ⟨(Lib.cut s.data.toList [59]).1.toArray⟩ (by show (Lib.cut s.data.toList [59]).1.toArray.size ≤ _; simpa using hL) W).mono ?_
    rintro e w' ⟨A, he, hA, how, hB⟩
    refine ⟨A, he, fun i hi => ?_, hB⟩
    have e1 : ((wds (Lib.cut s.data.toList [59]).1).map fun x => Value.string ⟨x.toArray⟩) = (List.range ((wsOf s.data.toList).length * 1)).map fun i => Value.string ⟨(wsN s.data.toList i).toArray⟩ := by
      rw [Nat.mul_one]
      apply List.ext_getElem (by simp [wsOf])
      intro i h1 h2
      simp [wsN, wsOf, List.getD_eq_getElem?_getD] at h1 ⊢
      rw [List.getElem?_eq_getElem h1]
      rfl
    have ho : OwnC w' W.heap.size 9 1 (some ⟨A, 0, none⟩) (wsOf s.data.toList).length (wsOf s.data.toList).length (fun i => Value.string ⟨(wsN s.data.toList i).toArray⟩) := by
      unfold OwnC
      rw [← e1]
      exact how
    obtain ⟨b, off, eb, _, hcs⟩ := ho.cel.at_ (by omega)
    injection eb with eb
    injection eb with eb eo
    subst eb
    subst eo
    exact hcs i (by omega)
  have HC := Lib.hid hc
  have HF := Lib.hid hf
  clear hc hf hL
  generalize (⟨(Lib.cut s.data.toList [59]).1.toArray⟩ : ByteArray) = S1 at HC HF
  generalize (⟨(Lib.cut s.data.toList [59]).2.1.toArray⟩ : ByteArray) = S2 at HC
  generalize (Lib.cut s.data.toList [59]).2.2 = b3 at HC
  generalize wsN s.data.toList = W at HF ⊢
  generalize (wsOf s.data.toList).length = n at HF ⊢
  go_enter Tryz.func14, Tryz.ntmps14
  go_wp2_with fail
  refine HC.out.mono ?_
  rintro e w1 ⟨rfl, nq, rfl⟩
  go_wp2_with fail
  refine (HF.out _).mono ?_
  rintro e w2 ⟨A, rfl, hW, hB2⟩
  go_wp2
  go_ret
  exact ⟨A, rfl, hW, (bdn (Below.refl w.heap.size w) nq).trans hB2⟩
/-- What a line's words are. -/
def readE (l : List UInt8) (c t f k : Nat) (e : Int) : Prop :=
  (e = 0 ∧ ∃ j, j < 42 ∧ fitQ (wsOf l).length (wsN l) j = true ∧ (∀ i, i < j → fitQ (wsOf l).length (wsN l) i = false) ∧ instE j (wsN l) = .returned (.agg (instA c t f k)))
  ∨ (e = 13 ∧ c = 0 ∧ t = 0 ∧ f = 0 ∧ k = 0 ∧ ((∀ i, i < 42 → fitQ (wsOf l).length (wsN l) i = false) ∨ ∃ j, j < 42 ∧ fitQ (wsOf l).length (wsN l) j = true ∧ (∀ i, i < j → fitQ (wsOf l).length (wsN l) i = false) ∧ instE j (wsN l) = badE))
set_option maxRecDepth 100000 in
set_option maxHeartbeats 8000000 in
theorem readL_any (s : ByteArray) (hs : s.size ≤ 100000) (hL : (Lib.cut s.data.toList [59]).1.length ≤ 100000) (hn0 : 0 < (wsOf s.data.toList).length) (hn1 : (wsOf s.data.toList).length ≤ 100000) (hW : ∀ i, i < (wsOf s.data.toList).length → (wsN s.data.toList i).length ≤ 100000)
    (c t f k : Nat) (x : Int) (hx : readE s.data.toList c t f k x) (w : World) (he : EnvN w) :
    Calls Tryz.prog 6 #[.string s] w fun e w' => e = .returned (.tuple #[.agg (instA c t f k), .int .i64 x]) ∧ Below w.heap.size w w' := by
  obtain ⟨W0, hW0⟩ : ∃ W, w.alloc (.cells #[.int .u16 0, .int .u8 0, .int .u8 0, .int .u32 0] 25) = W := ⟨_, rfl⟩
  have hb0 : Below w.heap.size w W0 := by rw [← hW0]; exact (Below.refl _ _).alloc (Nat.le_refl _) _
  have r0 : RowC W0 w.heap.size #[.int .u16 0, .int .u8 0, .int .u8 0, .int .u32 0] 25 := by rw [← hW0]; exact RowC.new _ _ _ _ rfl
  have HS := Lib.hid (split_words s (by omega) (by omega) W0)
  have hrd : ∀ A W, Below w.heap.size w W → WdP W A 0 (wsOf s.data.toList).length (wsN s.data.toList) → Calls Tryz.prog 15 #[.slice (some ⟨A, 0, none⟩) (wsOf s.data.toList).length (wsOf s.data.toList).length] W fun e w' => e = .returned (.tuple #[.agg (instA c t f k), .int .i64 x]) ∧ Below W.heap.size W w' := by
    intro A W hB hWd
    rcases hx with ⟨rfl, j, hj, hf, hno, hE⟩ | ⟨rfl, rfl, rfl, rfl, rfl, hE⟩
    · refine readW_ok _ c t f k W fun X hX => ?_
      have h := instOf_fits A 0 (wsOf s.data.toList).length (wsOf s.data.toList).length (wsN s.data.toList) hW (by omega) j hj hf hno X (hWd.below hX) (envN_on (envN_on he hB (Nat.le_refl _)) hX (Nat.le_refl _))
      rw [hE] at h
      exact h
    · refine readW_bad _ W fun X hX => ?_
      rcases hE with hno | ⟨j, hj, hf, hno, hE⟩
      · exact instOf_none A 0 (wsOf s.data.toList).length (wsOf s.data.toList).length (wsN s.data.toList) hW (by omega) hno X (hWd.below hX) (envN_on (envN_on he hB (Nat.le_refl _)) hX (Nat.le_refl _))
      · have h := instOf_fits A 0 (wsOf s.data.toList).length (wsOf s.data.toList).length (wsN s.data.toList) hW (by omega) j hj hf hno X (hWd.below hX) (envN_on (envN_on he hB (Nat.le_refl _)) hX (Nat.le_refl _))
        rw [hE] at h
        exact h
  have HRD := Lib.hid hrd
  have HB := Lib.hid hb0
  have HR := Lib.hid r0
  have HW := Lib.hid hW0
  clear hb0 r0 hW0 hrd hx hW he hL
  generalize wsN s.data.toList = WW at HS HRD
  generalize (wsOf s.data.toList).length = n at HS HRD hn0 hn1
  have g0 : ((n : Int) == 0) = false := beq_eq_false_iff_ne.2 (by omega)
  go_enter Tryz.func6, Tryz.ntmps6
  go_upto_region 1 with fail
  rw [HW.out]
  go_wp2_with fail
  refine HS.out.mono ?_
  rintro e w1 ⟨A, rfl, hWd, hB1⟩
  have HR1 := Lib.hid (HR.out.below hB1 HR.out.lt)
  have HB1 := Lib.hid (HB.out.trans (hB1.mono HB.out.size))
  have HX := Lib.hid (HRD.out A w1 HB1.out hWd)
  clear hWd hB1 HS HRD HB HR HW
  go_wp2_with fail
  refine HX.out.mono ?_
  rintro e w2 ⟨rfl, hB2⟩
  have r2 := HR1.out.below hB2 HR1.out.lt
  have HR2 := Lib.hid r2
  have HB2 := Lib.hid (HB1.out.trans (hB2.mono HB1.out.size))
  have z0 := r2.cell 0 _ rfl
  have z1 := r2.cell 1 _ rfl
  have z2 := r2.cell 2 _ rfl
  have z3 := r2.cell 3 _ rfl
  have f0 := r2.frozen 0
  have f1 := r2.frozen 1
  have f2 := r2.frozen 2
  have f3 := r2.frozen 3
  clear hB2 r2 HX HR1
  go_wp2
  exact bodyPost_ret (results_cell_row2L Tryz.results6 _ _ w.heap.size _ (instA c t f k) (0, 0) _ (.int .i64 x) (by rfl) (by rfl) (show RowC _ w.heap.size (instA c t f k) 25 from (((HR2.out.set 0 (.int .u16 c)).set 1 (.int .u8 t)).set 2 (.int .u8 f)).set 3 (.int .u32 k)) Tryz.underlying25 (by rfl) (show _ = some 4 by kernel_rfl)) rfl
    ⟨rfl, (((HB2.out.setCell (Nat.le_refl _) _).setCell (Nat.le_refl _) _).setCell (Nat.le_refl _) _).setCell (Nat.le_refl _) _⟩
end Go.Proofs.YtebeoadmdflfcaaGreatDoor
