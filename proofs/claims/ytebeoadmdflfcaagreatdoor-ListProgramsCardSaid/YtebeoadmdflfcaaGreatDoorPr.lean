/-
  list.Read at an instruction's own line.
-/
import Derived.Test.YtebeoadmdflfcaaGreatDoorPq
namespace Go.Proofs.YtebeoadmdflfcaaGreatDoor
open Go.RowKit Go.Shelf
set_option linter.unusedVariables false

theorem line_cut (c t f k : Nat) : (Lib.cut (lineL c t f k) [59]).1 = lineL c t f k := by rw [cut_noC _ 59 fun x hx => (line_ok c t f k x hx).2]
theorem line_words (c t f k : Nat) (j : Nat) (hj : j < 42) (e : lineL c t f k = subst c t f k (patQ j)) : wsOf (lineL c t f k) = (flds j).map (subst c t f k) := by
  unfold wsOf
  rw [line_cut, e]
  unfold wds
  rw [← wds_chk j hj]
  exact wdF_subst c t f k (patQ j) [] []
/-- What is told is read as it was. -/
theorem readL_line (c t f k : Nat) (hc : c < 65536) (ht : t < 256) (hf : f < 256) (hk : k < 4294967296) (w : World) (he : EnvN w) :
    Calls Tryz.prog 6 #[.string ⟨(lineL c t f k).toArray⟩] w fun e w' => e = .returned (.tuple #[.agg (instA c t f k), .int .i64 0]) ∧ Below w.heap.size w w' := by
  obtain ⟨j, hj, e, h1, h2, h3, h4⟩ := line_pat c t f k
  have hws := line_words c t f k j hj e
  have hcut := line_cut c t f k
  have hll := line_len c t f k hc ht hf hk
  have hlen : (wsOf (lineL c t f k)).length = (flds j).length := by rw [hws, List.length_map]
  have hW : ∀ i, i < (flds j).length → wsN (lineL c t f k) i = subst c t f k (fldN j i) := fun i hi => by
    unfold wsN fldN
    rw [hws, List.getD_eq_getElem?_getD, List.getElem?_map, List.getD_eq_getElem?_getD, List.getElem?_eq_getElem hi]
    rfl
  obtain ⟨q1, q2, q3, q4⟩ := flds_chk j hj
  obtain ⟨f1, f2⟩ := form_first c t f k j hj _ hW
  refine readL_any ⟨(lineL c t f k).toArray⟩ ?_ ?_ ?_ ?_ ?_ c t f k 0 ?_ w he
  · show (lineL c t f k).toArray.size ≤ _
    simp; omega
  · show (Lib.cut (lineL c t f k) [59]).1.length ≤ _
    rw [hcut]; omega
  · show 0 < (wsOf (lineL c t f k)).length
    rw [hlen]; exact flds_pos j hj
  · show (wsOf (lineL c t f k)).length ≤ _
    rw [hlen]; omega
  · show ∀ i, i < (wsOf (lineL c t f k)).length → (wsN (lineL c t f k) i).length ≤ _
    rw [hlen]
    intro i hi
    rw [hW i hi]
    have h5 := subst_len c t f k hc ht hf hk (fldN j i)
    have h6 := (q2 i (by omega)).1
    omega
  · refine .inl ⟨rfl, j, hj, ?_, ?_, ?_⟩
    · show fitQ (wsOf (lineL c t f k)).length _ j = true
      rw [hlen]; exact f1
    · show ∀ i, i < j → fitQ (wsOf (lineL c t f k)).length _ i = false
      rw [hlen]; exact f2
    · exact inst_line c t f k hc ht hf hk j hj _ hW h1 h2 h3 h4
end Go.Proofs.YtebeoadmdflfcaaGreatDoor
