/-
  The document's own row and Right of layer 11.
-/
import Derived.Test.YtccklmleaffgiaaGreatDoorQ9
import Derived.BigQuiet
import Derived.Deep.QuietTactic
import Derived.Deep.CutRange
import Derived.WalkKit
import Derived.ProofKit
import Derived.OpenShut
import Derived.Deep.Slices
import Derived.Deep.Fields
namespace Go.Proofs.YtccklmleaffgiaaGreatDoor
open Go.RowKit
set_option linter.unusedVariables false

/-- Which numbers a row may have. -/
def RngP (r : SR) : Prop := ∀ a, a < 5 → -1 ≤ numI r a ∧ numI r a ≤ 1073741823
/-- Which multiplexer, and which number there. -/
def MxP (r : SR) : Prop := (r.mx = 0 ∧ r.sb = 0) ∨ ((r.mx = 1 ∨ r.mx = 2) ∧ 1 ≤ r.sb ∧ r.sb ≤ 255)
def RiseP (T : Nat → SR) (i : Nat) : Prop := 0 < i → Op.bytesLess (T (i - 1)).nm.toList (T i).nm.toList = true
/-- Two rows that have one number. -/
def ClP (p r : SR) : Prop := (∃ a, a < 5 ∧ 0 ≤ numI r a ∧ numI p a = numI r a) ∨ (0 < r.mx ∧ p.mx = r.mx ∧ p.sb = r.sb)
open Classical in
/-- What is wrong with a row, with those ahead; an error's number. -/
noncomputable def rowF (T : Nat → SR) (i : Nat) : Nat :=
  if NmP (T i).nm then (if RiseP T i then (if RngP (T i) ∧ MxP (T i) then (if (T i).n2 = 102 ∨ (T i).n2 = 117 then 17 else if ∃ k, k < i ∧ ClP (T k) (T i) then 15 else 0) else 16) else 15) else 13
section
variable {T : Nat → SR} {i : Nat}
theorem row13 (h : ¬ NmP (T i).nm) : rowF T i = 13 := by unfold rowF; rw [if_neg h]
theorem row15a (h : NmP (T i).nm) (h2 : ¬ RiseP T i) : rowF T i = 15 := by unfold rowF; rw [if_pos h, if_neg h2]
theorem row16 (h : NmP (T i).nm) (h2 : RiseP T i) (h3 : ¬ (RngP (T i) ∧ MxP (T i))) : rowF T i = 16 := by unfold rowF; rw [if_pos h, if_pos h2, if_neg h3]
theorem row17 (h : NmP (T i).nm) (h2 : RiseP T i) (h3 : RngP (T i)) (h3' : MxP (T i)) (h4 : (T i).n2 = 102 ∨ (T i).n2 = 117) : rowF T i = 17 := by unfold rowF; rw [if_pos h, if_pos h2, if_pos ⟨h3, h3'⟩, if_pos h4]
theorem row15b (h : NmP (T i).nm) (h2 : RiseP T i) (h3 : RngP (T i)) (h3' : MxP (T i)) (h4 : ¬ ((T i).n2 = 102 ∨ (T i).n2 = 117)) (h5 : ∃ k, k < i ∧ ClP (T k) (T i)) : rowF T i = 15 := by
  unfold rowF; rw [if_pos h, if_pos h2, if_pos ⟨h3, h3'⟩, if_neg h4, if_pos h5]
theorem row0 (h : NmP (T i).nm) (h2 : RiseP T i) (h3 : RngP (T i)) (h3' : MxP (T i)) (h4 : ¬ ((T i).n2 = 102 ∨ (T i).n2 = 117)) (h5 : ¬ ∃ k, k < i ∧ ClP (T k) (T i)) : rowF T i = 0 := by
  unfold rowF; rw [if_pos h, if_pos h2, if_pos ⟨h3, h3'⟩, if_neg h4, if_neg h5]
theorem row_ok (h : rowF T i = 0) : NmP (T i).nm ∧ RiseP T i ∧ RngP (T i) ∧ MxP (T i) ∧ ¬ ((T i).n2 = 102 ∨ (T i).n2 = 117) ∧ ¬ ∃ k, k < i ∧ ClP (T k) (T i) := by
  classical
  by_cases h1 : NmP (T i).nm
  · by_cases h2 : RiseP T i
    · by_cases h3 : RngP (T i) ∧ MxP (T i)
      · by_cases h4 : (T i).n2 = 102 ∨ (T i).n2 = 117
        · rw [row17 h1 h2 h3.1 h3.2 h4] at h; cases h
        · by_cases h5 : ∃ k, k < i ∧ ClP (T k) (T i)
          · rw [row15b h1 h2 h3.1 h3.2 h4 h5] at h; cases h
          · exact ⟨h1, h2, h3.1, h3.2, h4, h5⟩
      · rw [row16 h1 h2 h3] at h; cases h
    · rw [row15a h1 h2] at h; cases h
  · rw [row13 h1] at h; cases h
end
theorem RowC.num {W : World} {g : Nat} {r : SR} {t : TypeId} (h : RowC W g (srow r) t) (a : Nat) (ha : a < 5) : W.cell? ⟨g, 1 + a, none⟩ = some (.int .i64 (numI r a)) := h.cell (1 + a) _ (srow_num r a ha)

end Go.Proofs.YtccklmleaffgiaaGreatDoor
