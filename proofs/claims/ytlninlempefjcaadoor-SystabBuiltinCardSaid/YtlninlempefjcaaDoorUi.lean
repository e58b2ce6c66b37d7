/-
  Which rows may be a table, as a closed check; the built-in table may be.
-/
import Derived.Test.YtlninlempefjcaaDoorUf
namespace Go.Proofs.YtlninlempefjcaaDoor
open Go.RowKit
set_option linter.unusedVariables false
set_option maxRecDepth 100000

def chB (b : UInt8) : Bool := (decide (97 ≤ b.toNat) && decide (b.toNat ≤ 122)) || (decide (48 ≤ b.toNat) && decide (b.toNat ≤ 57)) || b.toNat == 95
def nmB (s : ByteArray) : Bool := (s.size != 0) && decide (s.size ≤ 30) && ((s.data.toList.take 1).all fun c => decide (97 ≤ c.toNat) && decide (c.toNat ≤ 122)) && !(s.data.toList == ([100, 101, 102, 97, 117, 108, 116] : List UInt8)) && !(s.data.toList == ([120, 51, 50] : List UInt8)) && s.data.toList.all chB
def rngB (r : SR) : Bool := (List.range 5).all fun a => decide (-1 ≤ numI r a) && decide (numI r a ≤ 1073741823)
def mxB (r : SR) : Bool := (r.mx == 0 && r.sb == 0) || ((r.mx == 1 || r.mx == 2) && decide (1 ≤ r.sb) && decide (r.sb ≤ 255))
def clB (p r : SR) : Bool := ((List.range 5).any fun a => decide (0 ≤ numI r a) && (numI p a == numI r a)) || (decide (0 < r.mx) && (p.mx == r.mx) && (p.sb == r.sb))
def riseB (T : Nat → SR) (i : Nat) : Bool := i == 0 || Op.bytesLess (T (i - 1)).nm.data.toList (T i).nm.data.toList
def okB (T : Nat → SR) (i : Nat) : Bool := nmB (T i).nm && riseB T i && rngB (T i) && mxB (T i) && !((T i).n2 == 102) && !((T i).n2 == 117) && (List.range i).all fun k => !(clB (T k) (T i))
theorem nmB_P {s : ByteArray} (h : nmB s = true) : NmP s := by
  unfold nmB at h
  simp only [Bool.and_eq_true, bne_iff_ne, decide_eq_true_eq, Bool.not_eq_true'] at h
  obtain ⟨⟨⟨⟨⟨h1, h2⟩, h3⟩, h4⟩, h5⟩, h6⟩ := h
  refine ⟨h1, h2, fun c hc => ?_, by rw [ByteArray.toList_eq]; exact h4, by rw [ByteArray.toList_eq]; exact h5, fun b hb => ?_⟩
  · have hm : c ∈ s.data.toList.take 1 := by
      cases hl : s.data.toList with
      | nil => rw [hl] at hc; simp at hc
      | cons a l => rw [hl] at hc; simp at hc; simp [hc]
    have := List.all_eq_true.1 h3 c hm
    simpa using this
  · have := List.all_eq_true.1 h6 b hb
    unfold chB at this
    simp only [Bool.or_eq_true, Bool.and_eq_true, decide_eq_true_eq, beq_iff_eq] at this
    unfold ChN
    omega
theorem okB_row {T : Nat → SR} {i : Nat} (h : okB T i = true) : rowF T i = 0 := by
  unfold okB at h
  simp only [Bool.and_eq_true, Bool.not_eq_true'] at h
  obtain ⟨⟨⟨⟨⟨⟨h1, h2⟩, h3⟩, h4⟩, h5⟩, h6⟩, h7⟩ := h
  refine row0 (nmB_P h1) (fun h0 => ?_) (fun a ha => ?_) ?_ ?_ ?_
  · unfold riseB at h2
    rw [Bool.or_eq_true] at h2
    rcases h2 with h2 | h2
    · have := eq_of_beq h2; omega
    · rw [ByteArray.toList_eq, ByteArray.toList_eq]; exact h2
  · have := List.all_eq_true.1 h3 a (List.mem_range.2 ha)
    simpa using this
  · unfold mxB at h4
    simp only [Bool.or_eq_true, Bool.and_eq_true, decide_eq_true_eq, beq_iff_eq] at h4
    unfold MxP
    omega
  · rintro (h | h)
    · rw [h] at h5; cases h5
    · rw [h] at h6; cases h6
  · rintro ⟨k, hk, hc⟩
    have := List.all_eq_true.1 h7 k (List.mem_range.2 hk)
    have hcl : clB (T k) (T i) = true := by
      unfold clB
      rw [Bool.or_eq_true]
      rcases hc with ⟨a, h1, h2, h3⟩ | ⟨h1, h2, h3⟩
      · left
        exact List.any_eq_true.2 ⟨a, List.mem_range.2 h1, by simp [h2, h3]⟩
      · right
        simp [h1, h2, h3]
    rw [hcl] at this
    cases this
theorem tbl_ok : ((List.range 83).all (okB tblT)) = true := by kernel_rfl
theorem tbl_AllOk : AllOk 83 tblT := fun j hj => okB_row (List.all_eq_true.1 tbl_ok j (List.mem_range.2 hj))
end Go.Proofs.YtlninlempefjcaaDoor
