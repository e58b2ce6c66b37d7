/-
  What follows for a table that may be: each name, number and multiplexer's number stands once.
-/
import Derived.Test.YtccklmleaffgiaaGreatDoorP11
import Derived.Test.YtccklmleaffgiaaGreatDoorP27
import Derived.Test.YtccklmleaffgiaaGreatDoorP10
import Derived.Test.YtccklmleaffgiaaGreatDoorP9
import Derived.Deep.Cut
import Derived.Test.YtccklmleaffgiaaGreatDoorCop
namespace Go.Proofs.YtccklmleaffgiaaGreatDoor
open Go.RowKit
set_option linter.unusedVariables false

theorem own_tbl {w : World} {base n c : Nat} {E : TypeId} {A : Option Addr} {T : Nat → SR} (h : OwnC w base E 8 A n c (rcell T)) : TbA w A n T := by
  rcases Nat.eq_zero_or_pos n with h0 | hp
  · exact .inl h0
  obtain ⟨b, rfl, _, hlt, hcl⟩ := own_atz h hp
  refine .inr ⟨b, 0, rfl, hlt, fun i hi => ?_⟩
  have hc : ∀ c, c < 8 → w.cell? ⟨b, 0 + i * 8 + c, none⟩ = some ((srow (T i)).getD c undef) := fun c hc => by
    rw [Nat.zero_add, hcl (i * 8 + c) (by omega), rcell_at T i c hc]
  exact ⟨hc 0 (by omega), hc 1 (by omega), hc 2 (by omega), hc 3 (by omega), hc 4 (by omega), hc 5 (by omega), hc 6 (by omega), hc 7 (by omega)⟩
/-- Rows that may be a table. -/
def AllOk (n : Nat) (T : Nat → SR) : Prop := ∀ j, j < n → rowF T j = 0
end Go.Proofs.YtccklmleaffgiaaGreatDoor

/-
  Which rows may be a table, as a closed check; the built-in table may be.
-/
namespace Go.Proofs.YtccklmleaffgiaaGreatDoor
open Go.RowKit
set_option linter.unusedVariables false
set_option maxRecDepth 100000

def chB (b : UInt8) : Bool := (decide (97 ≤ b.toNat) && decide (b.toNat ≤ 122)) || (decide (48 ≤ b.toNat) && decide (b.toNat ≤ 57)) || b.toNat == 95
def nmB (s : ByteArray) : Bool := (s.size != 0) && decide (s.size ≤ 30) && ((s.data.toList.take 1).all fun c => decide (97 ≤ c.toNat) && decide (c.toNat ≤ 122)) && !(s.data.toList == ([100, 101, 102, 97, 117, 108, 116] : List UInt8)) && !(s.data.toList == ([120, 51, 50] : List UInt8)) && s.data.toList.all chB
def rngB (r : SR) : Bool := (List.range 5).all fun a => decide (-1 ≤ numI r a) && decide (numI r a ≤ 1073741823)
def mxB (r : SR) : Bool := (r.mx == 0 && r.sb == 0) || ((r.mx == 1 || r.mx == 2) && decide (1 ≤ r.sb) && decide (r.sb ≤ 255))
def clB (p r : SR) : Bool := ((List.range 5).any fun a => decide (0 ≤ numI r a) && (numI p a == numI r a)) || (decide (0 < r.mx) && (p.mx == r.mx) && (p.sb == r.sb))
def riseB (T : Nat → SR) (i : Nat) : Bool := i == 0 || Op.bytesLess (T (i - 1)).nm.data.toList (T i).nm.data.toList
def okB (T : Nat → SR) (i : Nat) : Bool := nmB (T i).nm && riseB T i && rngB (T i) && mxB (T i) && !((T i).n2 == 102) && !((T i).n2 == 117) && (List.range i).all fun k => !(clB (T k) (T i))
theorem nmB_P {s : ByteArray} (h : nmB s = true) : NmP s := by
  unfold nmB at h
  simp only [Bool.and_eq_true, bne_iff_ne, decide_eq_true_eq, Bool.not_eq_true'] at h
  obtain ⟨⟨⟨⟨⟨h1, h2⟩, h3⟩, h4⟩, h5⟩, h6⟩ := h
  refine ⟨h1, h2, fun c hc => ?_, by rw [ByteArray.toList_eq]; exact h4, by rw [ByteArray.toList_eq]; exact h5, fun b hb => ?_⟩
  · have hm : c ∈ s.data.toList.take 1 := by
      cases hl : s.data.toList with
      | nil => rw [hl] at hc; simp at hc
      | cons a l => rw [hl] at hc; simp at hc; simp [hc]
    have := List.all_eq_true.1 h3 c hm
    simpa using this
  · have := List.all_eq_true.1 h6 b hb
    unfold chB at this
    simp only [Bool.or_eq_true, Bool.and_eq_true, decide_eq_true_eq, beq_iff_eq] at this
    unfold ChN
    omega
theorem okB_row {T : Nat → SR} {i : Nat} (h : okB T i = true) : rowF T i = 0 := by
  unfold okB at h
  simp only [Bool.and_eq_true, Bool.not_eq_true'] at h
  obtain ⟨⟨⟨⟨⟨⟨h1, h2⟩, h3⟩, h4⟩, h5⟩, h6⟩, h7⟩ := h
  refine row0 (nmB_P h1) (fun h0 => ?_) (fun a ha => ?_) ?_ ?_ ?_
  · unfold riseB at h2
    rw [Bool.or_eq_true] at h2
    rcases h2 with h2 | h2
    · have := eq_of_beq h2; omega
    · rw [ByteArray.toList_eq, ByteArray.toList_eq]; exact h2
  · have := List.all_eq_true.1 h3 a (List.mem_range.2 ha)
    simpa using this
  · unfold mxB at h4
    simp only [Bool.or_eq_true, Bool.and_eq_true, decide_eq_true_eq, beq_iff_eq] at h4
    unfold MxP
    omega
  · rintro (h | h)
    · rw [h] at h5; cases h5
    · rw [h] at h6; cases h6
  · rintro ⟨k, hk, hc⟩
    have := List.all_eq_true.1 h7 k (List.mem_range.2 hk)
    have hcl : clB (T k) (T i) = true := by
      unfold clB
      rw [Bool.or_eq_true]
      rcases hc with ⟨a, h1, h2, h3⟩ | ⟨h1, h2, h3⟩
      · left
        exact List.any_eq_true.2 ⟨a, List.mem_range.2 h1, by simp [h2, h3]⟩
      · right
        simp [h1, h2, h3]
    rw [hcl] at this
    cases this
theorem tbl_ok : ((List.range 83).all (okB tblT)) = true := by kernel_rfl
theorem tbl_AllOk : AllOk 83 tblT := fun j hj => okB_row (List.all_eq_true.1 tbl_ok j (List.mem_range.2 hj))
end Go.Proofs.YtccklmleaffgiaaGreatDoor

/-
  Layer 15: the chapter's example, its pure part: two rules of one name are one too many, one is none.
-/
namespace Go.Proofs.YtccklmleaffgiaaGreatDoor
open Go.RowKit Go.Shelf Go.Lib Go.Sort
set_option linter.unusedVariables false
set_option maxRecDepth 100000

theorem tbl_right15 : RightP tblT 83 0 0 := .inr (.inr ⟨by omega, fun j hj => tbl_AllOk j hj, rfl, rfl⟩)
abbrev rdS : ByteArray := ⟨#[114, 101, 97, 100]⟩
theorem rd_in : (List.range 83).any (isN tblT rdS) = true := by kernel_rfl
theorem rd_nm : NmP rdS := by
  refine ⟨by decide, by decide, fun c hc => ?_, by rw [Lib.toList_data]; decide, by rw [Lib.toList_data]; decide, fun b hb => ?_⟩
  · have : c = 114 := by injection hc with h; exact h.symm
    subst this; decide
  · have : b = 114 ∨ b = 101 ∨ b = 97 ∨ b = 100 := by simpa using hb
    rcases this with rfl | rfl | rfl | rfl <;> exact .inl (by decide)
theorem rd_name {nm : ByteArray} (h : NmP nm) : nameB nm = true := by
  refine decide_eq_true ?_
  have hrng : RngP ((fun _ : Nat => nmRow nm) 0) := fun a ha => by
    match a, ha with
    | 0, _ => exact ⟨by show (-1 : Int) ≤ 0; decide, by show (0 : Int) ≤ 1073741823; decide⟩
    | 1, _ => exact ⟨by show (-1 : Int) ≤ 0; decide, by show (0 : Int) ≤ 1073741823; decide⟩
    | 2, _ => exact ⟨by show (-1 : Int) ≤ 0; decide, by show (0 : Int) ≤ 1073741823; decide⟩
    | 3, _ => exact ⟨by show (-1 : Int) ≤ 0; decide, by show (0 : Int) ≤ 1073741823; decide⟩
    | 4, _ => exact ⟨by show (-1 : Int) ≤ 0; decide, by show (0 : Int) ≤ 1073741823; decide⟩
  unfold rowF
  rw [if_pos (show NmP ((fun _ : Nat => nmRow nm) 0).nm from h), if_pos (show RiseP (fun _ : Nat => nmRow nm) 0 from fun h0 => absurd h0 (Nat.lt_irrefl 0)), if_pos ⟨hrng, .inl ⟨rfl, rfl⟩⟩, if_neg (by simp), if_neg (fun ⟨k, hk, _⟩ => absurd hk (Nat.not_lt_zero _))]
abbrev rdR : RV := ⟨rdS, 8, 0, []⟩
theorem rd_may : mayV rdR = true := by
  unfold mayV
  rw [rd_name rd_nm]
  decide
theorem rd_right1 : rightV 1 0 [rdR] = true := by
  unfold rightV
  simp only [List.all_cons, List.all_nil, rd_may]
  decide
theorem rd_right2 : rightV 1 0 [rdR, rdR] = true := by
  unfold rightV
  simp only [List.all_cons, List.all_nil, rd_may]
  decide
theorem rd_one {a f : Nat} (h : ChkP 1 0 [rdR] tblT 83 a f) : a = 0 ∧ f = 0 := by
  refine ChkD.uniq h.doc (.inr ⟨rd_right1, .inr ⟨tbl_right15, ?_⟩⟩)
  exact .go 0 rdR 0 0 rfl rd_in rfl rfl (.nil 1 (by decide))
theorem rd_two {a f : Nat} (h : ChkP 1 0 [rdR, rdR] tblT 83 a f) : a = 1 ∧ f = 15 := by
  refine ChkD.uniq h.doc (.inr ⟨rd_right2, .inr ⟨tbl_right15, ?_⟩⟩)
  exact .go 0 rdR 1 15 rfl rd_in rfl rfl (.twice 1 rdR rfl rd_in rfl rfl)
end Go.Proofs.YtccklmleaffgiaaGreatDoor
