/-
  systab.Number and Name at an ABI that is none, and at a name that the table does not have.
-/
import Derived.Test.YtcmdmnnkbliggaaGreatDoorMt
import Derived.Test.YtcmdmnnkbliggaaGreatDoorSjk
import Derived.Test.YtcmdmnnkbliggaaGreatDoorUek
import Derived.Test.YtcmdmnnkbliggaaGreatDoorSmk
import Derived.Test.YtcmdmnnkbliggaaGreatDoorMx
namespace Go.Proofs.YtcmdmnnkbliggaaGreatDoor
open Go.RowKit
set_option linter.unusedVariables false

set_option maxHeartbeats 1000000 in
theorem isABI_no (a : Int) (ha : a < 0 ∨ 5 ≤ a) (w : World) : Calls Tryz.prog 164 #[.int .i64 a] w fun e w' => e = .returned (.bool false) ∧ w = w' := by
  by_cases h : a < 0
  · have q1 : decide (a ≥ 0) = false := decide_eq_false (by omega)
    clear ha h
    go_enter Tryz.func164, Tryz.ntmps164
    go_wp2
    go_ret
    exact ⟨rfl, rfl⟩
  · have q1 : decide (a ≥ 0) = true := decide_eq_true (by omega)
    have q2 : decide (a < 5) = false := decide_eq_false (by omega)
    clear ha h
    go_enter Tryz.func164, Tryz.ntmps164
    go_wp2
    go_ret
    exact ⟨rfl, rfl⟩
set_option maxHeartbeats 1000000 in
theorem Name_bad (A : Option Addr) (n cap : Nat) (a : Int) (ha : a < 0 ∨ 5 ≤ a) (x : Int) (w : World) : Calls Tryz.prog 129 #[.slice A n cap, .int .i64 a, .int .i64 x] w fun e w' => e = .returned (.tuple #[.string ⟨#[]⟩, .int .i64 16]) ∧ Below w.heap.size w w' := by
  have HA := Lib.hid fun W => isABI_no a ha W
  have hb : Below w.heap.size w ((w.alloc (.cells #[.int .i64 a] 3)).alloc (.cells #[.int .i64 x] 3)) := ((Below.refl _ _).alloc (Nat.le_refl _) _).alloc (by simp) _
  have r0 : RowC ((w.alloc (.cells #[.int .i64 a] 3)).alloc (.cells #[.int .i64 x] 3)) w.heap.size #[.int .i64 a] 3 := (RowC.new _ _ _ _ rfl).alloc _
  have k0 := r0.cell 0 (.int .i64 a) rfl
  have HB := Lib.hid hb
  clear ha hb r0
  go_enter Tryz.func129, Tryz.ntmps129
  go_wp2_with fail
  refine (HA.out _).mono ?_
  rintro e w1 ⟨rfl, rfl⟩
  go_wp2
  go_ret2
  exact ⟨rfl, HB.out⟩
/-- What a look for a name's number gives. -/
def NumP (T : Nat → SR) (n a : Nat) (s : ByteArray) (v er : Int) : Prop :=
  (∃ j, j < n ∧ isN T s j = true ∧ (∀ i, i < j → isN T s i = false) ∧ v = numAt (T j) j a ∧ er = 0) ∨ ((∀ i, i < n → isN T s i = false) ∧ v = 0 ∧ er = 14)
end Go.Proofs.YtcmdmnnkbliggaaGreatDoor

/-
  What follows for a table that may be: each name, number and multiplexer's number stands once.
-/
namespace Go.Proofs.YtcmdmnnkbliggaaGreatDoor
open Go.RowKit
set_option linter.unusedVariables false

theorem own_tbl {w : World} {base n c : Nat} {E : TypeId} {A : Option Addr} {T : Nat → SR} (h : OwnC w base E 8 A n c (rcell T)) : TbA w A n T := by
  rcases Nat.eq_zero_or_pos n with h0 | hp
  · exact .inl h0
  obtain ⟨b, rfl, _, hlt, hcl⟩ := own_atz h hp
  refine .inr ⟨b, 0, rfl, hlt, fun i hi => ?_⟩
  have hc : ∀ c, c < 8 → w.cell? ⟨b, 0 + i * 8 + c, none⟩ = some ((srow (T i)).getD c undef) := fun c hc => by
    rw [Nat.zero_add, hcl (i * 8 + c) (by omega), rcell_at T i c hc]
  exact ⟨hc 0 (by omega), hc 1 (by omega), hc 2 (by omega), hc 3 (by omega), hc 4 (by omega), hc 5 (by omega), hc 6 (by omega), hc 7 (by omega)⟩
theorem TbA.tb {w : World} {b o n : Nat} {T : Nat → SR} (h : TbA w (some ⟨b, o, none⟩) n T) {k : Nat} (hk : k < n) : Tb w b o n T := by
  obtain ⟨b', o', e, ht⟩ := h.at_ hk
  simp only [Option.some.injEq, Addr.mk.injEq, and_true] at e
  obtain ⟨rfl, rfl⟩ := e
  exact ht
/-- Rows that may be a table. -/
def AllOk (n : Nat) (T : Nat → SR) : Prop := ∀ j, j < n → rowF T j = 0
theorem right_zero {T : Nat → SR} {n p q : Nat} (h : RightP T n p q) : q = 0 ↔ (n ≤ 400 ∧ AllOk n T) := by
  rcases h with ⟨a1, a2, a3⟩ | ⟨a1, a2, a3, a4, a5⟩ | ⟨a1, a2, a3, a4⟩
  · constructor
    · intro h; omega
    · intro h; omega
  · constructor
    · intro h; exact absurd (a5.symm.trans h) a4
    · intro h; exact absurd (h.2 p a2) a4
  · exact ⟨fun _ => ⟨a1, a2⟩, fun _ => a4⟩
theorem less_trans : ∀ x y z : List UInt8, Op.bytesLess x y = true → Op.bytesLess y z = true → Op.bytesLess x z = true
  | _, _, [], _, h => by simp [Op.bytesLess] at h
  | _, [], _ :: _, h, _ => by simp [Op.bytesLess] at h
  | [], _ :: _, _ :: _, _, _ => by simp [Op.bytesLess]
  | a :: x, b :: y, c :: z, h1, h2 => by
    have ih := less_trans x y z
    rw [Op.bytesLess] at h1 h2 ⊢
    simp only [Bool.or_eq_true, Bool.and_eq_true, decide_eq_true_eq, beq_iff_eq] at h1 h2 ⊢
    rcases h1 with h1 | ⟨rfl, h1⟩ <;> rcases h2 with h2 | ⟨rfl, h2⟩
    · left
      rw [UInt8.lt_iff_toNat_lt] at *
      omega
    · exact .inl h1
    · exact .inl h2
    · exact .inr ⟨rfl, ih h1 h2⟩
theorem less_self : ∀ x : List UInt8, Op.bytesLess x x = false
  | [] => by simp [Op.bytesLess]
  | a :: x => by
    rw [Op.bytesLess, less_self x]
    simp
theorem rise_lt {T : Nat → SR} {n : Nat} (h : AllOk n T) {i j : Nat} (hij : i < j) (hj : j < n) : Op.bytesLess (T i).nm.toList (T j).nm.toList = true := by
  induction j with
  | zero => omega
  | succ j ih =>
    have hr := (row_ok (h (j + 1) hj)).2.1 (by omega)
    rw [Nat.add_sub_cancel] at hr
    by_cases e : i = j
    · subst e; exact hr
    · exact less_trans _ _ _ (ih (by omega) (by omega)) hr
theorem names_one {T : Nat → SR} {n : Nat} (h : AllOk n T) {i j : Nat} (hi : i < n) (hj : j < n) (e : (T i).nm.toList = (T j).nm.toList) : i = j := by
  rcases Nat.lt_trichotomy i j with h1 | h1 | h1
  · have := rise_lt h h1 hj
    rw [e, less_self] at this; cases this
  · exact h1
  · have := rise_lt h h1 hi
    rw [e, less_self] at this; cases this
theorem isN_first {T : Nat → SR} {n : Nat} (h : AllOk n T) {i : Nat} (hi : i < n) : isN T (T i).nm i = true ∧ ∀ j, j < i → isN T (T i).nm j = false := by
  refine ⟨by simp [isN], fun j hj => ?_⟩
  cases hx : isN T (T i).nm j
  · rfl
  · have := names_one h (by omega) hi (eq_of_beq hx)
    omega
theorem numAt_inj {T : Nat → SR} {n : Nat} (h : AllOk n T) {a : Nat} (ha : a < 5) {i j : Nat} (hi : i < n) (hj : j < n) (e : numAt (T i) i a = numAt (T j) j a) : i = j := by
  have key : ∀ i j, i < j → j < n → numAt (T i) i a = numAt (T j) j a → False := fun i j hij hj e => by
    have hri := ((row_ok (h i (by omega))).2.2.1 a ha).1
    have hrj := ((row_ok (h j hj)).2.2.1 a ha).1
    have hcl := (row_ok (h j hj)).2.2.2.2.2
    unfold numAt at e
    by_cases h1 : numI (T i) a = -1 <;> by_cases h2 : numI (T j) a = -1
    · rw [if_pos h1, if_pos h2] at e; omega
    · rw [if_pos h1, if_neg h2] at e; omega
    · rw [if_neg h1, if_pos h2] at e; omega
    · rw [if_neg h1, if_neg h2] at e
      exact hcl ⟨i, hij, .inl ⟨a, ha, by omega, e⟩⟩
  rcases Nat.lt_trichotomy i j with h1 | h1 | h1
  · exact (key i j h1 hj e).elim
  · exact h1
  · exact (key j i h1 hi e.symm).elim
theorem isNum_first {T : Nat → SR} {n : Nat} (h : AllOk n T) {a : Nat} (ha : a < 5) {i : Nat} (hi : i < n) : isNum T a (numAt (T i) i a) i = true ∧ ∀ j, j < i → isNum T a (numAt (T i) i a) j = false := by
  refine ⟨by simp [isNum], fun j hj => ?_⟩
  cases hx : isNum T a (numAt (T i) i a) j
  · rfl
  · have := numAt_inj h ha (by omega) hi (eq_of_beq hx)
    omega
theorem isSub_first {T : Nat → SR} {n : Nat} (h : AllOk n T) {i : Nat} (hi : i < n) (hm : 0 < (T i).mx) : isSub T (T i).mx (T i).sb i = true ∧ ∀ j, j < i → isSub T (T i).mx (T i).sb j = false := by
  refine ⟨by simp [isSub]; omega, fun j hj => ?_⟩
  cases hx : isSub T (T i).mx (T i).sb j
  · rfl
  · unfold isSub at hx
    simp only [Bool.and_eq_true, beq_iff_eq] at hx
    exact absurd ⟨j, hj, .inr ⟨hm, hx.1.2, hx.2⟩⟩ (row_ok (h i hi)).2.2.2.2.2
end Go.Proofs.YtcmdmnnkbliggaaGreatDoor

/-
  Which rows may be a table, as a closed check; the built-in table may be.
-/
namespace Go.Proofs.YtcmdmnnkbliggaaGreatDoor
open Go.RowKit
set_option linter.unusedVariables false
set_option maxRecDepth 100000

def chB (b : UInt8) : Bool := (decide (97 ≤ b.toNat) && decide (b.toNat ≤ 122)) || (decide (48 ≤ b.toNat) && decide (b.toNat ≤ 57)) || b.toNat == 95
def nmB (s : ByteArray) : Bool := (s.size != 0) && decide (s.size ≤ 30) && ((s.data.toList.take 1).all fun c => decide (97 ≤ c.toNat) && decide (c.toNat ≤ 122)) && !(s.data.toList == ([100, 101, 102, 97, 117, 108, 116] : List UInt8)) && !(s.data.toList == ([120, 51, 50] : List UInt8)) && s.data.toList.all chB
def rngB (r : SR) : Bool := (List.range 5).all fun a => decide (-1 ≤ numI r a) && decide (numI r a ≤ 1073741823)
def mxB (r : SR) : Bool := (r.mx == 0 && r.sb == 0) || ((r.mx == 1 || r.mx == 2) && decide (1 ≤ r.sb) && decide (r.sb ≤ 255))
def clB (p r : SR) : Bool := ((List.range 5).any fun a => decide (0 ≤ numI r a) && (numI p a == numI r a)) || (decide (0 < r.mx) && (p.mx == r.mx) && (p.sb == r.sb))
def riseB (T : Nat → SR) (i : Nat) : Bool := i == 0 || Op.bytesLess (T (i - 1)).nm.data.toList (T i).nm.data.toList
def okB (T : Nat → SR) (i : Nat) : Bool := nmB (T i).nm && riseB T i && rngB (T i) && mxB (T i) && !((T i).n2 == 102) && !((T i).n2 == 117) && (List.range i).all fun k => !(clB (T k) (T i))
theorem nmB_P {s : ByteArray} (h : nmB s = true) : NmP s := by
  unfold nmB at h
  simp only [Bool.and_eq_true, bne_iff_ne, decide_eq_true_eq, Bool.not_eq_true'] at h
  obtain ⟨⟨⟨⟨⟨h1, h2⟩, h3⟩, h4⟩, h5⟩, h6⟩ := h
  refine ⟨h1, h2, fun c hc => ?_, by rw [ByteArray.toList_eq]; exact h4, by rw [ByteArray.toList_eq]; exact h5, fun b hb => ?_⟩
  · have hm : c ∈ s.data.toList.take 1 := by
      cases hl : s.data.toList with
      | nil => rw [hl] at hc; simp at hc
      | cons a l => rw [hl] at hc; simp at hc; simp [hc]
    have := List.all_eq_true.1 h3 c hm
    simpa using this
  · have := List.all_eq_true.1 h6 b hb
    unfold chB at this
    simp only [Bool.or_eq_true, Bool.and_eq_true, decide_eq_true_eq, beq_iff_eq] at this
    unfold ChN
    omega
theorem okB_row {T : Nat → SR} {i : Nat} (h : okB T i = true) : rowF T i = 0 := by
  unfold okB at h
  simp only [Bool.and_eq_true, Bool.not_eq_true'] at h
  obtain ⟨⟨⟨⟨⟨⟨h1, h2⟩, h3⟩, h4⟩, h5⟩, h6⟩, h7⟩ := h
  refine row0 (nmB_P h1) (fun h0 => ?_) (fun a ha => ?_) ?_ ?_ ?_
  · unfold riseB at h2
    rw [Bool.or_eq_true] at h2
    rcases h2 with h2 | h2
    · have := eq_of_beq h2; omega
    · rw [ByteArray.toList_eq, ByteArray.toList_eq]; exact h2
  · have := List.all_eq_true.1 h3 a (List.mem_range.2 ha)
    simpa using this
  · unfold mxB at h4
    simp only [Bool.or_eq_true, Bool.and_eq_true, decide_eq_true_eq, beq_iff_eq] at h4
    unfold MxP
    omega
  · rintro (h | h)
    · rw [h] at h5; cases h5
    · rw [h] at h6; cases h6
  · rintro ⟨k, hk, hc⟩
    have := List.all_eq_true.1 h7 k (List.mem_range.2 hk)
    have hcl : clB (T k) (T i) = true := by
      unfold clB
      rw [Bool.or_eq_true]
      rcases hc with ⟨a, h1, h2, h3⟩ | ⟨h1, h2, h3⟩
      · left
        exact List.any_eq_true.2 ⟨a, List.mem_range.2 h1, by simp [h2, h3]⟩
      · right
        simp [h1, h2, h3]
    rw [hcl] at this
    cases this
theorem tbl_ok : ((List.range 83).all (okB tblT)) = true := by kernel_rfl
theorem tbl_AllOk : AllOk 83 tblT := fun j hj => okB_row (List.all_eq_true.1 tbl_ok j (List.mem_range.2 hj))
end Go.Proofs.YtcmdmnnkbliggaaGreatDoor

/-
  Layer 15: the chapter's example, its pure part: two rules of one name are one too many, one is none.
-/
namespace Go.Proofs.YtcmdmnnkbliggaaGreatDoor
open Go.RowKit Go.Shelf Go.Lib Go.Sort
set_option linter.unusedVariables false
set_option maxRecDepth 100000

theorem tbl_right15 : RightP tblT 83 0 0 := .inr (.inr ⟨by omega, fun j hj => tbl_AllOk j hj, rfl, rfl⟩)
abbrev rdS : ByteArray := ⟨#[114, 101, 97, 100]⟩
theorem rd_in : (List.range 83).any (isN tblT rdS) = true := by kernel_rfl
theorem rd_nm : NmP rdS := by
  refine ⟨by decide, by decide, fun c hc => ?_, by rw [Lib.toList_data]; decide, by rw [Lib.toList_data]; decide, fun b hb => ?_⟩
  · have : c = 114 := by injection hc with h; exact h.symm
    subst this; decide
  · have : b = 114 ∨ b = 101 ∨ b = 97 ∨ b = 100 := by simpa using hb
    rcases this with rfl | rfl | rfl | rfl <;> exact .inl (by decide)
theorem rd_name {nm : ByteArray} (h : NmP nm) : nameB nm = true := by
  refine decide_eq_true ?_
  have hrng : RngP ((fun _ : Nat => nmRow nm) 0) := fun a ha => by
    match a, ha with
    | 0, _ => exact ⟨by show (-1 : Int) ≤ 0; decide, by show (0 : Int) ≤ 1073741823; decide⟩
    | 1, _ => exact ⟨by show (-1 : Int) ≤ 0; decide, by show (0 : Int) ≤ 1073741823; decide⟩
    | 2, _ => exact ⟨by show (-1 : Int) ≤ 0; decide, by show (0 : Int) ≤ 1073741823; decide⟩
    | 3, _ => exact ⟨by show (-1 : Int) ≤ 0; decide, by show (0 : Int) ≤ 1073741823; decide⟩
    | 4, _ => exact ⟨by show (-1 : Int) ≤ 0; decide, by show (0 : Int) ≤ 1073741823; decide⟩
  unfold rowF
  rw [if_pos (show NmP ((fun _ : Nat => nmRow nm) 0).nm from h), if_pos (show RiseP (fun _ : Nat => nmRow nm) 0 from fun h0 => absurd h0 (Nat.lt_irrefl 0)), if_pos ⟨hrng, .inl ⟨rfl, rfl⟩⟩, if_neg (by simp), if_neg (fun ⟨k, hk, _⟩ => absurd hk (Nat.not_lt_zero _))]
abbrev rdR : RV := ⟨rdS, 8, 0, []⟩
theorem rd_may : mayV rdR = true := by
  unfold mayV
  rw [rd_name rd_nm]
  decide
theorem rd_right1 : rightV 1 0 [rdR] = true := by
  unfold rightV
  simp only [List.all_cons, List.all_nil, rd_may]
  decide
theorem rd_right2 : rightV 1 0 [rdR, rdR] = true := by
  unfold rightV
  simp only [List.all_cons, List.all_nil, rd_may]
  decide
theorem rd_one {a f : Nat} (h : ChkP 1 0 [rdR] tblT 83 a f) : a = 0 ∧ f = 0 := by
  refine ChkD.uniq h.doc (.inr ⟨rd_right1, .inr ⟨tbl_right15, ?_⟩⟩)
  exact .go 0 rdR 0 0 rfl rd_in rfl rfl (.nil 1 (by decide))
theorem rd_two {a f : Nat} (h : ChkP 1 0 [rdR, rdR] tblT 83 a f) : a = 1 ∧ f = 15 := by
  refine ChkD.uniq h.doc (.inr ⟨rd_right2, .inr ⟨tbl_right15, ?_⟩⟩)
  exact .go 0 rdR 1 15 rfl rd_in rfl rfl (.twice 1 rdR rfl rd_in rfl rfl)
end Go.Proofs.YtcmdmnnkbliggaaGreatDoor
