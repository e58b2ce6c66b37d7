/-
  The contract of act.From; what codes and texts tell apart.
-/
import Derived.Test.YtjblkkffdhaiiaaDoorBd
import Derived.Test.YtjblkkffdhaiiaaDoorBe
namespace Go.Proofs.YtjblkkffdhaiiaaDoor
open Go.RowKit

set_option maxRecDepth 100000 in
set_option maxHeartbeats 4000000 in
theorem from_any (c : Int) (w : World) : Calls Tryd.prog 9 #[.int .u32 c] w fun e w' => FromR c e ∧ Below w.heap.size w w' := by
  have r0 : RowC ((w.alloc (.cells #[.int .u32 c] 24)).alloc (.cells #[.int .i64 0, .int .i64 0] 25)) w.heap.size #[.int .u32 c] 24 := (RowC.new _ _ _ _ rfl).alloc _
  have r1 : RowC ((w.alloc (.cells #[.int .u32 c] 24)).alloc (.cells #[.int .i64 0, .int .i64 0] 25)) (w.heap.size + 1) #[.int .i64 0, .int .i64 0] 25 := RowC.new _ _ _ _ (by simp)
  have hb : Below w.heap.size w ((w.alloc (.cells #[.int .u32 c] 24)).alloc (.cells #[.int .i64 0, .int .i64 0] 25)) := ((Below.refl _ _).alloc (Nat.le_refl _) _).alloc (by simp) _
  have HF := Lib.hid (find_From c w.heap.size _ (r0.cell 0 _ rfl))
  have R0 := Lib.hid r0
  have R1 := Lib.hid r1
  have HB := Lib.hid hb
  clear r0 r1 hb
  go_enter Tryd.func9, Tryd.ntmps9
  go_wp2_with fail
  refine HF.out.mono ?_
  rintro e w1 ⟨h | h, _, hB1⟩
  · obtain ⟨j, hj, hp, hmin, rfl⟩ := h
    obtain ⟨F, cap, hkm⟩ := kmA_func (((w.alloc (.cells #[.int .u32 c] 24)).alloc (.cells #[.int .i64 0, .int .i64 0] 25)).heap.size + 1 + 1) (((w.alloc (.cells #[.int .u32 c] 24)).alloc (.cells #[.int .i64 0, .int .i64 0] 25)).heap.size + 1 + 1 + 1) j
    simp only [kindA, hkm]
    have hr0 := (R0.out.below hB1 R0.out.lt).alloc (.cells #[.string (kwA j), .int .u32 (kcA j), .bool (knA j), .func (.func F) #[] cap] 50)
    have hr1 := (R1.out.below hB1 R1.out.lt).alloc (.cells #[.string (kwA j), .int .u32 (kcA j), .bool (knA j), .func (.func F) #[] cap] 50)
    have hbe := (HB.out.trans (hB1.mono HB.out.size)).alloc (by have := HB.out.size; have := hB1.size; omega) (.cells #[.string (kwA j), .int .u32 (kcA j), .bool (knA j), .func (.func F) #[] cap] 50)
    have hk := RowC.new w1 #[.string (kwA j), .int .u32 (kcA j), .bool (knA j), .func (.func F) #[] cap] 50 _ rfl
    have x0 := hr0.cell 0 (.int .u32 c) rfl
    have x1 := hk.cell 1 (.int .u32 (kcA j)) rfl
    have d0 := hr1.cell 0 (.int .i64 0) rfl
    have d1 := hr1.cell 1 (.int .i64 0) rfl
    have f0 := hr1.frozen 0
    have f1 := hr1.frozen 1
    have H1 := Lib.hid hr1
    have HBE := Lib.hid hbe
    obtain ⟨N, hN⟩ : ∃ N, IntKind.u32.wrap (c - (kcA j : Int)) = N := ⟨_, rfl⟩
    have hn : 0 ≤ N ∧ N < 4294967296 := by rw [← hN, IntKind.wrap_u32]; omega
    have hw : IntKind.i64.wrap N = N := by rw [IntKind.wrap_i64]; omega
    have HP := Lib.hid hp
    have HM := Lib.hid hmin
    have HN := Lib.hid hN
    clear hr0 hr1 hbe hk hB1 hkm hp hmin
    go_wp2
    exact bodyPost_ret (results_ct Tryd.results9 _ _ (w.heap.size + 1) _ _ (0, 0) _ (.int .i64 0) (by rfl) (by rfl) (show RowC _ (w.heap.size + 1) #[.int .i64 ((j : Int) + 1), .int .i64 N] 25 from (H1.out.set 0 (.int .i64 ((j : Int) + 1))).set 1 (.int .i64 N)) Tryd.underlying25 (by rfl) (by kernel_rfl)) rfl
      ⟨.inl ⟨j, hj, HP.out, HM.out, by rw [HN.out]⟩, (HBE.out.setCell (by simp) _).setCell (by simp) _⟩
  · obtain ⟨hno, rfl⟩ := h
    have hr1 := (R1.out.below hB1 R1.out.lt).alloc (.cells kind0 50)
    have hbe := (HB.out.trans (hB1.mono HB.out.size)).alloc (by have := HB.out.size; have := hB1.size; omega) (.cells kind0 50)
    have d0 := hr1.cell 0 (.int .i64 0) rfl
    have d1 := hr1.cell 1 (.int .i64 0) rfl
    have f0 := hr1.frozen 0
    have f1 := hr1.frozen 1
    have H1 := Lib.hid hr1
    have HBE := Lib.hid hbe
    have HNO := Lib.hid hno
    clear hr1 hbe hB1 hno
    go_wp2
    exact bodyPost_ret (results_ct Tryd.results9 _ _ (w.heap.size + 1) _ _ (0, 0) _ (.int .i64 5) (by rfl) (by rfl) (show RowC _ (w.heap.size + 1) #[.int .i64 0, .int .i64 0] 25 from (H1.out.set 0 (.int .i64 0)).set 1 (.int .i64 0)) Tryd.underlying25 (by rfl) (by kernel_rfl)) rfl
      ⟨.inr ⟨HNO.out, rfl⟩, (HBE.out.setCell (by simp) _).setCell (by simp) _⟩

/-- Of the code of a right action no other kind has a number. -/
theorem may_apart {i j : Nat} (hi : i < 8) (hj : j < 8) {n : Int} (hm : mayA j n = true) (hne : i ≠ j) : mayA i (IntKind.u32.wrap ((kcA j : Int) + n - (kcA i : Int))) = false := by
  rw [IntKind.wrap_u32]
  cases hr : mayA i (((kcA j : Int) + n - (kcA i : Int)) % 4294967296) with
  | false => rfl
  | true =>
    exfalso
    unfold mayA at hm hr
    simp only [Bool.and_eq_true, decide_eq_true_eq] at hm hr
    match i, hi, j, hj with
    | i, hi, j, hj =>
      have hi' : i = 0 ∨ i = 1 ∨ i = 2 ∨ i = 3 ∨ i = 4 ∨ i = 5 ∨ i = 6 ∨ i = 7 := by omega
      have hj' : j = 0 ∨ j = 1 ∨ j = 2 ∨ j = 3 ∨ j = 4 ∨ j = 5 ∨ j = 6 ∨ j = 7 := by omega
      rcases hi' with rfl | rfl | rfl | rfl | rfl | rfl | rfl | rfl <;> rcases hj' with rfl | rfl | rfl | rfl | rfl | rfl | rfl | rfl <;> first | exact hne rfl | (simp [mostA, kcA] at hm hr; omega)
theorem may_self {j : Nat} {n : Int} (hm : mayA j n = true) : IntKind.u32.wrap ((kcA j : Int) + n - (kcA j : Int)) = n := by
  have := may_bd hm
  rw [IntKind.wrap_u32]
  omega
/-- There and back by the code. -/
theorem from_ok (j : Nat) (hj : j < 8) (n : Int) (hm : mayA j n = true) (w : World) :
    Calls Tryd.prog 9 #[.int .u32 ((kcA j : Int) + n)] w fun e w' => e = .returned (.tuple #[.agg #[.int .i64 ((j : Int) + 1), .int .i64 n], .int .i64 0]) ∧ Below w.heap.size w w' := by
  refine (from_any _ w).mono ?_
  rintro e w' ⟨h | h, hB⟩
  · obtain ⟨i, hi, hp, _, rfl⟩ := h
    by_cases hne : i = j
    · subst hne
      rw [may_self hm]
      exact ⟨rfl, hB⟩
    · rw [may_apart hi hj hm hne] at hp
      cases hp
  · have := h.1 j hj
    rw [may_self hm, hm] at this
    cases this
/-- Two right actions have one code just if they are one. -/
theorem code_apart {i j : Nat} (hi : i < 8) (hj : j < 8) {m n : Int} (hm : mayA i m = true) (hn : mayA j n = true) : (kcA i : Int) + m = (kcA j : Int) + n ↔ i = j ∧ m = n := by
  constructor
  · intro h
    by_cases hne : i = j
    · subst hne; exact ⟨rfl, by omega⟩
    · have h1 := may_apart hi hj hn hne
      rw [← h, may_self hm, hm] at h1
      cases h1
  · rintro ⟨rfl, rfl⟩; rfl

theorem text_ok (j : Nat) (hj : j < 8) (nm : Int) (hm : mayA j nm = true) (w : World) (ht : TabP w) :
    Calls Tryd.prog 13 #[.agg #[.int .i64 ((j : Int) + 1), .int .i64 nm]] w fun e w' => e = .returned (.string (txtA j nm)) ∧ Below w.heap.size w w' := by
  unfold txtA
  cases hk : knA j with
  | true => simpa using text_num j hj nm hm hk w ht
  | false => simpa using text_plain j hj nm hm hk w

theorem dec_inj : ∀ (u v : Nat), Lib.decDigits u = Lib.decDigits v → u = v := by
  intro u
  induction u using Nat.strongRecOn with
  | _ u ih =>
    intro v h
    have one : ∀ k, k < 10 → (UInt8.ofNat (48 + k)).toNat = 48 + k := fun k hk => by simp; omega
    by_cases hu : u < 10
    · by_cases hv : v < 10
      · rw [Lib.decDigits_one hu, Lib.decDigits_one hv] at h
        have := congrArg UInt8.toNat (List.cons.inj h).1
        rw [one u hu, one v hv] at this
        omega
      · have hl := congrArg List.length h
        rw [Lib.decDigits_length, Lib.decDigits_length, Lib.nDigits_small hu, Lib.nDigits_big hv] at hl
        have := Lib.nDigits_pos (v / 10)
        omega
    · by_cases hv : v < 10
      · have hl := congrArg List.length h
        rw [Lib.decDigits_length, Lib.decDigits_length, Lib.nDigits_small hv, Lib.nDigits_big hu] at hl
        have := Lib.nDigits_pos (u / 10)
        omega
      · rw [Lib.decDigits, dif_neg hu, Lib.decDigits.eq_1 v, dif_neg hv] at h
        obtain ⟨h1, h2⟩ := List.append_inj' h rfl
        have e1 := ih (u / 10) (by omega) _ h1
        have := congrArg UInt8.toNat (List.cons.inj h2).1
        rw [one _ (Nat.mod_lt _ (by omega)), one _ (Nat.mod_lt _ (by omega))] at this
        omega

theorem txt_list (j : Nat) (n : Int) : (txtA j n).data.toList = if knA j = true then (kwA j).data.toList ++ (32 :: Lib.itoa n) else (kwA j).data.toList := by
  unfold txtA
  split <;> simp

theorem kw_inj {i j : Nat} (hi : i < 8) (hj : j < 8) (h : kwA i = kwA j) : i = j := by
  have hi' : i = 0 ∨ i = 1 ∨ i = 2 ∨ i = 3 ∨ i = 4 ∨ i = 5 ∨ i = 6 ∨ i = 7 := by omega
  have hj' : j = 0 ∨ j = 1 ∨ j = 2 ∨ j = 3 ∨ j = 4 ∨ j = 5 ∨ j = 6 ∨ j = 7 := by omega
  have h2 := congrArg (fun b : ByteArray => b.data.toList) h
  rcases hi' with rfl | rfl | rfl | rfl | rfl | rfl | rfl | rfl <;> rcases hj' with rfl | rfl | rfl | rfl | rfl | rfl | rfl | rfl <;> first | rfl | (simp [kwA] at h2)
/-- The first word: what stands ahead of the first blank. -/
def fstW (l : List UInt8) : List UInt8 := l.takeWhile (· != 32)
theorem kw_noblank (j : Nat) : ∀ b ∈ (kwA j).data.toList, (b != 32) = true := by
  have h : ∀ j, ((kwA j).data.toList.all (· != 32)) = true := by intro j; unfold kwA; split <;> decide
  exact List.all_eq_true.1 (h j)
theorem fst_txt (j : Nat) (n : Int) : fstW (txtA j n).data.toList = (kwA j).data.toList := by
  rw [txt_list]
  unfold fstW
  split
  · rw [List.takeWhile_append_of_pos (kw_noblank j)]
    simp
  · have := List.takeWhile_append_of_pos (l₂ := []) (kw_noblank j)
    rw [List.append_nil] at this
    rw [this]
    simp
/-- Two right actions have one text just if they are one. -/
theorem text_apart {i j : Nat} (hi : i < 8) (hj : j < 8) {m n : Int} (hm : mayA i m = true) (hn : mayA j n = true) : txtA i m = txtA j n ↔ i = j ∧ m = n := by
  constructor
  · intro h
    have hl := congrArg (fun b : ByteArray => b.data.toList) h
    have h1 := congrArg fstW hl
    rw [fst_txt, fst_txt] at h1
    have e : i = j := kw_inj hi hj (ByteArray.ext (Array.toList_inj.1 h1))
    subst e
    refine ⟨rfl, ?_⟩
    cases hk : knA i with
    | true =>
      rw [txt_list, txt_list, if_pos hk, if_pos hk] at hl
      have h2 := (List.cons.inj (List.append_cancel_left hl)).2
      have b1 := may_bd hm
      have b2 := may_bd hn
      obtain ⟨u, rfl⟩ := Int.eq_ofNat_of_zero_le b1.1
      obtain ⟨v, rfl⟩ := Int.eq_ofNat_of_zero_le b2.1
      rw [Lib.itoa_nonneg, Lib.itoa_nonneg] at h2
      rw [dec_inj _ _ h2]
    | false =>
      have h3 : i ≠ 3 := by rintro rfl; cases hk
      have h5 : i ≠ 5 := by rintro rfl; cases hk
      rw [may_other i m h3 h5] at hm
      rw [may_other i n h3 h5] at hn
      have := eq_of_beq hm
      have := eq_of_beq hn
      omega
  · rintro ⟨rfl, rfl⟩; rfl
end Go.Proofs.YtjblkkffdhaiiaaDoor
