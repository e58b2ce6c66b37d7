/-
  The law DataApart holds for every input: two records are the same just if their bytes are. No condition.
-/
import Derived.Test.YtpjhcaabjgbkjaaDe
import Derived.Test.YtpjhcaabjgbkjaaId
import Derived.Test.YtpjhcaabjgbkjaaRows
import Derived.Below
import Derived.ChangeOld
import Derived.ShutString
import Derived.Lib.SmallJoins
import Derived.OpenShut
import Derived.ProofKit
import Derived.WalkKit
import Derived.Deep.RegionWith
import Derived.Deep.RegionHeld3
namespace Go.Proofs.Ytpjhcaabjgbkjaa
open Go.RowKit

theorem num_wb (big : Bool) (wd x : Nat) (_hw : wd = 4 ∨ wd = 8) (hx : x < 2 ^ (8 * wd)) (p : Nat) (f : Nat → Nat) (hf : ∀ i, i < wd → f (p + i) = wb big wd x i) : num (fun i => f (pln big p wd i)) wd = x := by
  have e : ∀ i, i < wd → f (pln big p wd i) = x / 256 ^ i % 256 := fun i hi => by
    have h1 : pln big p wd i = p + (if big then wd - 1 - i else i) := by unfold pln; cases big <;> simp <;> omega
    rw [h1, hf _ (by cases big <;> simp <;> omega)]
    unfold wb idx
    cases big
    · simp [hi, Nat.pow_mul]
    · have h3 : wd - 1 - i < wd := by omega
      have h2 : 0 + wd - 1 - (wd - 1 - i) = i := by omega
      simp only [if_true, h3, h2, Nat.pow_mul]
  rw [num_congr _ _ _ e, num_digits]
  apply Nat.mod_eq_of_lt
  rw [show (256 : Nat) ^ wd = 2 ^ (8 * wd) from by rw [Nat.pow_mul]]
  exact hx
/-- Records with the same bytes are the same. -/
theorem recB_inj (r s : RV) (hr : r.ok) (hs : s.ok) (big : Bool) (h : ∀ i, i < 64 → recB r big i = recB s big i) : r.n = s.n ∧ r.a = s.a ∧ r.p = s.p ∧ ∀ k, k < 6 → r.q k = s.q k := by
  have h4 : ∀ (t : RV) (x p : Nat), x < 4294967296 → p + 4 ≤ 64 → (∀ i, i < 4 → recB t big (p + i) = wb big 4 x i) → num (fun i => recB t big (pln big p 4 i)) 4 = x := fun t x p hx _ hf => num_wb big 4 x (.inl rfl) hx p _ hf
  have h8 : ∀ (t : RV) (x p : Nat), x < 18446744073709551616 → p + 8 ≤ 64 → (∀ i, i < 8 → recB t big (p + i) = wb big 8 x i) → num (fun i => recB t big (pln big p 8 i)) 8 = x := fun t x p hx _ hf => num_wb big 8 x (.inr rfl) hx p _ hf
  have n0 : ∀ t : RV, t.ok → num (fun i => recB t big (pln big 0 4 i)) 4 = t.n := fun t ht => h4 t t.n 0 ht.1 (by decide) fun i hi => by unfold recB; rw [if_pos (by omega), Nat.zero_add]
  have n1 : ∀ t : RV, t.ok → num (fun i => recB t big (pln big 4 4 i)) 4 = t.a := fun t ht => h4 t t.a 4 ht.2.1 (by decide) fun i hi => by unfold recB; rw [if_neg (by omega), if_pos (by omega), Nat.add_sub_cancel_left]
  have n2 : ∀ t : RV, t.ok → num (fun i => recB t big (pln big 8 8 i)) 8 = t.p := fun t ht => h8 t t.p 8 ht.2.2.1 (by decide) fun i hi => by unfold recB; rw [if_neg (by omega), if_neg (by omega), if_pos (by omega), Nat.add_sub_cancel_left]
  have n3 : ∀ t : RV, t.ok → ∀ k, k < 6 → num (fun i => recB t big (pln big (16 + 8 * k) 8 i)) 8 = t.q k := fun t ht k hk => h8 t (t.q k) (16 + 8 * k) (ht.2.2.2 k) (by omega) fun i hi => by
    rw [recB_arg t big k _ (by omega) (by omega), Nat.add_sub_cancel_left]
  refine ⟨?_, ?_, ?_, fun k hk => ?_⟩
  · rw [← n0 r hr, ← n0 s hs]
    exact num_congr _ _ _ fun i hi => h _ (pln_lt big 0 4 i 64 hi (by decide))
  · rw [← n1 r hr, ← n1 s hs]
    exact num_congr _ _ _ fun i hi => h _ (pln_lt big 4 4 i 64 hi (by decide))
  · rw [← n2 r hr, ← n2 s hs]
    exact num_congr _ _ _ fun i hi => h _ (pln_lt big 8 8 i 64 hi (by decide))
  · rw [← n3 r hr k hk, ← n3 s hs k hk]
    exact num_congr _ _ _ fun i hi => h _ (pln_lt big (16 + 8 * k) 8 i 64 hi (by omega))
theorem recB_same (r s : RV) (big : Bool) (h : r.n = s.n ∧ r.a = s.a ∧ r.p = s.p ∧ ∀ k, k < 6 → r.q k = s.q k) (i : Nat) (hi : i < 64) : recB r big i = recB s big i := by
  obtain ⟨h0, h1, h2, h3⟩ := h
  unfold recB
  rw [h0, h1, h2]
  split; rfl; split; rfl; split; rfl
  rw [h3 _ (by omega)]
theorem req_iff (r s : RV) : req r s = true ↔ (r.n = s.n ∧ r.a = s.a ∧ r.p = s.p ∧ ∀ k, k < 6 → r.q k = s.q k) := by
  unfold req
  simp [alike_iff]
theorem alike_req (r s : RV) (hr : r.ok) (hs : s.ok) (big : Bool) : alike (recB r big) (recB s big) 64 = req r s := by
  rw [Bool.eq_iff_iff, alike_iff, req_iff]
  exact ⟨recB_inj r s hr hs big, recB_same r s big⟩

theorem cell_id (w0 : World) (r s : RV) : RcB ((w0.alloc (.cells (rcells r) 26)).alloc (.cells (rcells s) 26)) w0.heap.size 26 r ∧ RcB ((w0.alloc (.cells (rcells r) 26)).alloc (.cells (rcells s) 26)) (w0.heap.size + 1) 26 s := by
  refine ⟨?_, ?_⟩
  · exact (show RcB (w0.alloc (.cells (rcells r) 26)) w0.heap.size 26 r from heap_alloc_last w0 _).below ((Below.refl (w0.heap.size + 1) _).alloc (by simp) _) (by omega)
  · have := heap_alloc_last (w0.alloc (.cells (rcells r) 26)) (.cells (rcells s) 26)
    rw [World.size_alloc] at this
    exact this
/-- Are two records the same, as the walk asks it? -/
theorem eq26 (r s : RV) (W : World) : (binOp .eql 26 (.agg #[.int .u32 r.n, .int .u32 r.a, .int .u64 r.p, .int .u64 (r.q 0), .int .u64 (r.q 1), .int .u64 (r.q 2), .int .u64 (r.q 3), .int .u64 (r.q 4), .int .u64 (r.q 5)]) (.agg #[.int .u32 s.n, .int .u32 s.a, .int .u64 s.p, .int .u64 (s.q 0), .int .u64 (s.q 1), .int .u64 (s.q 2), .int .u64 (s.q 3), .int .u64 (s.q 4), .int .u64 (s.q 5)])).run Try.prog W = .ok (.bool (req r s)) W := by
  have h24 := eq24 (r.q 0) (r.q 1) (r.q 2) (r.q 3) (r.q 4) (r.q 5) (s.q 0) (s.q 1) (s.q 2) (s.q 3) (s.q 4) (s.q 5)
  have e : ∀ b : Bool, (([(r.q 0 : Int), r.q 1, r.q 2, r.q 3, r.q 4, r.q 5] : List Int) == [(s.q 0 : Int), s.q 1, s.q 2, s.q 3, s.q 4, s.q 5]) = b → alike r.q s.q 6 = b := fun b hb => by
    rw [← hb, Bool.eq_iff_iff, alike_iff, beq_iff_eq]
    simp only [List.cons.injEq, and_true]
    constructor
    · intro h
      exact ⟨by rw [h 0 (by decide)], by rw [h 1 (by decide)], by rw [h 2 (by decide)], by rw [h 3 (by decide)], by rw [h 4 (by decide)], by rw [h 5 (by decide)]⟩
    · rintro ⟨h0, h1, h2, h3, h4, h5⟩ i hi
      match i, hi with
      | 0, _ => omega
      | 1, _ => omega
      | 2, _ => omega
      | 3, _ => omega
      | 4, _ => omega
      | 5, _ => omega
  obtain ⟨b, hb⟩ : ∃ b, (([(r.q 0 : Int), r.q 1, r.q 2, r.q 3, r.q 4, r.q 5] : List Int) == [(s.q 0 : Int), s.q 1, s.q 2, s.q 3, s.q 4, s.q 5]) = b := ⟨_, rfl⟩
  have hb' := e b hb
  rw [hb] at h24
  unfold req
  rw [hb']
  have c0 : ((r.n : Int) == (s.n : Int)) = (r.n == s.n) := by rw [Bool.eq_iff_iff, beq_iff_eq, beq_iff_eq]; omega
  have c1 : ((r.a : Int) == (s.a : Int)) = (r.a == s.a) := by rw [Bool.eq_iff_iff, beq_iff_eq, beq_iff_eq]; omega
  have c2 : ((r.p : Int) == (s.p : Int)) = (r.p == s.p) := by rw [Bool.eq_iff_iff, beq_iff_eq, beq_iff_eq]; omega
  generalize (r.n == s.n) = b0 at *
  generalize (r.a == s.a) = b1 at *
  generalize (r.p == s.p) = b2 at *
  clear e hb hb'
  cases b0 <;> cases b1 <;> cases b2 <;> cases b <;> go_simp

set_option maxRecDepth 100000 in
set_option maxHeartbeats 8000000 in
theorem walk_DataApart {w0 : World} (r : RV) (hr : r.ok) (s : RV) (hs : s.ok) (big : Bool) :
    Calls Try.prog 7 #[.agg (rcells r), .agg (rcells s), .bool big] w0 fun e w' => e = .returned (.bool true) ∧ Below w0.heap.size w0 w' := by
  have ha := alike_req r s hr hs big
  obtain ⟨B, hB⟩ : ∃ B, req r s = B := ⟨_, rfl⟩
  obtain ⟨D1, hD1⟩ : ∃ D, arrB 64 (recB r big) = D := ⟨_, rfl⟩
  obtain ⟨D2, hD2⟩ : ∃ D, arrB 64 (recB s big) = D := ⟨_, rfl⟩
  have he27 := eq64 (recB r big) (recB s big)
  have he26 := eq26 r s
  have hw1 := write5_any r hr big
  have hw2 := write5_any s hs big
  rw [ha, hB, hD1, hD2] at he27
  rw [hB] at he26
  rw [hD1] at hw1
  rw [hD2] at hw2
  have HW1 := Lib.hid hw1
  have HW2 := Lib.hid hw2
  obtain ⟨c1, c2⟩ := cell_id w0 r s
  have hb0 : Below w0.heap.size w0 ((w0.alloc (.cells (rcells r) 26)).alloc (.cells (rcells s) 26)) := ((Below.refl _ _).alloc (Nat.le_refl _) _).alloc (by simp) _
  have hz : ((w0.alloc (.cells (rcells r) 26)).alloc (.cells (rcells s) 26)).heap.size = w0.heap.size + 1 + 1 := by simp
  clear ha hB hD1 hD2 hw1 hw2 hr hs
  unfold rcells at c1 c2 hb0 hz ⊢
  go_enter Try.func7, Try.ntmps7
  go_wp2_with fail
  generalize (w0.alloc (.cells #[.int .u32 r.n, .int .u32 r.a, .int .u64 r.p, .int .u64 (r.q 0), .int .u64 (r.q 1), .int .u64 (r.q 2), .int .u64 (r.q 3), .int .u64 (r.q 4), .int .u64 (r.q 5)] 26)).alloc (.cells #[.int .u32 s.n, .int .u32 s.a, .int .u64 s.p, .int .u64 (s.q 0), .int .u64 (s.q 1), .int .u64 (s.q 2), .int .u64 (s.q 3), .int .u64 (s.q 4), .int .u64 (s.q 5)] 26) = W1 at *
  have hS : Hid (∀ W, Below W1.heap.size W1 W → W.cell? ⟨w0.heap.size, 0, none⟩ = some (.int .u32 r.n) ∧ W.cell? ⟨w0.heap.size, 1, none⟩ = some (.int .u32 r.a) ∧ W.cell? ⟨w0.heap.size, 2, none⟩ = some (.int .u64 r.p) ∧ W.cell? ⟨w0.heap.size, 3, none⟩ = some (.int .u64 (r.q 0)) ∧ W.cell? ⟨w0.heap.size, 4, none⟩ = some (.int .u64 (r.q 1)) ∧ W.cell? ⟨w0.heap.size, 5, none⟩ = some (.int .u64 (r.q 2)) ∧ W.cell? ⟨w0.heap.size, 6, none⟩ = some (.int .u64 (r.q 3)) ∧ W.cell? ⟨w0.heap.size, 7, none⟩ = some (.int .u64 (r.q 4)) ∧ W.cell? ⟨w0.heap.size, 8, none⟩ = some (.int .u64 (r.q 5)) ∧ W.cell? ⟨w0.heap.size + 1, 0, none⟩ = some (.int .u32 s.n) ∧ W.cell? ⟨w0.heap.size + 1, 1, none⟩ = some (.int .u32 s.a) ∧ W.cell? ⟨w0.heap.size + 1, 2, none⟩ = some (.int .u64 s.p) ∧ W.cell? ⟨w0.heap.size + 1, 3, none⟩ = some (.int .u64 (s.q 0)) ∧ W.cell? ⟨w0.heap.size + 1, 4, none⟩ = some (.int .u64 (s.q 1)) ∧ W.cell? ⟨w0.heap.size + 1, 5, none⟩ = some (.int .u64 (s.q 2)) ∧ W.cell? ⟨w0.heap.size + 1, 6, none⟩ = some (.int .u64 (s.q 3)) ∧ W.cell? ⟨w0.heap.size + 1, 7, none⟩ = some (.int .u64 (s.q 4)) ∧ W.cell? ⟨w0.heap.size + 1, 8, none⟩ = some (.int .u64 (s.q 5))) := Lib.hid fun W hW => by
    have d1 : RcB W w0.heap.size 26 r := (show RcB W1 w0.heap.size 26 r from c1).below hW (by omega)
    have d2 : RcB W (w0.heap.size + 1) 26 s := (show RcB W1 (w0.heap.size + 1) 26 s from c2).below hW (by omega)
    exact ⟨d1.cell 0 _ rfl, d1.cell 1 _ rfl, d1.cell 2 _ rfl, d1.cell 3 _ rfl, d1.cell 4 _ rfl, d1.cell 5 _ rfl, d1.cell 6 _ rfl, d1.cell 7 _ rfl, d1.cell 8 _ rfl, d2.cell 0 _ rfl, d2.cell 1 _ rfl, d2.cell 2 _ rfl, d2.cell 3 _ rfl, d2.cell 4 _ rfl, d2.cell 5 _ rfl, d2.cell 6 _ rfl, d2.cell 7 _ rfl, d2.cell 8 _ rfl⟩
  have hk0 : Below W1.heap.size W1 W1.drew := (Below.refl _ W1).drew
  clear c1 c2
  have HOF1 : Hid (∀ W, Calls Try.prog 17 #[.agg #[.int .u32 r.n, .int .u32 r.a, .int .u64 r.p, .int .u64 (r.q 0), .int .u64 (r.q 1), .int .u64 (r.q 2), .int .u64 (r.q 3), .int .u64 (r.q 4), .int .u64 (r.q 5)]] W fun e w' => e = .returned (.agg (rcells r)) ∧ Below W.heap.size W w') := Lib.hid fun W => of5_any r W
  have HOF2 : Hid (∀ W, Calls Try.prog 17 #[.agg #[.int .u32 s.n, .int .u32 s.a, .int .u64 s.p, .int .u64 (s.q 0), .int .u64 (s.q 1), .int .u64 (s.q 2), .int .u64 (s.q 3), .int .u64 (s.q 4), .int .u64 (s.q 5)]] W fun e w' => e = .returned (.agg (rcells s)) ∧ Below W.heap.size W w') := Lib.hid fun W => of5_any s W
  go_region_held3 (fun w' => w'.cell? ⟨w0.heap.size, 0, none⟩ = some (.int .u32 r.n) ∧ w'.cell? ⟨w0.heap.size, 1, none⟩ = some (.int .u32 r.a) ∧ w'.cell? ⟨w0.heap.size, 2, none⟩ = some (.int .u64 r.p) ∧ w'.cell? ⟨w0.heap.size, 3, none⟩ = some (.int .u64 (r.q 0)) ∧ w'.cell? ⟨w0.heap.size, 4, none⟩ = some (.int .u64 (r.q 1)) ∧ w'.cell? ⟨w0.heap.size, 5, none⟩ = some (.int .u64 (r.q 2)) ∧ w'.cell? ⟨w0.heap.size, 6, none⟩ = some (.int .u64 (r.q 3)) ∧ w'.cell? ⟨w0.heap.size, 7, none⟩ = some (.int .u64 (r.q 4)) ∧ w'.cell? ⟨w0.heap.size, 8, none⟩ = some (.int .u64 (r.q 5)) ∧ w'.cell? ⟨w0.heap.size + 1, 0, none⟩ = some (.int .u32 s.n) ∧ w'.cell? ⟨w0.heap.size + 1, 1, none⟩ = some (.int .u32 s.a) ∧ w'.cell? ⟨w0.heap.size + 1, 2, none⟩ = some (.int .u64 s.p) ∧ w'.cell? ⟨w0.heap.size + 1, 3, none⟩ = some (.int .u64 (s.q 0)) ∧ w'.cell? ⟨w0.heap.size + 1, 4, none⟩ = some (.int .u64 (s.q 1)) ∧ w'.cell? ⟨w0.heap.size + 1, 5, none⟩ = some (.int .u64 (s.q 2)) ∧ w'.cell? ⟨w0.heap.size + 1, 6, none⟩ = some (.int .u64 (s.q 3)) ∧ w'.cell? ⟨w0.heap.size + 1, 7, none⟩ = some (.int .u64 (s.q 4)) ∧ w'.cell? ⟨w0.heap.size + 1, 8, none⟩ = some (.int .u64 (s.q 5)))
    (first
      | exact hS.out _ hk4
      | exact hS.out _ hk3
      | exact hS.out _ hk2
      | exact hS.out _ hk1
      | exact hS.out _ hk0
      | assumption
      | go_keep)
    (first
      | (go_at_call 17
         (with_reducible refine (HOF1.out _).mono ?_)
         rintro e w2 ⟨rfl, hB2⟩
         have hk1 := hk0.trans (hB2.mono hk0.size))
      | (go_at_call 16
         (with_reducible refine (HW1.out _).mono ?_)
         rintro e w3 ⟨rfl, hB3⟩
         have hk2 := hk1.trans (hB3.mono hk1.size))
      | (go_at_call 17
         (with_reducible refine (HOF2.out _).mono ?_)
         rintro e w4 ⟨rfl, hB4⟩
         have hk3 := hk2.trans (hB4.mono hk2.size))
      | (go_at_call 16
         (with_reducible refine (HW2.out _).mono ?_)
         rintro e w5 ⟨rfl, hB5⟩
         have hk4 := hk3.trans (hB5.mono hk3.size))
      | (go_at_call 19
         refine (awake5_any _).mono ?_
         rintro e w7 ⟨rfl, rfl⟩))
  all_goals go_wp2
  all_goals go_ret
  all_goals exact ⟨rfl, hb0.trans (hk4.mono (by omega))⟩

namespace dataApartRow
open Go.ChangeShapes Go.WideShapes Go.ChangeAt Go.RowKit Go.Joins
open Go.ChangeMaps (open_string shut_string)
set_option linter.unusedVariables false
theorem own : ownKnob Try.prog.godebug = none := by kernel_rfl
theorem laidOut : laidOutB Try.prog = true := by kernel_rfl
set_option maxRecDepth 100000 in
theorem lifted (os : Os) (started : os.Started) (H : Type) (enc : TypeId × Value → H) :
    ReturnsInHanded {} Try.checked os 7 .any (Rows.dataApartSpec.pre6 enc Try.prog Try.f7 Rows.dataApartRow.domain false) (Rows.dataApartSpec.post enc Try.prog Try.f7 false true false false) := by
  refine returnsInHanded_of_change (C := Try.checked) own started (by kernel_rfl) Try.func7
    (ChangeSpec.witness6 (enc := enc) (C := Try.checked) false ⟨#[], #[.agg #[.int .u32 0, .int .u32 0, .int .u64 0, .int .u64 0, .int .u64 0, .int .u64 0, .int .u64 0, .int .u64 0, .int .u64 0], .agg #[.int .u32 0, .int .u32 0, .int .u64 0, .int .u64 0, .int .u64 0, .int .u64 0, .int .u64 0, .int .u64 0, .int .u64 0], .bool false], []⟩ 8 (by kernel_rfl) (by kernel_rfl) (by kernel_rfl) (by kernel_rfl)) ?_
  intro W base args ds gs before hval0 hW hcnd _
  have hval : ∀ (j : Nat) t v, Try.f7.params[j]? = some t → args[j]? = some v → Value.okWide Try.prog W .any base t v := hval0
  have hW' := hW
  obtain ⟨p, q, hA0, hV, rfl, hfz, hnd⟩ := hW
  have hA : DataW.TrodAll enc Try.prog W 0 (fun _ => true) true Try.f7.params.toList args.toList ds p := hA0
  rw [Try.params7] at hA hval
  obtain ⟨v0, vs0, d0, ds0, p0, q0, hargs, rfl, rfl, h0, r0⟩ := trodAll_cons hA
  obtain ⟨v1, vs1, d1, ds1, p1, q1, rfl, rfl, rfl, h1, r1⟩ := trodAll_cons r0
  obtain ⟨v2, vs2, d2, ds2, p2, q2, rfl, rfl, rfl, h2, r2⟩ := trodAll_cons r1
  obtain ⟨rfl, rfl, rfl⟩ := trodAll_nil r2
  obtain rfl : args = #[v0, v1, v2] := by cases args; simp_all
  obtain ⟨rfl, rfl⟩ := trodVars_none hV
  have k0 := h0
  have lt0 : ∀ x ∈ p0, x.block < W.heap.size := by obtain ⟨m, hm⟩ := k0; exact DataW.trod_lt m _ _ _ hm
  have k1 := h1
  have lt1 : ∀ x ∈ p1, x.block < W.heap.size := by obtain ⟨m, hm⟩ := k1; exact DataW.trod_lt m _ _ _ hm
  have k2 := h2
  have lt2 : ∀ x ∈ p2, x.block < W.heap.size := by obtain ⟨m, hm⟩ := k2; exact DataW.trod_lt m _ _ _ hm
  obtain ⟨g0, rfl, w0⟩ := open_rec (hval 0 26 v0 rfl rfl) h0
  obtain ⟨g1, rfl, w1⟩ := open_rec (hval 1 26 v1 rfl rfl) h1
  obtain ⟨a2, rfl, rfl, rfl⟩ := open_bool Try.underlying4 (hval 2 4 v2 rfl rfl) h2
  clear hA0 hval0
  refine (walk_DataApart (w0 := W) g0 w0 g1 w1 a2).mono fun e W' ⟨he, bel⟩ => ?_
  subst he
  exact ⟨_, rfl, _, _, _, [], _, [], hW', trodAll_mk1 (shut_bool Try.underlying4 _), (trodAll_cons_mk (Below.trod laidOut (by kernel_rfl) (of_decide_eq_true (by kernel_rfl)) k0 bel lt0) (trodAll_cons_mk (Below.trod laidOut (by kernel_rfl) (of_decide_eq_true (by kernel_rfl)) k1 bel lt1) (trodAll_cons_mk (Below.trod laidOut (by kernel_rfl) (of_decide_eq_true (by kernel_rfl)) k2 bel lt2) trodAll_mk0))), rfl, bel.frame _, fun h => by cases h⟩

theorem over : Rows.dataApartRow.holds Try.pinned (OpenSpec.ofChange Rows.dataApartSpec) :=
  OpenClaim.holds_of_wide 7 Try.f7 rfl rfl rfl rfl rfl rfl rfl ⟨rfl, rfl, rfl, rfl, rfl⟩ rfl rfl rfl rfl rfl (by kernel_rfl) Try.func7 (by kernel_rfl)
    (of_decide_eq_true (by kernel_rfl)) (by unfold Func.isWrapper; first | (rw [if_pos (by decide +kernel)]; kernel_rfl) | (rw [if_neg (by decide +kernel)]; exact ⟨rfl, rfl⟩))
    (fun os started H enc _ => lifted os started H enc)
end dataApartRow

theorem dataApart_proved : Rows.DataApartSaid := dataApartRow.over
#print axioms dataApart_proved
end Go.Proofs.Ytpjhcaabjgbkjaa
