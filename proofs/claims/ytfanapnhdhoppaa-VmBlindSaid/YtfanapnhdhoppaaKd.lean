/-
  Contracts of slices.IndexFunc and ContainsFunc over the ways' closure, and of check.place's jumpsTooFar and fault: what is wrong with an instruction alone.
-/
import Derived.Test.YtfanapnhdhoppaaKc
namespace Go.Proofs.Ytfanapnhdhoppaa
open Go.RowKit

set_option maxRecDepth 100000 in
set_option maxHeartbeats 1000000 in
theorem index_any (B : Nat) (r : Nat) (A : Option Addr) (n : Nat) (l : List Nat) (w : World) (hc : w.cell? ⟨B, 6, none⟩ = some (.int .i64 r)) (hr : r ≤ 4096) (hl : U32s w A n l) (hx : ∀ x ∈ l, x < 4294967296) :
    Calls Try.prog 174 #[.slice A n n, .func (.func 164) #[] #[.pointer (some ⟨B, 0, none⟩)]] w fun e w' =>
      ∃ z : Int, e = .returned (.int .i64 z) ∧ (decide (z ≥ 0) = l.any (fun x => decide (r ≤ x))) ∧ w' = w := by
  obtain ⟨hn, hcel⟩ := hl
  have HN := Lib.hid hn
  clear hn
  have hle := hcel.le
  unfold maxLen at hle
  go_enter Try.func174, Try.ntmps174
  go_wp2
  go_loopw [8] (fun i wr => ∃ k : Nat, k ≤ n ∧ i = .int .i64 k ∧ wr = w ∧ ∀ j, j < k → ¬ r ≤ l.getD j 0)
    (fun i _ => n - (intOf i).toNat)
  case atStart => exact ⟨0, Nat.zero_le _, rfl, rfl, fun j hj => by omega⟩
  case round =>
    obtain ⟨k, hk, rfl, rfl, hno⟩ := hrel
    by_cases hlt : k < n
    · obtain ⟨b, off, rfl, hb, hcl⟩ := hcel.at_ (by omega)
      have q0 := hcl k (by omega)
      have hm : l.getD k 0 ∈ l := by
        rw [List.getD_eq_getElem?_getD, List.getElem?_eq_getElem (by have := HN.out; omega)]
        exact List.getElem_mem _
      have hx' := hx _ hm
      obtain ⟨x, ex⟩ : ∃ x, l.getD k 0 = x := ⟨_, rfl⟩
      rw [ex] at q0 hm hx'
      clear hcl
      cases hd : (decide (r ≤ x))
      · have HD := Lib.hid hd
        clear hd
        go_wp2_with (go_at_call 164; refine (far_any B r x _ hc hr hx').mono ?_; rw [HD.out]; rintro e w1 ⟨rfl, rfl⟩)
        refine ⟨⟨k + 1, by omega, by go_num, by trivial, fun j hj => ?_⟩, by simp [intOf]; omega⟩
        by_cases hjk : j = k
        · rw [hjk, ex]; simpa using HD.out
        · exact hno j (by omega)
      · have HD := Lib.hid hd
        clear hd
        go_wp2_with (go_at_call 164; refine (far_any B r x _ hc hr hx').mono ?_; rw [HD.out]; rintro e w1 ⟨rfl, rfl⟩)
        go_ret
        refine ⟨(k : Int), rfl, ?_, rfl⟩
        rw [show l.any (fun x => decide (r ≤ x)) = true from List.any_eq_true.2 ⟨x, hm, HD.out⟩]
        simp
    · obtain rfl : k = n := by omega
      go_wp2
      go_ret
      refine ⟨-1, rfl, ?_, rfl⟩
      have : l.any (fun x => decide (r ≤ x)) = false := by
        rw [List.any_eq_false]
        intro x hxm
        obtain ⟨j, hj, rfl⟩ := List.mem_iff_getElem.1 hxm
        have := hno j (by have := HN.out; omega)
        rw [List.getD_eq_getElem?_getD, List.getElem?_eq_getElem hj] at this
        simpa using this
      rw [this]; decide

set_option maxRecDepth 100000 in
theorem contains_any (B : Nat) (r : Nat) (A : Option Addr) (n : Nat) (l : List Nat) (w : World) (hc : w.cell? ⟨B, 6, none⟩ = some (.int .i64 r)) (hr : r ≤ 4096) (hl : U32s w A n l) (hx : ∀ x ∈ l, x < 4294967296) :
    Calls Try.prog 163 #[.slice A n n, .func (.func 164) #[] #[.pointer (some ⟨B, 0, none⟩)]] w fun e w' =>
      e = .returned (.bool (l.any (fun x => decide (r ≤ x)))) ∧ w' = w := by
  have HI := Lib.hid (index_any B r A n l w hc hr hl hx)
  clear hl hc
  go_enter Try.func163, Try.ntmps163
  go_wp2_with (go_at_call 174; refine HI.out.mono ?_; rintro e w1 ⟨z, rfl, hz, rfl⟩)
  go_ret
  exact ⟨by rw [← hz]; rfl, rfl⟩

theorem fars_small (K : Int) (t f k : Nat) (ht : t < 256) (hf : f < 256) (hk : k < 4294967296) : ∀ x ∈ farsK K t f k, x < 4294967296 := by
  unfold farsK
  split
  · simp
  · split
    · simpa using hk
    · split
      · intro x hx
        simp at hx
        omega
      · simp

set_option maxRecDepth 100000 in
theorem jumpsTooFar_any (c : Int) (t f k r : Nat) (K : Int) (X : Bool) (w : World) (ht : t < 256) (hf : f < 256) (hk : k < 4294967296) (hr : r ≤ 4096) : Calls Try.prog 118 #[plA c t f k K X r] w fun e w' =>
    e = .returned (.bool ((K == 13 || (K == 25 || K == 26 || K == 27 || K == 28)) && (farsK K t f k).any (fun x => decide (r ≤ x)))) ∧ Below w.heap.size w w' := by
  have hbx := Bx.new (w := w) (c := c) (t := t) (f := f) (k := k) (K := K) (X := X) (b := r) 135
  have hB0 : Below w.heap.size w (w.alloc (.cells #[.int .u16 c, .int .u8 t, .int .u8 f, .int .u32 k, .int .i64 K, .bool X, .int .i64 r] 135)) := (Below.refl _ _).alloc (Nat.le_refl _) _
  have HX := Lib.hid hbx
  have hsm := Lib.hid (fars_small K t f k ht hf hk)
  clear hbx
  cases h1 : (K == 13 || (K == 25 || K == 26 || K == 27 || K == 28))
  · have H1 := Lib.hid h1
    clear h1
    go_enter Try.func118, Try.ntmps118
    go_wp2_with (go_at_call 119
                 refine (jumps_any _ _ _ _ _ _ _ _).mono ?_
                 rw [H1.out]
                 rintro e w1 ⟨rfl, hB1⟩
                 have hb1 := hB0.trans (hB1.mono (by simp)))
    go_ret
    exact ⟨rfl, hb1⟩
  · have H1 := Lib.hid h1
    clear h1
    go_enter Try.func118, Try.ntmps118
    go_wp2_with (first
      | (go_at_call 119
         refine (jumps_any _ _ _ _ _ _ _ _).mono ?_
         rw [H1.out]
         rintro e w1 ⟨rfl, hB1⟩
         obtain ⟨q0, q1, q2, q3, q4, q5, q6⟩ := HX.out.below hB1 (by simp)
         have hb1 := hB0.trans (hB1.mono (by simp)))
      | (go_at_call 96
         refine (leads_any _ _ _ _ _ _ _ _ ht hf).mono ?_
         rintro e w2 ⟨A, n, rfl, hU, hB2⟩
         obtain ⟨p0, p1, p2, p3, p4, p5, p6⟩ := (HX.out.below hB1 (by simp)).below hB2 (by have := hB1.size; simp at this; omega)
         have hb2 := hb1.trans (hB2.mono hb1.size))
      | (go_at_call 163
         refine (contains_any _ r _ _ _ _ p6 hr hU hsm.out).mono ?_
         rintro e w3 ⟨rfl, rfl⟩))
    go_ret
    exact ⟨rfl, hb2⟩
end Go.Proofs.Ytfanapnhdhoppaa
