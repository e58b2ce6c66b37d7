/-
  The contracts of data.Write, and of data's small functions on places.
-/
import Derived.Test.YtieebnninhbdoaaDa
import Derived.Test.YtieebnninhbdoaaDb
namespace Go.Proofs.Ytieebnninhbdoaa
open Go.RowKit

theorem argAt_any (k : Int) (w : World) (h0 : 0 ≤ k) (h1 : k < 6) :
    Calls Try.prog 31 #[.int .i64 k] w fun e w' => e = .returned (.int .i64 (16 + 8 * k)) ∧ w = w' := by
  go_enter Try.func31, Try.ntmps31
  go_wp2
  go_ret
  exact ⟨rfl, rfl⟩

theorem ix24 (cs : Array Value) (v : Value) (j : Nat) (hj : j < 6) (hv : cs[j]? = some v) (W : World) : (Instr.index 46 (.agg cs) (.int .i64 (j : Int))).run Try.prog W = .ok v W := by
  have h1 : (0 ≤ (j : Int) ∧ (j : Int) < 6) := by omega
  simp [Instr.index, run_underlying Try.underlying46, asIntOf, h1, hj, hv, go_sem]

theorem zlit64 : (#[.int .u8 0, .int .u8 0, .int .u8 0, .int .u8 0, .int .u8 0, .int .u8 0, .int .u8 0, .int .u8 0, .int .u8 0, .int .u8 0, .int .u8 0, .int .u8 0, .int .u8 0, .int .u8 0, .int .u8 0, .int .u8 0, .int .u8 0, .int .u8 0, .int .u8 0, .int .u8 0, .int .u8 0, .int .u8 0, .int .u8 0, .int .u8 0, .int .u8 0, .int .u8 0, .int .u8 0, .int .u8 0, .int .u8 0, .int .u8 0, .int .u8 0, .int .u8 0, .int .u8 0, .int .u8 0, .int .u8 0, .int .u8 0, .int .u8 0, .int .u8 0, .int .u8 0, .int .u8 0, .int .u8 0, .int .u8 0, .int .u8 0, .int .u8 0, .int .u8 0, .int .u8 0, .int .u8 0, .int .u8 0, .int .u8 0, .int .u8 0, .int .u8 0, .int .u8 0, .int .u8 0, .int .u8 0, .int .u8 0, .int .u8 0, .int .u8 0, .int .u8 0, .int .u8 0, .int .u8 0, .int .u8 0, .int .u8 0, .int .u8 0, .int .u8 0] : Array Value) = arrB 64 fun _ => 0 := by kernel_rfl
/-- The record's block, and the others that data.Write lays, in the world at hand. -/
theorem laid_rec (r : RV) (big : Bool) (C : Nat → Nat) (p wd x : Nat) (h : ∀ i, i < p → C i = recB r big i) (hx : ∀ i, p ≤ i → i < p + wd → wb big wd x (i - p) = recB r big i) :
    ∀ i, i < p + wd → laid p wd (putF big 0 wd x fun _ => 0) C i = recB r big i := fun i hi => by
  unfold laid
  by_cases hp : p ≤ i
  · rw [if_pos ⟨hp, hi⟩, wb_putF, hx i hp hi]
  · rw [if_neg (by omega), h i (by omega)]

set_option maxRecDepth 100000 in
set_option maxHeartbeats 4000000 in
theorem write5_any (r : RV) (hr : r.ok) (big : Bool) (w : World) :
    Calls Try.prog 18 #[.agg (rcells r), .bool big] w fun e w' => e = .returned (.agg (arrB 64 (recB r big))) ∧ Below w.heap.size w w' := by
  obtain ⟨x0, x1, x2, x3⟩ := hr
  have X3 := Lib.hid x3
  clear x3
  have hmf : ∀ (fn : Fn) (first cap : Array Value) (w : World), (Instr.makeFunc fn first cap).run Try.prog w = .ok (.func fn first cap) w := fun _ _ _ _ => rfl
  unfold rcells
  go_enter Try.func18, Try.ntmps18
  go_wp2_with fail
  rw [zlit64]
  have hc0 : ∀ (W : World) (o o' : Obj) (j : Nat) (v : Value), (rcells r)[j]? = some v → (((W.alloc (.cells (rcells r) 51)).alloc o).alloc o').cell? ⟨W.heap.size, j, none⟩ = some v := fun W o o' j v hv =>
    cell_alloc_l _ (cell_alloc_l _ (rc_cell W r _ j v hv))
  have hc := hc0 w (.cells #[.bool big] 4) (.cells (arrB 64 fun _ => 0) 49)
  have hbg : ((w.alloc (.cells (rcells r) 51)).alloc (.cells #[.bool big] 4)).cell? ⟨w.heap.size + 1, 0, none⟩ = some (.bool big) := by
    have := (cell_new_l (w.alloc (.cells (rcells r) 51)) (.bool big) 4).1
    rwa [World.size_alloc] at this
  have hbig := cell_alloc_l (.cells (arrB 64 fun _ => 0) 49) hbg
  have hres := ArB.new ((w.alloc (.cells (rcells r) 51)).alloc (.cells #[.bool big] 4)) 64 49 (fun _ => 0)
  have hb : Below w.heap.size w (((w.alloc (.cells (rcells r) 51)).alloc (.cells #[.bool big] 4)).alloc (.cells (arrB 64 fun _ => 0) 49)) := (((Below.refl _ w).alloc (Nat.le_refl _) _).alloc (by simp) _).alloc (by simp; omega) _
  have hs : (((w.alloc (.cells (rcells r) 51)).alloc (.cells #[.bool big] 4)).alloc (.cells (arrB 64 fun _ => 0) 49)).heap.size = w.heap.size + 1 + 1 + 1 := by simp
  simp only [World.size_alloc] at hres
  clear hc0 hbg
  unfold rcells at hres hbig hb hs
  have hc1 : ∀ (j : Nat) (v : Value), (#[.int .u32 (r.n : Int), .int .u32 (r.a : Int), .int .u64 (r.p : Int), .int .u64 (r.q 0 : Int), .int .u64 (r.q 1 : Int), .int .u64 (r.q 2 : Int), .int .u64 (r.q 3 : Int), .int .u64 (r.q 4 : Int), .int .u64 (r.q 5 : Int)] : Array Value)[j]? = some v → (((w.alloc (.cells #[.int .u32 r.n, .int .u32 r.a, .int .u64 r.p, .int .u64 (r.q 0), .int .u64 (r.q 1), .int .u64 (r.q 2), .int .u64 (r.q 3), .int .u64 (r.q 4), .int .u64 (r.q 5)] 51)).alloc (.cells #[.bool big] 4)).alloc (.cells (arrB 64 fun _ => 0) 49)).cell? ⟨w.heap.size, j, none⟩ = some v := hc
  clear hc
  generalize hW1 : ((w.alloc (.cells #[.int .u32 r.n, .int .u32 r.a, .int .u64 r.p, .int .u64 (r.q 0), .int .u64 (r.q 1), .int .u64 (r.q 2), .int .u64 (r.q 3), .int .u64 (r.q 4), .int .u64 (r.q 5)] 51)).alloc (.cells #[.bool big] 4)).alloc (.cells (arrB 64 fun _ => 0) 49) = W1 at *
  clear hW1
  have q0 := hc1 0 _ rfl
  have q1 := hc1 1 _ rfl
  have q2 := hc1 2 _ rfl
  have q3 := hc1 3 _ rfl
  have q4 := hc1 4 _ rfl
  have q5 := hc1 5 _ rfl
  have q6 := hc1 6 _ rfl
  have q7 := hc1 7 _ rfl
  have q8 := hc1 8 _ rfl
  simp only [List.getElem_toArray, List.getElem_cons_zero, List.getElem_cons_succ] at q0 q1 q2 q3 q4 q5 q6 q7 q8
  clear hc1
  have keep : Hid (∀ (W : World), Below (w.heap.size + 1 + 1 + 1) W1 W → (W.cell? ⟨w.heap.size, 1, none⟩ = some (.int .u32 r.a) ∧ W.cell? ⟨w.heap.size, 2, none⟩ = some (.int .u64 r.p) ∧ W.cell? ⟨w.heap.size, 3, none⟩ = some (.int .u64 (r.q 0)) ∧ W.cell? ⟨w.heap.size, 4, none⟩ = some (.int .u64 (r.q 1)) ∧ W.cell? ⟨w.heap.size, 5, none⟩ = some (.int .u64 (r.q 2)) ∧ W.cell? ⟨w.heap.size, 6, none⟩ = some (.int .u64 (r.q 3)) ∧ W.cell? ⟨w.heap.size, 7, none⟩ = some (.int .u64 (r.q 4)) ∧ W.cell? ⟨w.heap.size, 8, none⟩ = some (.int .u64 (r.q 5))) ∧ W.cell? ⟨w.heap.size + 1, 0, none⟩ = some (.bool big) ∧ ArB W (w.heap.size + 1 + 1) 64 49 (fun _ => 0)) := Lib.hid fun W hW => by
    have h0 : ∀ j, W.cell? ⟨w.heap.size, j, none⟩ = W1.cell? ⟨w.heap.size, j, none⟩ := fun j => hW.cell (p := ⟨w.heap.size, j, none⟩) (by show w.heap.size < _; omega)
    simp only [h0]
    exact ⟨⟨q1, q2, q3, q4, q5, q6, q7, q8⟩, (hW.cell (p := ⟨w.heap.size + 1, 0, none⟩) (by show w.heap.size + 1 < _; omega)).trans hbig, hres.below hW (by omega)⟩
  clear q1 q2 q3 q4 q5 q6 q7 q8 hbig hres
  have ha0 := ArB.new W1 64 49 (fun _ => 0)
  rw [hs] at ha0
  have hB0 : Below (w.heap.size + 1 + 1 + 1) W1 (W1.alloc (.cells (arrB 64 fun _ => 0) 49)) := (Below.refl _ W1).alloc (by omega) _
  refine (dput_any (w.heap.size + 1 + 1 + 1) (w.heap.size + 1) 0 4 r.n big (fun _ => 0) _ _ rfl mk4 (.inl rfl) (by omega) (by omega) ha0 (keep.out _ hB0).2.1 (by omega)).mono ?_
  rintro e w1 ⟨rfl, ha1, hB1⟩
  have hb1 := hB0.trans hB1
  obtain ⟨⟨q1, q2, q3, q4, q5, q6, q7, q8⟩, hbig, -⟩ := keep.out _ hb1
  have HA1 := Lib.hid ha1
  clear q0 ha0 ha1 hB0 hB1
  have HB1 := Lib.hid hbig
  clear hbig
  go_wp2_with fail
  refine (dput_any (w.heap.size + 1 + 1 + 1) (w.heap.size + 1) 4 4 r.a big _ _ _ rfl mk4 (.inl rfl) (by omega) (by omega) HA1.out HB1.out (by omega)).mono ?_
  rintro e w2 ⟨rfl, ha2, hB2⟩
  have hb2 := hb1.trans hB2
  clear q1 q2 q3 q4 q5 q6 q7 q8
  obtain ⟨⟨-, q2, q3, q4, q5, q6, q7, q8⟩, hbig, -⟩ := keep.out _ hb2
  have HA2 := Lib.hid ha2
  have HB2 := Lib.hid hbig
  clear hbig ha2 hB2
  go_wp2_with fail
  refine (dput_any (w.heap.size + 1 + 1 + 1) (w.heap.size + 1) 8 8 r.p big _ _ _ rfl mk8 (.inr rfl) (by omega) (by omega) HA2.out HB2.out (by omega)).mono ?_
  rintro e w3 ⟨rfl, ha3, hB3⟩
  have hb3 := hb2.trans hB3
  clear q2 q3 q4 q5 q6 q7 q8
  obtain ⟨⟨-, -, q3, q4, q5, q6, q7, q8⟩, -, -⟩ := keep.out _ hb3
  have hA3 : Hid (∃ C, ArB w3 (w.heap.size + 1 + 1 + 1) 64 49 C ∧ ∀ i, i < 16 + 8 * 0 → C i = recB r big i) := Lib.hid (by
    refine ⟨_, ha3, laid_rec r big _ 8 8 r.p (laid_rec r big _ 4 4 r.a (laid_rec r big _ 0 4 r.n (fun i h => by omega) ?_) ?_) ?_⟩
    · intro i _ h; unfold recB; rw [if_pos (by omega), Nat.sub_zero]
    · intro i h h'; unfold recB; rw [if_neg (by omega), if_pos (by omega)]
    · intro i h h'; unfold recB; rw [if_neg (by omega), if_neg (by omega), if_pos (by omega)])
  clear ha3 hB3 HA1 HA2 HB1 HB2 hb1 hb2
  go_wp2_with fail
  go_loopw [26] (fun i wr => ∃ k : Nat, k ≤ 6 ∧ i = .int .i64 k ∧ (∃ C, ArB wr (w.heap.size + 1 + 1 + 1) 64 49 C ∧ ∀ i, i < 16 + 8 * k → C i = recB r big i) ∧ Below (w.heap.size + 1 + 1 + 1) W1 wr)
    (fun i _ => 6 - (intOf i).toNat)
  case atStart => exact ⟨0, by omega, rfl, hA3.out, hb3⟩
  case round =>
    clear hA3 hb3 q3 q4 q5 q6 q7 q8
    obtain ⟨k, hk, rfl, ⟨C, ha, hC⟩, hB⟩ := hrel
    have HA := Lib.hid ha
    have HC := Lib.hid hC
    have hs := hB.size
    obtain ⟨-, hbig, hres⟩ := keep.out _ hB
    have HBG := Lib.hid hbig
    have HRES := Lib.hid hres
    clear ha hC hbig hres
    by_cases hlt : k < 6
    · have hix : ∀ W, (Instr.index 46 (.agg #[.int .u64 (r.q 0), .int .u64 (r.q 1), .int .u64 (r.q 2), .int .u64 (r.q 3), .int .u64 (r.q 4), .int .u64 (r.q 5)]) (.int .i64 (k : Int))).run Try.prog W = .ok (.int .u64 (r.q k)) W := fun W => ix24 _ _ k hlt (by
        match k, hlt with
        | 0, _ => rfl
        | 1, _ => rfl
        | 2, _ => rfl
        | 3, _ => rfl
        | 4, _ => rfl
        | 5, _ => rfl) W
      have i2 : (k : Int) < 6 := by omega
      have i3 : (0 : Int) ≤ (k : Int) := by omega
      go_wp2_with (first
        | (go_at_call 31
           refine (argAt_any _ _ i3 i2).mono ?_
           rintro e w' ⟨rfl, rfl⟩)
        | (go_at_call 29
           refine (dput_any (w.heap.size + 1 + 1 + 1) (w.heap.size + 1) (16 + 8 * k) 8 (r.q k) big C _ _ rfl mk8 (.inr rfl) (by omega) (X3.out k) HA.out HBG.out (by omega)).mono ?_
           rintro e w4 ⟨rfl, ha4, hB4⟩))
      refine ⟨⟨k + 1, by omega, by go_num, ⟨_, ha4, fun i hi => laid_rec r big _ (16 + 8 * k) 8 (r.q k) HC.out ?_ i (by omega)⟩, hB.trans hB4⟩, by simp [intOf]; omega⟩
      intro i h h'
      rw [recB_arg r big k i h (by omega)]
    · obtain rfl : k = 6 := by omega
      have ha : wr.heap[w.heap.size + 1 + 1 + 1]? = some (.cells (arrB 64 (recB r big)) 49) := HA.out.congr (fun i hi => HC.out i (by omega))
      have hs1 := size64 (recB r big)
      have hs2 := arrB_size 64 (fun _ => 0)
      have hs3 := arrB_size 64 (recB r big)
      have h1c := arrB_one 64 (recB r big)
      have h0 : wr.heap[w.heap.size + 1 + 1]? = some (.cells (arrB 64 fun _ => 0) 49) := HRES.out
      have h3' : (wr.setRow (w.heap.size + 1 + 1) (arrB 64 (recB r big))).heap[w.heap.size + 1 + 1]? = some (.cells (arrB 64 (recB r big)) 49) := setRow_heap wr _ _ _ _ _ h0
      obtain ⟨D, hD⟩ : ∃ D, arrB 64 (recB r big) = D := ⟨_, rfl⟩
      obtain ⟨Z0, hZ0⟩ : ∃ D, arrB 64 (fun _ => 0) = D := ⟨_, rfl⟩
      rw [hD] at ha hs1 hs3 h1c h3'
      rw [hZ0] at h0 hs2
      have hfin := below_row (hb.trans (hB.mono (show w.heap.size ≤ _ by omega))) (show w.heap.size ≤ w.heap.size + 1 + 1 by omega) D
      have HD := Lib.hid hD
      have H1 := Lib.hid ha
      have H2 := Lib.hid h0
      have H3 := Lib.hid h3'
      have S1 := Lib.hid hs1
      have S2 := Lib.hid (hs2.trans hs3.symm)
      clear ha h0 hD hZ0 h3' hs1 hs2 hs3 HA HC HRES HBG hlt
      go_wp2_with (first
        | (refine wpList_load_row (by rfl) 49 _ (by rfl) (w.heap.size + 1 + 1 + 1) (by rfl) _ D (0, 0) _ H1.out Try.underlying49 (by rfl) S1.out ?_)
        | (refine wpList_store_row (by rfl) 49 _ _ (by rfl) (w.heap.size + 1 + 1) D (by rfl) (by rfl) _ Z0 H2.out S1.out S2.out h1c ?_))
      exact bodyPost_ret (results_cell_row Try.results18 _ _ (w.heap.size + 1 + 1) _ D (0, 0) _ (by rfl) H3.out Try.underlying49 (by rfl) S1.out) rfl ⟨by rw [HD.out], hfin⟩
end Go.Proofs.Ytieebnninhbdoaa
