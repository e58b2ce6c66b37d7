/-
  The contract of moved: an instruction that leads where it led, when each place stands where a row tells.
-/
import Derived.Test.YtjblkkffdhaiiabFh
namespace Go.Proofs.Ytjblkkffdhaiiab
open Go.RowKit

set_option maxRecDepth 100000 in
set_option maxHeartbeats 4000000 in
theorem farM_any (c t f k K : Int) (i far n cN nb NB PX : Nat) (Nw : Nat → Nat) (w : World) (hn : n ≤ 4096) (hN : ∀ j, Nw j ≤ 4096) (hi : i < n) (ht : i + 1 + far < n)
    (hbox : w.cell? ⟨NB, 0, none⟩ = some (.slice (some ⟨nb, 0, none⟩) n cN)) (hpl : Fx6 w PX c t f k K i) (hrow : RowAt w nb (intRow n Nw) 3) :
    Calls Try.prog 74 #[.int .u32 far, .pointer (some ⟨NB, 0, none⟩), .pointer (some ⟨PX, 0, none⟩)] w fun e w' => e = .returned (.int .i64 ((Nw (i + 1 + far) : Int) - (Nw i : Int) - 1)) ∧ Below w.heap.size w w' := by
  obtain ⟨q0, q1, q2, q3, q4, q5⟩ := hpl
  have q6 := hrow.cell _ _ (intRow_at n Nw (i + 1 + far) ht)
  have q7 := hrow.cell _ _ (intRow_at n Nw i hi)
  have i1 : (0 : Int) ≤ ((i + 1 + far : Nat) : Int) := by omega
  have i2 : ((i + 1 + far : Nat) : Int) < (n : Int) := by omega
  have i3 : (0 : Int) ≤ (i : Int) := by omega
  have i4 : (i : Int) < (n : Int) := by omega
  have hA := hN (i + 1 + far)
  have hBn := hN i
  obtain ⟨a, ha⟩ : ∃ a, Nw (i + 1 + far) = a := ⟨_, rfl⟩
  obtain ⟨b, hb⟩ : ∃ b, Nw i = b := ⟨_, rfl⟩
  rw [ha] at q6 hA ⊢
  rw [hb] at q7 hBn ⊢
  have e1 : IntKind.i64.wrap ((a : Int) - b) = (a : Int) - b := IntWalk.i64_in _ (by omega)
  have e2 : IntKind.i64.wrap ((a : Int) - b - 1) = (a : Int) - b - 1 := IntWalk.i64_in _ (by omega)
  have L0 := World.block_lt_of_cell? _ _ hbox
  have L1 := World.block_lt_of_cell? _ _ q0
  have L2 := hrow.lt
  have HC := Lib.hid (fun (W : World) (h : Below w.heap.size w W) => behind_any c t f k K i far W (by omega) (by omega))
  obtain ⟨to, hto⟩ : ∃ to, i + 1 + far = to := ⟨_, rfl⟩
  rw [hto] at q6 i1 i2 HC
  clear ha hb hN hrow
  go_enter Try.func74, Try.ntmps74
  go_wp2
  go_region_held3 (fun w' => w'.cell? ⟨NB, 0, none⟩ = some (.slice (some ⟨nb, 0, none⟩) n cN) ∧ w'.cell? ⟨PX, 0, none⟩ = some (.int .u16 c) ∧ w'.cell? ⟨PX, 1, none⟩ = some (.int .u8 t) ∧ w'.cell? ⟨PX, 2, none⟩ = some (.int .u8 f) ∧ w'.cell? ⟨PX, 3, none⟩ = some (.int .u32 k) ∧ w'.cell? ⟨PX, 4, none⟩ = some (.int .i64 K) ∧ w'.cell? ⟨PX, 5, none⟩ = some (.int .i64 i) ∧ w'.cell? ⟨nb, to, none⟩ = some (.int .i64 a) ∧ w'.cell? ⟨nb, i, none⟩ = some (.int .i64 b))
    (first
      | go_keep
      | exact ⟨(hK.cell (p := ⟨NB, 0, none⟩) L0).trans hbox, (hK.cell (p := ⟨PX, 0, none⟩) L1).trans q0, (hK.cell (p := ⟨PX, 1, none⟩) L1).trans q1, (hK.cell (p := ⟨PX, 2, none⟩) L1).trans q2, (hK.cell (p := ⟨PX, 3, none⟩) L1).trans q3, (hK.cell (p := ⟨PX, 4, none⟩) L1).trans q4, (hK.cell (p := ⟨PX, 5, none⟩) L1).trans q5, (hK.cell (p := ⟨nb, to, none⟩) L2).trans q6, (hK.cell (p := ⟨nb, i, none⟩) L2).trans q7⟩)
    (first
      | (go_at_call 72
         refine (HC.out _ (Below.refl _ w).drew).mono ?_
         rintro e wa ⟨rfl, hBa⟩
         have hK : Below w.heap.size w wa := (Below.refl _ w).drew.trans hBa
         clear hBa))
  go_wp2
  go_ret
  exact ⟨rfl, hK⟩

theorem size_inst (c t f k : Int) : (Try.prog.info? 27).map (·.size) = some (#[.int .u16 c, .int .u8 t, .int .u8 f, .int .u32 k] : Array Value).size := by
  show _ = some 4
  kernel_rfl
theorem fx_row {W : World} {B : Nat} {c t f k K i : Int} {T : TypeId} (hr : RowAt W B #[.int .u16 c, .int .u8 t, .int .u8 f, .int .u32 k, .int .i64 K, .int .i64 i] T) : Fx6 W B c t f k K i :=
  ⟨hr.cell 0 _ rfl, hr.cell 1 _ rfl, hr.cell 2 _ rfl, hr.cell 3 _ rfl, hr.cell 4 _ rfl, hr.cell 5 _ rfl⟩
/-- The four cells of the result are stored one behind the other. -/
theorem row_fill {W : World} {RB : Nat} {a0 a1 a2 a3 : Value} (v0 v1 v2 v3 : Value) (h : RowAt W RB #[a0, a1, a2, a3] 27) : RowAt ((((W.setCell ⟨RB, 0, none⟩ v0).setCell ⟨RB, 1, none⟩ v1).setCell ⟨RB, 2, none⟩ v2).setCell ⟨RB, 3, none⟩ v3) RB #[v0, v1, v2, v3] 27 :=
  (((h.set 0 v0).set 1 v1).set 2 v2).set 3 v3
theorem below_fill {w0 W : World} {N RB : Nat} (v0 v1 v2 v3 : Value) (h : Below N w0 W) (hR : N ≤ RB) : Below N w0 ((((W.setCell ⟨RB, 0, none⟩ v0).setCell ⟨RB, 1, none⟩ v1).setCell ⟨RB, 2, none⟩ v2).setCell ⟨RB, 3, none⟩ v3) :=
  (((h.setCell (p := ⟨RB, 0, none⟩) hR _).setCell (p := ⟨RB, 1, none⟩) hR _).setCell (p := ⟨RB, 2, none⟩) hR _).setCell (p := ⟨RB, 3, none⟩) hR _
/-- The result of moved, in its cell. -/
theorem moved_ret {c t f k : Int} {RB : Nat} {a : Act} {W : World} {R : Ending → World → Prop} (ht : a.tmps.getD 4 undef = .pointer (some ⟨RB, 0, none⟩)) (hd : a.defers = []) (hr : RowAt W RB #[.int .u16 c, .int .u8 t, .int .u8 f, .int .u32 k] 27) (h : R (.returned (.agg #[.int .u16 c, .int .u8 t, .int .u8 f, .int .u32 k])) W) :
    bodyPost Try.prog Try.f44 R .ret a W :=
  bodyPost_ret (results_cell_row Try.results44 _ _ RB _ _ (0, 0) _ ht hr Try.underlying27 (by rfl) (size_inst c t f k)) hd h
set_option maxRecDepth 100000 in
set_option maxHeartbeats 4000000 in
theorem movedN_any (c t f k K : Int) (i n cN nb : Nat) (w : World) (h13 : (K == 13) = false) (hbr : (K == 25 || K == 26 || K == 27 || K == 28) = false) :
    Calls Try.prog 44 #[.agg #[.int .u16 c, .int .u8 t, .int .u8 f, .int .u32 k, .int .i64 K, .int .i64 i], .slice (some ⟨nb, 0, none⟩) n cN] w fun e w' => e = .returned (.agg #[.int .u16 c, .int .u8 t, .int .u8 f, .int .u32 k]) ∧ Below w.heap.size w w' := by
  have hcs : (K == 25) = false ∧ (K == 26) = false ∧ (K == 27) = false ∧ (K == 28) = false := by
    revert hbr
    cases (K == 25) <;> cases (K == 26) <;> cases (K == 27) <;> cases (K == 28) <;> simp
  obtain ⟨h25, h26, h27, h28⟩ := hcs
  clear hbr
  go_enter Try.func44, Try.ntmps44
  go_wp2
  exact moved_ret rfl rfl (h_old _ _ _ _ (h_last _ _ _ (by simp))) ⟨rfl, (((((Below.refl _ _).alloc (Nat.le_refl _) _).alloc (by simp) _).alloc (by simp; omega) _).alloc (by simp; omega) _)⟩
set_option maxRecDepth 100000 in
set_option maxHeartbeats 4000000 in
theorem movedJ_any (c t f : Int) (k i n cN nb : Nat) (Nw : Nat → Nat) (w : World) (hn : n ≤ 4096) (hN : ∀ j, Nw j ≤ 4096) (hi : i < n) (ht : i + 1 + k < n) (hle : Nw i + 1 ≤ Nw (i + 1 + k)) (hrow : RowAt w nb (intRow n Nw) 3) :
    Calls Try.prog 44 #[.agg #[.int .u16 c, .int .u8 t, .int .u8 f, .int .u32 k, .int .i64 13, .int .i64 i], .slice (some ⟨nb, 0, none⟩) n cN] w fun e w' => e = .returned (.agg #[.int .u16 c, .int .u8 t, .int .u8 f, .int .u32 ((Nw (i + 1 + k) - Nw i - 1 : Nat) : Int)]) ∧ Below w.heap.size w w' := by
  have HC := Lib.hid (fun (W : World) (NB PX : Nat) (hb : Below w.heap.size w W) (h1 : W.cell? ⟨NB, 0, none⟩ = some (.slice (some ⟨nb, 0, none⟩) n cN)) (h2 : Fx6 W PX c t f k 13 i) => farM_any c t f k 13 i k n cN nb NB PX Nw W hn hN hi ht h1 h2 (hrow.below hb hrow.lt))
  have hA := hN (i + 1 + k)
  obtain ⟨a, ha⟩ : ∃ a, Nw (i + 1 + k) = a := ⟨_, rfl⟩
  obtain ⟨b, hb⟩ : ∃ b, Nw i = b := ⟨_, rfl⟩
  rw [ha, hb] at HC
  rw [ha, hb] at hle ⊢
  rw [ha] at hA
  have e1 : IntKind.u32.wrap ((a : Int) - b - 1) = ((a - b - 1 : Nat) : Int) := by rw [IntKind.wrap_u32]; omega
  clear ha hb hN hrow
  go_enter Try.func44, Try.ntmps44
  go_wp2_with fail
  have hbw : Below w.heap.size w ((((w.alloc (.cells #[.int .u16 c, .int .u8 t, .int .u8 f, .int .u32 k, .int .i64 13, .int .i64 i] 85)).alloc (.cells #[.slice (some ⟨nb, 0, none⟩) n cN] 40)).alloc (.cells #[.int .u16 0, .int .u8 0, .int .u8 0, .int .u32 0] 27)).alloc (.cells #[.int .u16 c, .int .u8 t, .int .u8 f, .int .u32 k] 27)) := (((((Below.refl _ _).alloc (Nat.le_refl _) _).alloc (by simp) _).alloc (by simp; omega) _).alloc (by simp; omega) _)
  refine Calls.mono (HC.out _ (w.heap.size + 1) w.heap.size hbw ((show RowAt _ (w.heap.size + 1) #[.slice (some ⟨nb, 0, none⟩) n cN] 40 from h_old _ _ _ _ (h_old _ _ _ _ (h_last _ _ _ (by simp)))).cell 0 _ rfl) ?hfx) ?_
  case hfx =>
    have hr := h_old _ (.cells #[.int .u16 c, .int .u8 t, .int .u8 f, .int .u32 k] 27) _ _ (h_old _ (.cells #[.int .u16 0, .int .u8 0, .int .u8 0, .int .u32 0] 27) _ _ (h_old _ (.cells #[.slice (some ⟨nb, 0, none⟩) n cN] 40) _ _ (h_last w (.cells #[.int .u16 c, .int .u8 t, .int .u8 f, .int .u32 k, .int .i64 13, .int .i64 i] 85) _ rfl)))
    exact fx_row hr
  rintro e w1 ⟨rfl, hB1⟩
  have hIB : RowAt w1 (w.heap.size + 1 + 1 + 1) #[.int .u16 c, .int .u8 t, .int .u8 f, .int .u32 k] 27 := (show RowAt _ (w.heap.size + 1 + 1 + 1) _ _ from h_last _ _ _ (by simp)).below hB1 (by simp)
  have hRB : RowAt w1 (w.heap.size + 1 + 1) #[.int .u16 0, .int .u8 0, .int .u8 0, .int .u32 0] 27 := (show RowAt _ (w.heap.size + 1 + 1) _ _ from h_old _ _ _ _ (h_last _ _ _ (by simp))).below hB1 (by simp)
  have hb1 : Below w.heap.size w w1 := hbw.trans (hB1.mono (by simp; omega))
  have HRB := Lib.hid hRB
  have HB1 := Lib.hid hb1
  have r0 := hIB.cell 0 _ rfl
  have r1 := hIB.cell 1 _ rfl
  have r2 := hIB.cell 2 _ rfl
  have r3 := hIB.cell 3 _ rfl
  have y3 := hIB.frozen 3
  have z0 := hRB.cell 0 _ rfl
  have z1 := hRB.cell 1 _ rfl
  have z2 := hRB.cell 2 _ rfl
  have z3 := hRB.cell 3 _ rfl
  have x0 := hRB.frozen 0
  have x1 := hRB.frozen 1
  have x2 := hRB.frozen 2
  have x3 := hRB.frozen 3
  clear hIB hRB hb1 hB1 hbw
  go_wp2
  have hR1 : RowAt (w1.setCell ⟨w.heap.size + 1 + 1 + 1, 3, none⟩ (.int .u32 ((a - b - 1 : Nat) : Int))) (w.heap.size + 1 + 1) #[.int .u16 0, .int .u8 0, .int .u8 0, .int .u32 0] 27 := (Below.heap_setCell _ _ _ _ (by show w.heap.size + 1 + 1 ≠ w.heap.size + 1 + 1 + 1; omega)).trans HRB.out
  exact moved_ret rfl rfl (row_fill _ _ _ _ hR1) ⟨rfl, below_fill _ _ _ _ (HB1.out.setCell (p := ⟨w.heap.size + 1 + 1 + 1, 3, none⟩) (show w.heap.size ≤ w.heap.size + 1 + 1 + 1 by omega) _) (show w.heap.size ≤ w.heap.size + 1 + 1 by omega)⟩
set_option maxRecDepth 100000 in
set_option maxHeartbeats 8000000 in
theorem movedB_any (c : Int) (t f : Nat) (k K : Int) (i n cN nb : Nat) (Nw : Nat → Nat) (w : World) (hn : n ≤ 4096) (hN : ∀ j, Nw j ≤ 4096) (hi : i < n) (ht : i + 1 + t < n) (hf : i + 1 + f < n) (ht2 : t < 256) (hf2 : f < 256)
    (hle : Nw i + 1 ≤ Nw (i + 1 + t)) (hlf : Nw i + 1 ≤ Nw (i + 1 + f)) (hst : Nw (i + 1 + t) - Nw i - 1 < 256) (hsf : Nw (i + 1 + f) - Nw i - 1 < 256) (hrow : RowAt w nb (intRow n Nw) 3)
    (h13 : (K == 13) = false) (hbr : (K == 25 || K == 26 || K == 27 || K == 28) = true) :
    Calls Try.prog 44 #[.agg #[.int .u16 c, .int .u8 t, .int .u8 f, .int .u32 k, .int .i64 K, .int .i64 i], .slice (some ⟨nb, 0, none⟩) n cN] w fun e w' => e = .returned (.agg #[.int .u16 c, .int .u8 ((Nw (i + 1 + t) - Nw i - 1 : Nat) : Int), .int .u8 ((Nw (i + 1 + f) - Nw i - 1 : Nat) : Int), .int .u32 k]) ∧ Below w.heap.size w w' := by
  have hcs : (K == 25) = true ∨ (K == 25) = false ∧ (K == 26) = true ∨ (K == 25) = false ∧ (K == 26) = false ∧ (K == 27) = true ∨ (K == 25) = false ∧ (K == 26) = false ∧ (K == 27) = false ∧ (K == 28) = true := by
    revert hbr
    cases (K == 25) <;> cases (K == 26) <;> cases (K == 27) <;> cases (K == 28) <;> simp
  have HT := Lib.hid (fun (W : World) (NB PX : Nat) (hb : Below w.heap.size w W) (h1 : W.cell? ⟨NB, 0, none⟩ = some (.slice (some ⟨nb, 0, none⟩) n cN)) (h2 : Fx6 W PX c t f k K i) => farM_any c t f k K i t n cN nb NB PX Nw W hn hN hi ht h1 h2 (hrow.below hb hrow.lt))
  have HF := Lib.hid (fun (W : World) (NB PX : Nat) (hb : Below w.heap.size w W) (h1 : W.cell? ⟨NB, 0, none⟩ = some (.slice (some ⟨nb, 0, none⟩) n cN)) (h2 : Fx6 W PX c t f k K i) => farM_any c t f k K i f n cN nb NB PX Nw W hn hN hi hf h1 h2 (hrow.below hb hrow.lt))
  obtain ⟨a, ha⟩ : ∃ a, Nw (i + 1 + t) = a := ⟨_, rfl⟩
  obtain ⟨a', ha'⟩ : ∃ a', Nw (i + 1 + f) = a' := ⟨_, rfl⟩
  obtain ⟨b, hb⟩ : ∃ b, Nw i = b := ⟨_, rfl⟩
  rw [ha, hb] at HT
  rw [ha', hb] at HF
  rw [ha, hb] at hle hst
  rw [ha', hb] at hlf hsf
  rw [ha, ha', hb]
  have e1 : IntKind.u8.wrap ((a : Int) - b - 1) = ((a - b - 1 : Nat) : Int) := by rw [IntKind.wrap_u8]; omega
  have e2 : IntKind.u8.wrap ((a' : Int) - b - 1) = ((a' - b - 1 : Nat) : Int) := by rw [IntKind.wrap_u8]; omega
  have et : IntKind.u32.wrap (t : Int) = (t : Int) := by rw [IntKind.wrap_u32]; omega
  have ef : IntKind.u32.wrap (f : Int) = (f : Int) := by rw [IntKind.wrap_u32]; omega
  clear ha ha' hb hN hrow hbr hle hlf hst hsf
  rcases hcs with h25 | ⟨h25, h26⟩ | ⟨h25, h26, h27⟩ | ⟨h25, h26, h27, h28⟩
  all_goals
    go_enter Try.func44, Try.ntmps44
    go_wp2
    have hbw : Below w.heap.size w ((((w.alloc (.cells #[.int .u16 c, .int .u8 t, .int .u8 f, .int .u32 k, .int .i64 K, .int .i64 i] 85)).alloc (.cells #[.slice (some ⟨nb, 0, none⟩) n cN] 40)).alloc (.cells #[.int .u16 0, .int .u8 0, .int .u8 0, .int .u32 0] 27)).alloc (.cells #[.int .u16 c, .int .u8 t, .int .u8 f, .int .u32 k] 27)) := (((((Below.refl _ _).alloc (Nat.le_refl _) _).alloc (by simp) _).alloc (by simp; omega) _).alloc (by simp; omega) _)
    have hFX : Fx6 ((((w.alloc (.cells #[.int .u16 c, .int .u8 t, .int .u8 f, .int .u32 k, .int .i64 K, .int .i64 i] 85)).alloc (.cells #[.slice (some ⟨nb, 0, none⟩) n cN] 40)).alloc (.cells #[.int .u16 0, .int .u8 0, .int .u8 0, .int .u32 0] 27)).alloc (.cells #[.int .u16 c, .int .u8 t, .int .u8 f, .int .u32 k] 27)) w.heap.size c t f k K i := fx_row (h_old _ _ _ _ (h_old _ _ _ _ (h_old _ _ _ _ (h_last _ _ _ rfl))))
    have hNB : RowAt ((((w.alloc (.cells #[.int .u16 c, .int .u8 t, .int .u8 f, .int .u32 k, .int .i64 K, .int .i64 i] 85)).alloc (.cells #[.slice (some ⟨nb, 0, none⟩) n cN] 40)).alloc (.cells #[.int .u16 0, .int .u8 0, .int .u8 0, .int .u32 0] 27)).alloc (.cells #[.int .u16 c, .int .u8 t, .int .u8 f, .int .u32 k] 27)) (w.heap.size + 1) #[.slice (some ⟨nb, 0, none⟩) n cN] 40 := h_old _ _ _ _ (h_old _ _ _ _ (h_last _ _ _ (by simp)))
    have hRB : RowAt ((((w.alloc (.cells #[.int .u16 c, .int .u8 t, .int .u8 f, .int .u32 k, .int .i64 K, .int .i64 i] 85)).alloc (.cells #[.slice (some ⟨nb, 0, none⟩) n cN] 40)).alloc (.cells #[.int .u16 0, .int .u8 0, .int .u8 0, .int .u32 0] 27)).alloc (.cells #[.int .u16 c, .int .u8 t, .int .u8 f, .int .u32 k] 27)) (w.heap.size + 1 + 1) #[.int .u16 0, .int .u8 0, .int .u8 0, .int .u32 0] 27 := h_old _ _ _ _ (h_last _ _ _ (by simp))
    have hIB : RowAt ((((w.alloc (.cells #[.int .u16 c, .int .u8 t, .int .u8 f, .int .u32 k, .int .i64 K, .int .i64 i] 85)).alloc (.cells #[.slice (some ⟨nb, 0, none⟩) n cN] 40)).alloc (.cells #[.int .u16 0, .int .u8 0, .int .u8 0, .int .u32 0] 27)).alloc (.cells #[.int .u16 c, .int .u8 t, .int .u8 f, .int .u32 k] 27)) (w.heap.size + 1 + 1 + 1) #[.int .u16 c, .int .u8 t, .int .u8 f, .int .u32 k] 27 := h_last _ _ _ (by simp)
    have hs0 : w.heap.size + 4 ≤ (((((w.alloc (.cells #[.int .u16 c, .int .u8 t, .int .u8 f, .int .u32 k, .int .i64 K, .int .i64 i] 85)).alloc (.cells #[.slice (some ⟨nb, 0, none⟩) n cN] 40)).alloc (.cells #[.int .u16 0, .int .u8 0, .int .u8 0, .int .u32 0] 27)).alloc (.cells #[.int .u16 c, .int .u8 t, .int .u8 f, .int .u32 k] 27))).heap.size := by simp
    generalize ((((w.alloc (.cells #[.int .u16 c, .int .u8 t, .int .u8 f, .int .u32 k, .int .i64 K, .int .i64 i] 85)).alloc (.cells #[.slice (some ⟨nb, 0, none⟩) n cN] 40)).alloc (.cells #[.int .u16 0, .int .u8 0, .int .u8 0, .int .u32 0] 27)).alloc (.cells #[.int .u16 c, .int .u8 t, .int .u8 f, .int .u32 k] 27)) = W0 at *
    have HBW := Lib.hid hbw
    have HFX := Lib.hid hFX
    have HNB := Lib.hid hNB
    have HRB := Lib.hid hRB
    have HIB := Lib.hid hIB
    have HS0 := Lib.hid hs0
    have r1 := hIB.cell 1 _ rfl
    have r2 := hIB.cell 2 _ rfl
    clear hbw hFX hNB hRB hIB hs0
    go_region_with (first
      | (go_at_call_of 74 (Value.int .u32 ((t : Nat) : Int))
         refine (HT.out _ (w.heap.size + 1) w.heap.size HBW.out.drew (HNB.out.cell 0 _ rfl) HFX.out).mono ?_
         rintro e wa ⟨rfl, hBa⟩
         have hka : Below (w.heap.size + 4) W0 wa := (Below.refl _ W0).drew.trans (hBa.mono HS0.out)
         have HKA := Lib.hid hka
         have ra1 := (HIB.out.below hka (by omega)).cell 1 _ rfl
         have ra2 := (HIB.out.below hka (by omega)).cell 2 _ rfl
         clear hka hBa)
      | (go_at_call_of 74 (Value.int .u32 ((f : Nat) : Int))
         refine (HF.out _ (w.heap.size + 1) w.heap.size (HBW.out.trans (HKA.out.mono (by omega))) ((HNB.out.below HKA.out (by omega)).cell 0 _ rfl) (HFX.out.below HKA.out (by omega))).mono ?_
         rintro e wb ⟨rfl, hBb⟩
         have hkb : Below (w.heap.size + 4) W0 wb := HKA.out.trans (hBb.mono (Nat.le_trans HS0.out HKA.out.size))
         have HKB := Lib.hid hkb
         have rb0 := (HIB.out.below hkb (by omega)).cell 0 _ rfl
         have rb1 := (HIB.out.below hkb (by omega)).cell 1 _ rfl
         have rb2 := (HIB.out.below hkb (by omega)).cell 2 _ rfl
         have rb3 := (HIB.out.below hkb (by omega)).cell 3 _ rfl
         have yb1 := (HIB.out.below hkb (by omega)).frozen 1
         have yb2 := (HIB.out.below hkb (by omega)).frozen 2
         have zb0 := (HRB.out.below hkb (by omega)).cell 0 _ rfl
         have zb1 := (HRB.out.below hkb (by omega)).cell 1 _ rfl
         have zb2 := (HRB.out.below hkb (by omega)).cell 2 _ rfl
         have zb3 := (HRB.out.below hkb (by omega)).cell 3 _ rfl
         have xb0 := (HRB.out.below hkb (by omega)).frozen 0
         have xb1 := (HRB.out.below hkb (by omega)).frozen 1
         have xb2 := (HRB.out.below hkb (by omega)).frozen 2
         have xb3 := (HRB.out.below hkb (by omega)).frozen 3
         clear hkb hBb))
    all_goals
      go_wp2
      have hR1 : RowAt ((wb.setCell ⟨w.heap.size + 1 + 1 + 1, 1, none⟩ (.int .u8 ((a - b - 1 : Nat) : Int))).setCell ⟨w.heap.size + 1 + 1 + 1, 2, none⟩ (.int .u8 ((a' - b - 1 : Nat) : Int))) (w.heap.size + 1 + 1) #[.int .u16 0, .int .u8 0, .int .u8 0, .int .u32 0] 27 :=
        (Below.heap_setCell _ _ _ _ (show w.heap.size + 1 + 1 ≠ w.heap.size + 1 + 1 + 1 by omega)).trans ((Below.heap_setCell _ _ _ _ (show w.heap.size + 1 + 1 ≠ w.heap.size + 1 + 1 + 1 by omega)).trans (HRB.out.below HKB.out (by omega)))
      exact moved_ret rfl rfl (row_fill _ _ _ _ hR1) ⟨rfl, below_fill _ _ _ _ (((HBW.out.trans (HKB.out.mono (show w.heap.size ≤ w.heap.size + 4 by omega))).setCell (p := ⟨w.heap.size + 1 + 1 + 1, 1, none⟩) (show w.heap.size ≤ w.heap.size + 1 + 1 + 1 by omega) _).setCell (p := ⟨w.heap.size + 1 + 1 + 1, 2, none⟩) (show w.heap.size ≤ w.heap.size + 1 + 1 + 1 by omega) _) (show w.heap.size ≤ w.heap.size + 1 + 1 by omega)⟩
end Go.Proofs.Ytjblkkffdhaiiab
