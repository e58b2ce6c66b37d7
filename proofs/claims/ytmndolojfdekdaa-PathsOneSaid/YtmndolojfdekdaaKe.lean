/-
  The contract of check.place's fault: what is wrong with an instruction alone.
-/
import Derived.Test.YtmndolojfdekdaaKa
import Derived.Laws.EntriesVeiled
namespace Go.Proofs.Ytmndolojfdekdaa
open Go.RowKit

/-- The six questions, in their order. -/
def tst (K : Int) (X : Bool) (t f k r : Nat) : Nat → Bool
  | 0 => K == 0
  | 1 => K == 1 && ((k : Int) % 4 != 0 || decide ((k : Int) ≥ 64))
  | 2 => (K == 3 || K == 6 || (K == 8 || K == 9)) && decide ((k : Int) ≥ 16)
  | 3 => K == 19 && !X && (k : Int) == 0
  | 4 => (K == 22 || K == 23) && !X && decide ((k : Int) > 31)
  | _ => (K == 13 || (K == 25 || K == 26 || K == 27 || K == 28)) && (farsK K t f k).any (fun x => decide (r ≤ x))
/-- The error of the first one that is so. -/
def faultK (q : Nat → Bool) : Nat := if q 0 = true then 5 else if q 1 = true then 6 else if q 2 = true then 7 else if q 3 = true then 8 else if q 4 = true then 9 else if q 5 = true then 10 else 0
theorem faultK_at (q : Nat → Bool) (j : Nat) (hj : j < 6) (h : q j = true) (h0 : ∀ i, i < j → q i = false) : faultK q = j + 5 := by
  unfold faultK
  match j, hj with
  | 0, _ => simp [h]
  | 1, _ => simp [h, h0 0 (by omega)]
  | 2, _ => simp [h, h0 0 (by omega), h0 1 (by omega)]
  | 3, _ => simp [h, h0 0 (by omega), h0 1 (by omega), h0 2 (by omega)]
  | 4, _ => simp [h, h0 0 (by omega), h0 1 (by omega), h0 2 (by omega), h0 3 (by omega)]
  | 5, _ => simp [h, h0 0 (by omega), h0 1 (by omega), h0 2 (by omega), h0 3 (by omega), h0 4 (by omega)]
theorem faultK_no (q : Nat → Bool) (h0 : ∀ i, i < 6 → q i = false) : faultK q = 0 := by
  unfold faultK
  simp [h0 0 (by omega), h0 1 (by omega), h0 2 (by omega), h0 3 (by omega), h0 4 (by omega), h0 5 (by omega)]

theorem q0_any (c : Int) (t f k r : Nat) (K : Int) (X : Bool) (w : World) (_ht : t < 256) (_hf : f < 256) (_hk : k < 4294967296) (_hr : r ≤ 4096) : Calls Try.prog 149 #[plA c t f k K X r] w fun e w' => e = .returned (.bool (tst K X t f k r 0)) ∧ Below w.heap.size w w' := meansNothing_any _ _ _ _ _ _ _ _
theorem q1_any (c : Int) (t f k r : Nat) (K : Int) (X : Bool) (w : World) (_ht : t < 256) (_hf : f < 256) (_hk : k < 4294967296) (_hr : r ≤ 4096) : Calls Try.prog 150 #[plA c t f k K X r] w fun e w' => e = .returned (.bool (tst K X t f k r 1)) ∧ Below w.heap.size w w' := loadsNoWord_any _ _ _ _ _ _ _ _ (by omega) (by omega)
theorem q2_any (c : Int) (t f k r : Nat) (K : Int) (X : Bool) (w : World) (_ht : t < 256) (_hf : f < 256) (_hk : k < 4294967296) (_hr : r ≤ 4096) : Calls Try.prog 151 #[plA c t f k K X r] w fun e w' => e = .returned (.bool (tst K X t f k r 2)) ∧ Below w.heap.size w w' := speaks_any _ _ _ _ _ _ _ _
theorem q3_any (c : Int) (t f k r : Nat) (K : Int) (X : Bool) (w : World) (_ht : t < 256) (_hf : f < 256) (_hk : k < 4294967296) (_hr : r ≤ 4096) : Calls Try.prog 152 #[plA c t f k K X r] w fun e w' => e = .returned (.bool (tst K X t f k r 3)) ∧ Below w.heap.size w w' := dividesByZero_any _ _ _ _ _ _ _ _
theorem q4_any (c : Int) (t f k r : Nat) (K : Int) (X : Bool) (w : World) (_ht : t < 256) (_hf : f < 256) (_hk : k < 4294967296) (_hr : r ≤ 4096) : Calls Try.prog 153 #[plA c t f k K X r] w fun e w' => e = .returned (.bool (tst K X t f k r 4)) ∧ Below w.heap.size w w' := shiftsTooFar_any _ _ _ _ _ _ _ _
theorem q5_any (c : Int) (t f k r : Nat) (K : Int) (X : Bool) (w : World) (_ht : t < 256) (_hf : f < 256) (_hk : k < 4294967296) (_hr : r ≤ 4096) : Calls Try.prog 154 #[plA c t f k K X r] w fun e w' => e = .returned (.bool (tst K X t f k r 5)) ∧ Below w.heap.size w w' := jumpsTooFar_any _ _ _ _ _ _ _ _ _ht _hf _hk _hr
theorem ix6 (cs : Array Value) (j : Nat) (hj : j < 6) (W : World) : (Instr.index 204 (.agg cs) (.int .i64 j)).run Try.prog W = .ok (.agg (cs.extract (j * 2) (j * 2 + 2))) W := by
  have h1 : (0 ≤ (j : Int) ∧ (j : Int) < 6) := by omega
  simp [Instr.index, run_underlying Try.underlying204, asIntOf, h1, hj, go_sem]

set_option maxRecDepth 100000 in
set_option maxHeartbeats 4000000 in
theorem fault_any_K (c : Int) (t f k r : Nat) (K : Int) (X : Bool) (w : World) (ht : t < 256) (hf : f < 256) (hk : k < 4294967296) (hr : r ≤ 4096) : Calls Try.prog 100 #[plA c t f k K X r] w fun e w' =>
    e = .returned (.int .i64 (faultK (tst K X t f k r) : Nat)) ∧ Below w.heap.size w w' := by
  have hq : ∀ (W : World) (o : Value) (i : Int) (E : TypeId), (W.alloc (.cells #[o, .int .i64 i] E)).cell? ⟨W.heap.size, 1, none⟩ = some (.int .i64 i) := fun W o i E => by
    rw [World.cell?_alloc_at _ _ _ _ rfl]; rfl
  have HQ := Lib.hid hq
  have hlt : 203 < Try.prog.types.size := of_decide_eq_true (by kernel_rfl)
  have hsz : (Try.prog.types[203]'hlt).size = 2 := by kernel_rfl
  have T : ∀ j, ∃ b, tst K X t f k r j = b := fun j => ⟨_, rfl⟩
  have TH := Lib.hid T
  clear hq T
  go_enter Try.func100, Try.ntmps100
  go_wp2
  go_loopw [26] (fun i wr => ∃ j : Nat, j ≤ 6 ∧ i = .int .i64 j ∧ Below w.heap.size w wr ∧ ∀ i, i < j → tst K X t f k r i = false)
    (fun i _ => 6 - (intOf i).toNat)
  case atStart => exact ⟨0, by omega, rfl, by first | exact ((Below.refl _ _).alloc (Nat.le_refl _) _).alloc (by simp) _ | exact (Below.refl _ _).alloc (Nat.le_refl _) _, fun i hi => by omega⟩
  case round =>
    obtain ⟨j, hj, rfl, hB, hno⟩ := hrel
    have HNO := Lib.hid hno
    clear hno
    have hs := hB.size
    match j, hj with
    | 0, _ =>
      have hix : ∀ W, (Instr.index 204 (.agg #[.func (.func 149) #[.agg #[.int .u16 c, .int .u8 t, .int .u8 f, .int .u32 k, .int .i64 K, .bool X, .int .i64 r]] #[], .int .i64 5, .func (.func 150) #[.agg #[.int .u16 c, .int .u8 t, .int .u8 f, .int .u32 k, .int .i64 K, .bool X, .int .i64 r]] #[], .int .i64 6, .func (.func 151) #[.agg #[.int .u16 c, .int .u8 t, .int .u8 f, .int .u32 k, .int .i64 K, .bool X, .int .i64 r]] #[], .int .i64 7, .func (.func 152) #[.agg #[.int .u16 c, .int .u8 t, .int .u8 f, .int .u32 k, .int .i64 K, .bool X, .int .i64 r]] #[], .int .i64 8, .func (.func 153) #[.agg #[.int .u16 c, .int .u8 t, .int .u8 f, .int .u32 k, .int .i64 K, .bool X, .int .i64 r]] #[], .int .i64 9, .func (.func 154) #[.agg #[.int .u16 c, .int .u8 t, .int .u8 f, .int .u32 k, .int .i64 K, .bool X, .int .i64 r]] #[], .int .i64 10]) (.int .i64 0)).run Try.prog W = .ok (.agg #[.func (.func 149) #[.agg #[.int .u16 c, .int .u8 t, .int .u8 f, .int .u32 k, .int .i64 K, .bool X, .int .i64 r]] #[], .int .i64 5]) W := fun W => (ix6 _ 0 (by omega) W).trans rfl
      obtain ⟨b, hb⟩ := TH.out 0
      cases b
      · have HB := Lib.hid hb
        clear hb
        go_wp2_with (go_at_call 149; refine (q0_any _ _ _ _ _ _ _ _ ht hf hk hr).mono ?_; rw [HB.out]; rintro e w1 ⟨rfl, hB1⟩; have q1 := (hB1.cell (p := ⟨wr.heap.size, 1, none⟩) (by simp)).trans (HQ.out _ _ _ _))
        exact ⟨⟨0 + 1, by omega, by go_num, (hB.alloc hs _).trans (hB1.mono (by simp; omega)), fun i hi => by
          by_cases h : i = 0
          · subst h; exact HB.out
          · exact HNO.out i (by omega)⟩, by simp [intOf]⟩
      · have HB := Lib.hid hb
        clear hb
        go_wp2_with (go_at_call 149; refine (q0_any _ _ _ _ _ _ _ _ ht hf hk hr).mono ?_; rw [HB.out]; rintro e w1 ⟨rfl, hB1⟩; have q1 := (hB1.cell (p := ⟨wr.heap.size, 1, none⟩) (by simp)).trans (HQ.out _ _ _ _))
        go_ret
        exact ⟨by rw [faultK_at _ 0 (by omega) HB.out (fun i hi => HNO.out i (by omega))]; rfl, (hB.alloc hs _).trans (hB1.mono (by simp; omega))⟩
    | 1, _ =>
      have hix : ∀ W, (Instr.index 204 (.agg #[.func (.func 149) #[.agg #[.int .u16 c, .int .u8 t, .int .u8 f, .int .u32 k, .int .i64 K, .bool X, .int .i64 r]] #[], .int .i64 5, .func (.func 150) #[.agg #[.int .u16 c, .int .u8 t, .int .u8 f, .int .u32 k, .int .i64 K, .bool X, .int .i64 r]] #[], .int .i64 6, .func (.func 151) #[.agg #[.int .u16 c, .int .u8 t, .int .u8 f, .int .u32 k, .int .i64 K, .bool X, .int .i64 r]] #[], .int .i64 7, .func (.func 152) #[.agg #[.int .u16 c, .int .u8 t, .int .u8 f, .int .u32 k, .int .i64 K, .bool X, .int .i64 r]] #[], .int .i64 8, .func (.func 153) #[.agg #[.int .u16 c, .int .u8 t, .int .u8 f, .int .u32 k, .int .i64 K, .bool X, .int .i64 r]] #[], .int .i64 9, .func (.func 154) #[.agg #[.int .u16 c, .int .u8 t, .int .u8 f, .int .u32 k, .int .i64 K, .bool X, .int .i64 r]] #[], .int .i64 10]) (.int .i64 1)).run Try.prog W = .ok (.agg #[.func (.func 150) #[.agg #[.int .u16 c, .int .u8 t, .int .u8 f, .int .u32 k, .int .i64 K, .bool X, .int .i64 r]] #[], .int .i64 6]) W := fun W => (ix6 _ 1 (by omega) W).trans rfl
      obtain ⟨b, hb⟩ := TH.out 1
      cases b
      · have HB := Lib.hid hb
        clear hb
        go_wp2_with (go_at_call 150; refine (q1_any _ _ _ _ _ _ _ _ ht hf hk hr).mono ?_; rw [HB.out]; rintro e w1 ⟨rfl, hB1⟩; have q1 := (hB1.cell (p := ⟨wr.heap.size, 1, none⟩) (by simp)).trans (HQ.out _ _ _ _))
        exact ⟨⟨1 + 1, by omega, by go_num, (hB.alloc hs _).trans (hB1.mono (by simp; omega)), fun i hi => by
          by_cases h : i = 1
          · subst h; exact HB.out
          · exact HNO.out i (by omega)⟩, by simp [intOf]⟩
      · have HB := Lib.hid hb
        clear hb
        go_wp2_with (go_at_call 150; refine (q1_any _ _ _ _ _ _ _ _ ht hf hk hr).mono ?_; rw [HB.out]; rintro e w1 ⟨rfl, hB1⟩; have q1 := (hB1.cell (p := ⟨wr.heap.size, 1, none⟩) (by simp)).trans (HQ.out _ _ _ _))
        go_ret
        exact ⟨by rw [faultK_at _ 1 (by omega) HB.out (fun i hi => HNO.out i (by omega))]; rfl, (hB.alloc hs _).trans (hB1.mono (by simp; omega))⟩
    | 2, _ =>
      have hix : ∀ W, (Instr.index 204 (.agg #[.func (.func 149) #[.agg #[.int .u16 c, .int .u8 t, .int .u8 f, .int .u32 k, .int .i64 K, .bool X, .int .i64 r]] #[], .int .i64 5, .func (.func 150) #[.agg #[.int .u16 c, .int .u8 t, .int .u8 f, .int .u32 k, .int .i64 K, .bool X, .int .i64 r]] #[], .int .i64 6, .func (.func 151) #[.agg #[.int .u16 c, .int .u8 t, .int .u8 f, .int .u32 k, .int .i64 K, .bool X, .int .i64 r]] #[], .int .i64 7, .func (.func 152) #[.agg #[.int .u16 c, .int .u8 t, .int .u8 f, .int .u32 k, .int .i64 K, .bool X, .int .i64 r]] #[], .int .i64 8, .func (.func 153) #[.agg #[.int .u16 c, .int .u8 t, .int .u8 f, .int .u32 k, .int .i64 K, .bool X, .int .i64 r]] #[], .int .i64 9, .func (.func 154) #[.agg #[.int .u16 c, .int .u8 t, .int .u8 f, .int .u32 k, .int .i64 K, .bool X, .int .i64 r]] #[], .int .i64 10]) (.int .i64 2)).run Try.prog W = .ok (.agg #[.func (.func 151) #[.agg #[.int .u16 c, .int .u8 t, .int .u8 f, .int .u32 k, .int .i64 K, .bool X, .int .i64 r]] #[], .int .i64 7]) W := fun W => (ix6 _ 2 (by omega) W).trans rfl
      obtain ⟨b, hb⟩ := TH.out 2
      cases b
      · have HB := Lib.hid hb
        clear hb
        go_wp2_with (go_at_call 151; refine (q2_any _ _ _ _ _ _ _ _ ht hf hk hr).mono ?_; rw [HB.out]; rintro e w1 ⟨rfl, hB1⟩; have q1 := (hB1.cell (p := ⟨wr.heap.size, 1, none⟩) (by simp)).trans (HQ.out _ _ _ _))
        exact ⟨⟨2 + 1, by omega, by go_num, (hB.alloc hs _).trans (hB1.mono (by simp; omega)), fun i hi => by
          by_cases h : i = 2
          · subst h; exact HB.out
          · exact HNO.out i (by omega)⟩, by simp [intOf]⟩
      · have HB := Lib.hid hb
        clear hb
        go_wp2_with (go_at_call 151; refine (q2_any _ _ _ _ _ _ _ _ ht hf hk hr).mono ?_; rw [HB.out]; rintro e w1 ⟨rfl, hB1⟩; have q1 := (hB1.cell (p := ⟨wr.heap.size, 1, none⟩) (by simp)).trans (HQ.out _ _ _ _))
        go_ret
        exact ⟨by rw [faultK_at _ 2 (by omega) HB.out (fun i hi => HNO.out i (by omega))]; rfl, (hB.alloc hs _).trans (hB1.mono (by simp; omega))⟩
    | 3, _ =>
      have hix : ∀ W, (Instr.index 204 (.agg #[.func (.func 149) #[.agg #[.int .u16 c, .int .u8 t, .int .u8 f, .int .u32 k, .int .i64 K, .bool X, .int .i64 r]] #[], .int .i64 5, .func (.func 150) #[.agg #[.int .u16 c, .int .u8 t, .int .u8 f, .int .u32 k, .int .i64 K, .bool X, .int .i64 r]] #[], .int .i64 6, .func (.func 151) #[.agg #[.int .u16 c, .int .u8 t, .int .u8 f, .int .u32 k, .int .i64 K, .bool X, .int .i64 r]] #[], .int .i64 7, .func (.func 152) #[.agg #[.int .u16 c, .int .u8 t, .int .u8 f, .int .u32 k, .int .i64 K, .bool X, .int .i64 r]] #[], .int .i64 8, .func (.func 153) #[.agg #[.int .u16 c, .int .u8 t, .int .u8 f, .int .u32 k, .int .i64 K, .bool X, .int .i64 r]] #[], .int .i64 9, .func (.func 154) #[.agg #[.int .u16 c, .int .u8 t, .int .u8 f, .int .u32 k, .int .i64 K, .bool X, .int .i64 r]] #[], .int .i64 10]) (.int .i64 3)).run Try.prog W = .ok (.agg #[.func (.func 152) #[.agg #[.int .u16 c, .int .u8 t, .int .u8 f, .int .u32 k, .int .i64 K, .bool X, .int .i64 r]] #[], .int .i64 8]) W := fun W => (ix6 _ 3 (by omega) W).trans rfl
      obtain ⟨b, hb⟩ := TH.out 3
      cases b
      · have HB := Lib.hid hb
        clear hb
        go_wp2_with (go_at_call 152; refine (q3_any _ _ _ _ _ _ _ _ ht hf hk hr).mono ?_; rw [HB.out]; rintro e w1 ⟨rfl, hB1⟩; have q1 := (hB1.cell (p := ⟨wr.heap.size, 1, none⟩) (by simp)).trans (HQ.out _ _ _ _))
        exact ⟨⟨3 + 1, by omega, by go_num, (hB.alloc hs _).trans (hB1.mono (by simp; omega)), fun i hi => by
          by_cases h : i = 3
          · subst h; exact HB.out
          · exact HNO.out i (by omega)⟩, by simp [intOf]⟩
      · have HB := Lib.hid hb
        clear hb
        go_wp2_with (go_at_call 152; refine (q3_any _ _ _ _ _ _ _ _ ht hf hk hr).mono ?_; rw [HB.out]; rintro e w1 ⟨rfl, hB1⟩; have q1 := (hB1.cell (p := ⟨wr.heap.size, 1, none⟩) (by simp)).trans (HQ.out _ _ _ _))
        go_ret
        exact ⟨by rw [faultK_at _ 3 (by omega) HB.out (fun i hi => HNO.out i (by omega))]; rfl, (hB.alloc hs _).trans (hB1.mono (by simp; omega))⟩
    | 4, _ =>
      have hix : ∀ W, (Instr.index 204 (.agg #[.func (.func 149) #[.agg #[.int .u16 c, .int .u8 t, .int .u8 f, .int .u32 k, .int .i64 K, .bool X, .int .i64 r]] #[], .int .i64 5, .func (.func 150) #[.agg #[.int .u16 c, .int .u8 t, .int .u8 f, .int .u32 k, .int .i64 K, .bool X, .int .i64 r]] #[], .int .i64 6, .func (.func 151) #[.agg #[.int .u16 c, .int .u8 t, .int .u8 f, .int .u32 k, .int .i64 K, .bool X, .int .i64 r]] #[], .int .i64 7, .func (.func 152) #[.agg #[.int .u16 c, .int .u8 t, .int .u8 f, .int .u32 k, .int .i64 K, .bool X, .int .i64 r]] #[], .int .i64 8, .func (.func 153) #[.agg #[.int .u16 c, .int .u8 t, .int .u8 f, .int .u32 k, .int .i64 K, .bool X, .int .i64 r]] #[], .int .i64 9, .func (.func 154) #[.agg #[.int .u16 c, .int .u8 t, .int .u8 f, .int .u32 k, .int .i64 K, .bool X, .int .i64 r]] #[], .int .i64 10]) (.int .i64 4)).run Try.prog W = .ok (.agg #[.func (.func 153) #[.agg #[.int .u16 c, .int .u8 t, .int .u8 f, .int .u32 k, .int .i64 K, .bool X, .int .i64 r]] #[], .int .i64 9]) W := fun W => (ix6 _ 4 (by omega) W).trans rfl
      obtain ⟨b, hb⟩ := TH.out 4
      cases b
      · have HB := Lib.hid hb
        clear hb
        go_wp2_with (go_at_call 153; refine (q4_any _ _ _ _ _ _ _ _ ht hf hk hr).mono ?_; rw [HB.out]; rintro e w1 ⟨rfl, hB1⟩; have q1 := (hB1.cell (p := ⟨wr.heap.size, 1, none⟩) (by simp)).trans (HQ.out _ _ _ _))
        exact ⟨⟨4 + 1, by omega, by go_num, (hB.alloc hs _).trans (hB1.mono (by simp; omega)), fun i hi => by
          by_cases h : i = 4
          · subst h; exact HB.out
          · exact HNO.out i (by omega)⟩, by simp [intOf]⟩
      · have HB := Lib.hid hb
        clear hb
        go_wp2_with (go_at_call 153; refine (q4_any _ _ _ _ _ _ _ _ ht hf hk hr).mono ?_; rw [HB.out]; rintro e w1 ⟨rfl, hB1⟩; have q1 := (hB1.cell (p := ⟨wr.heap.size, 1, none⟩) (by simp)).trans (HQ.out _ _ _ _))
        go_ret
        exact ⟨by rw [faultK_at _ 4 (by omega) HB.out (fun i hi => HNO.out i (by omega))]; rfl, (hB.alloc hs _).trans (hB1.mono (by simp; omega))⟩
    | 5, _ =>
      have hix : ∀ W, (Instr.index 204 (.agg #[.func (.func 149) #[.agg #[.int .u16 c, .int .u8 t, .int .u8 f, .int .u32 k, .int .i64 K, .bool X, .int .i64 r]] #[], .int .i64 5, .func (.func 150) #[.agg #[.int .u16 c, .int .u8 t, .int .u8 f, .int .u32 k, .int .i64 K, .bool X, .int .i64 r]] #[], .int .i64 6, .func (.func 151) #[.agg #[.int .u16 c, .int .u8 t, .int .u8 f, .int .u32 k, .int .i64 K, .bool X, .int .i64 r]] #[], .int .i64 7, .func (.func 152) #[.agg #[.int .u16 c, .int .u8 t, .int .u8 f, .int .u32 k, .int .i64 K, .bool X, .int .i64 r]] #[], .int .i64 8, .func (.func 153) #[.agg #[.int .u16 c, .int .u8 t, .int .u8 f, .int .u32 k, .int .i64 K, .bool X, .int .i64 r]] #[], .int .i64 9, .func (.func 154) #[.agg #[.int .u16 c, .int .u8 t, .int .u8 f, .int .u32 k, .int .i64 K, .bool X, .int .i64 r]] #[], .int .i64 10]) (.int .i64 5)).run Try.prog W = .ok (.agg #[.func (.func 154) #[.agg #[.int .u16 c, .int .u8 t, .int .u8 f, .int .u32 k, .int .i64 K, .bool X, .int .i64 r]] #[], .int .i64 10]) W := fun W => (ix6 _ 5 (by omega) W).trans rfl
      obtain ⟨b, hb⟩ := TH.out 5
      cases b
      · have HB := Lib.hid hb
        clear hb
        go_wp2_with (go_at_call 154; refine (q5_any _ _ _ _ _ _ _ _ ht hf hk hr).mono ?_; rw [HB.out]; rintro e w1 ⟨rfl, hB1⟩; have q1 := (hB1.cell (p := ⟨wr.heap.size, 1, none⟩) (by simp)).trans (HQ.out _ _ _ _))
        exact ⟨⟨5 + 1, by omega, by go_num, (hB.alloc hs _).trans (hB1.mono (by simp; omega)), fun i hi => by
          by_cases h : i = 5
          · subst h; exact HB.out
          · exact HNO.out i (by omega)⟩, by simp [intOf]⟩
      · have HB := Lib.hid hb
        clear hb
        go_wp2_with (go_at_call 154; refine (q5_any _ _ _ _ _ _ _ _ ht hf hk hr).mono ?_; rw [HB.out]; rintro e w1 ⟨rfl, hB1⟩; have q1 := (hB1.cell (p := ⟨wr.heap.size, 1, none⟩) (by simp)).trans (HQ.out _ _ _ _))
        go_ret
        exact ⟨by rw [faultK_at _ 5 (by omega) HB.out (fun i hi => HNO.out i (by omega))]; rfl, (hB.alloc hs _).trans (hB1.mono (by simp; omega))⟩
    | 6, _ =>
      go_wp2
      go_ret
      exact ⟨by rw [faultK_no _ (fun i hi => HNO.out i (by omega))]; rfl, hB⟩
    | j + 7, hj' => omega
end Go.Proofs.Ytmndolojfdekdaa
