/-
  Layer 27: a place of a program: its kind, where it leads.
-/
import Derived.Test.YtmndolojfdekdaaFa
namespace Go.Proofs.Ytmndolojfdekdaa
open Go.RowKit
set_option linter.unusedVariables false

def brK (K : Int) : Bool := K == 25 || K == 26 || K == 27 || K == 28
def mayS (K : Int) : Bool := K == 1 || K == 21 || K == 13 || K == 14 || brK K
theorem brK_cases (K : Int) : (brK K = false ∧ (K == 25) = false ∧ (K == 26) = false ∧ (K == 27) = false ∧ (K == 28) = false) ∨ (brK K = true ∧ ((K == 25) = true ∨ (K == 25) = false ∧ (K == 26) = true ∨ (K == 25) = false ∧ (K == 26) = false ∧ (K == 27) = true ∨ (K == 25) = false ∧ (K == 26) = false ∧ (K == 27) = false ∧ (K == 28) = true)) := by
  unfold brK
  cases (K == 25) <;> cases (K == 26) <;> cases (K == 27) <;> cases (K == 28) <;> simp
theorem isBranch_any (K : Int) (w : World) : Calls Try.prog 72 #[.int .i64 K] w fun e w' => e = .returned (.bool (brK K)) ∧ w = w' := by
  rcases brK_cases K with ⟨hb, h25, h26, h27, h28⟩ | ⟨hb, h25 | ⟨h25, h26⟩ | ⟨h25, h26, h27⟩ | ⟨h25, h26, h27, h28⟩⟩
  all_goals
    rw [hb]
    clear hb
    go_enter Try.func72, Try.ntmps72
    go_wp2
    go_ret
    exact ⟨rfl, rfl⟩
theorem mayStand_any (K : Int) (w : World) : Calls Try.prog 66 #[.int .i64 K] w fun e w' => e = .returned (.bool (mayS K)) ∧ w = w' := by
  have HI := Lib.hid (isBranch_any K w)
  unfold mayS
  generalize brK K = q at *
  cases h1 : (K == 1)
  · cases h21 : (K == 21)
    · cases h13 : (K == 13)
      · cases h14 : (K == 14)
        · go_enter Try.func66, Try.ntmps66
          go_wp2_with (go_at_call 72; refine HI.out.mono ?_; rintro e w1 ⟨rfl, rfl⟩)
          go_ret
          exact ⟨by simp, rfl⟩
        · go_enter Try.func66, Try.ntmps66
          go_wp2
          go_ret
          exact ⟨by simp, rfl⟩
      · go_enter Try.func66, Try.ntmps66
        go_wp2
        go_ret
        exact ⟨by simp, rfl⟩
    · go_enter Try.func66, Try.ntmps66
      go_wp2
      go_ret
      exact ⟨by simp, rfl⟩
  · go_enter Try.func66, Try.ntmps66
    go_wp2
    go_ret
    exact ⟨by simp, rfl⟩
set_option maxRecDepth 100000 in
theorem pbehind_any (c t f k K : Int) (i far : Nat) (w : World) (hi : i ≤ 1000000) (hf : far < 4294967296) : Calls Try.prog 95 #[.agg #[.int .u16 c, .int .u8 t, .int .u8 f, .int .u32 k, .int .i64 K, .int .i64 i], .int .u32 far] w fun e w' => e = .returned (.int .i64 ((i + 1 + far : Nat) : Int)) ∧ Below w.heap.size w w' := by
  have e1 : IntKind.i64.wrap ((i : Int) + 1) = (i : Int) + 1 := IntWalk.i64_in _ (by omega)
  have e2 : IntKind.i64.wrap (far : Int) = (far : Int) := IntWalk.i64_in _ (by omega)
  have e3 : IntKind.i64.wrap ((i : Int) + 1 + far) = (i : Int) + 1 + far := IntWalk.i64_in _ (by omega)
  go_enter Try.func95, Try.ntmps95
  go_wp2
  go_ret
  exact ⟨by go_num, (Below.refl _ _).alloc (Nat.le_refl _) _⟩

set_option maxRecDepth 100000 in
set_option maxHeartbeats 8000000 in
theorem pleadsK_any (c : Int) (t f k : Nat) (K : Int) (ht : t < 256) (hf : f < 256) (hk : k < 4294967296) (h15 : (K == 15) = false) (i : Nat) (w : World) (hi : i ≤ 1000000) :
    Calls Try.prog 69 #[.agg #[.int .u16 c, .int .u8 t, .int .u8 f, .int .u32 k, .int .i64 K, .int .i64 i]] w fun e w' => ∃ A m, e = .returned (.slice A m m) ∧ I64s w' w.heap.size A m (nextsK K t f k i) ∧ Below w.heap.size w w' := by
  have hbx := Fx6.new w c t f k K i 133
  have hB0 : Below w.heap.size w (w.alloc (.cells #[.int .u16 c, .int .u8 t, .int .u8 f, .int .u32 k, .int .i64 K, .int .i64 i] 133)) := (Below.refl _ _).alloc (Nat.le_refl _) _
  have HX := Lib.hid hbx
  have HB0 := Lib.hid hB0
  have hs0 : w.heap.size + 1 ≤ (w.alloc (.cells #[.int .u16 c, .int .u8 t, .int .u8 f, .int .u32 k, .int .i64 K, .int .i64 i] 133)).heap.size := by simp
  have HS0 := Lib.hid hs0
  clear hbx hB0 hs0
  cases h14 : (K == 14)
  · cases h13 : (K == 13)
    · cases hbr : (K == 25 || K == 26 || K == 27 || K == 28)
      · have HN2 : Hid (nextsK K t f k i = [i + 1]) := Lib.hid (by unfold nextsK; rw [h14, h15, h13, hbr]; rfl)
        have hcs : (K == 25) = false ∧ (K == 26) = false ∧ (K == 27) = false ∧ (K == 28) = false := by
          revert hbr
          cases (K == 25) <;> cases (K == 26) <;> cases (K == 27) <;> cases (K == 28) <;> simp
        clear hcs
        have HBR : Hid (brK K = false) := Lib.hid hbr
        clear hbr
        go_enter Try.func69, Try.ntmps69
        go_wp2_with fail
        refine (isBranch_any K _).mono ?_
        rintro e w9 ⟨rfl, rfl⟩
        rw [HBR.out]
        go_wp2_with fail
        refine (pbehind_any c t f k K i 0 _ hi (by decide)).mono ?_
        rintro e w1 ⟨rfl, hB1⟩
        have hb1 := HB0.out.trans (hB1.mono HB0.out.size)
        clear hB1
        go_wp2
        go_ret
        rw [HN2.out]
        exact ⟨_, _, rfl, i64s_one w1 _ (i + 1) 3 hb1.size _ rfl, hb1.alloc hb1.size _⟩
      · have HN2 : Hid (nextsK K t f k i = [i + 1 + t, i + 1 + f]) := Lib.hid (by unfold nextsK; rw [h14, h15, h13, hbr]; rfl)
        have HBR : Hid (brK K = true) := Lib.hid hbr
        clear hbr
        go_enter Try.func69, Try.ntmps69
        go_wp2_with (go_at_call 72; refine (isBranch_any K _).mono ?_; rintro e w9 ⟨rfl, rfl⟩; rw [HBR.out])
        have et : IntKind.u32.wrap (t : Int) = (t : Int) := by rw [IntKind.wrap_u32]; omega
        have ef : IntKind.u32.wrap (f : Int) = (f : Int) := by rw [IntKind.wrap_u32]; omega
        obtain ⟨a0, a1, a2, a3, a4, a5⟩ := HX.out
        generalize (w.alloc (.cells #[.int .u16 c, .int .u8 t, .int .u8 f, .int .u32 k, .int .i64 K, .int .i64 i] 133)) = W0 at *
        go_region_held3 (fun w' => w'.cell? ⟨w.heap.size, 0, none⟩ = some (.int .u16 c) ∧ w'.cell? ⟨w.heap.size, 1, none⟩ = some (.int .u8 t) ∧ w'.cell? ⟨w.heap.size, 2, none⟩ = some (.int .u8 f) ∧ w'.cell? ⟨w.heap.size, 3, none⟩ = some (.int .u32 k) ∧ w'.cell? ⟨w.heap.size, 4, none⟩ = some (.int .i64 K) ∧ w'.cell? ⟨w.heap.size, 5, none⟩ = some (.int .i64 i))
          (first
            | go_keep
            | exact HX.out.below hK (Nat.lt_succ_self _))
          (first
            | (go_at_call_of 95 (Value.int .u32 ((t : Nat) : Int))
               refine (pbehind_any c t f k K i t _ hi (by omega)).mono ?_
               rintro e wa ⟨rfl, hBa⟩
               have hK : Below (w.heap.size + 1) W0 wa := by
                 first
                   | exact hK.trans (hBa.mono (Nat.le_trans HS0.out hK.size))
                   | exact (Below.refl (w.heap.size + 1) W0).drew.trans (hBa.mono HS0.out)
               clear hBa)
            | (go_at_call_of 95 (Value.int .u32 ((f : Nat) : Int))
               refine (pbehind_any c t f k K i f _ hi (by omega)).mono ?_
               rintro e wb ⟨rfl, hBb⟩
               have hK : Below (w.heap.size + 1) W0 wb := by
                 first
                   | exact hK.trans (hBb.mono (Nat.le_trans HS0.out hK.size))
                   | exact (Below.refl (w.heap.size + 1) W0).drew.trans (hBb.mono HS0.out)
               clear hBb))
        all_goals
          go_wp2
          go_ret
          rw [HN2.out]
          have hb1 := HB0.out.trans (hK.mono (Nat.le_succ _))
          exact ⟨_, _, rfl, i64s_two _ _ (i + 1 + t) (i + 1 + f) 3 hb1.size _ rfl, hb1.alloc hb1.size _⟩
    · have HN2 : Hid (nextsK K t f k i = [i + 1 + k]) := Lib.hid (by unfold nextsK; rw [h14, h15, h13]; rfl)
      go_enter Try.func69, Try.ntmps69
      go_wp2_with (go_at_call 95
                   refine (pbehind_any c t f k K i k _ hi hk).mono ?_
                   rintro e w1 ⟨rfl, hB1⟩
                   have hb1 := HB0.out.trans (hB1.mono HB0.out.size)
                   clear hB1)
      go_ret
      rw [HN2.out]
      exact ⟨_, _, rfl, i64s_one w1 _ (i + 1 + k) 3 hb1.size _ rfl, hb1.alloc hb1.size _⟩
  · have HN2 : Hid (nextsK K t f k i = []) := Lib.hid (by unfold nextsK; rw [h14]; rfl)
    go_enter Try.func69, Try.ntmps69
    go_wp2
    go_ret
    rw [HN2.out]
    exact ⟨_, _, rfl, i64s_nil _ _, HB0.out⟩
theorem pleads_any (v : IV) (hv : v.ok) (h15 : kd v ≠ 15) (i : Nat) (w : World) (hi : i ≤ 1000000) :
    Calls Try.prog 69 #[flV v i] w fun e w' => ∃ A m, e = .returned (.slice A m m) ∧ I64s w' w.heap.size A m (nexts v i) ∧ Below w.heap.size w w' := by
  have h := pleadsK_any v.c v.t v.f v.k (kd v) hv.2.1 hv.2.2.1 hv.2.2.2 (by simpa using h15) i w hi
  rw [nexts_if] at h
  exact h
end Go.Proofs.Ytmndolojfdekdaa
