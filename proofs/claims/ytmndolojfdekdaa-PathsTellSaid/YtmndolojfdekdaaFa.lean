/-
  Words and contracts for layer 7: a place, where it leads, the places of a program that may run.
-/
import Derived.Test.YtmndolojfdekdaaKp
import Derived.Deep.RegionWith
import Derived.Deep.RegionHeld3
namespace Go.Proofs.Ytmndolojfdekdaa
open Go.RowKit

/-- A place as a value: an instruction's numbers, its kind, where it stands. -/
def flA (v : IV) (i : Nat) : Array Value := #[.int .u16 v.c, .int .u8 v.t, .int .u8 v.f, .int .u32 v.k, .int .i64 (kd v), .int .i64 i]
abbrev flV (v : IV) (i : Nat) : Value := .agg #[.int .u16 v.c, .int .u8 v.t, .int .u8 v.f, .int .u32 v.k, .int .i64 (kd v), .int .i64 i]
def fcell (g : Nat → IV) (i : Nat) : Value := (flA (g (i / 6)) (i / 6)).getD (i % 6) undef
theorem fcell_at (g : Nat → IV) (k j : Nat) (hj : j < 6) : fcell g (k * 6 + j) = (flA (g k) k).getD j undef := by
  unfold fcell
  rw [show (k * 6 + j) / 6 = k from by omega, show (k * 6 + j) % 6 = j from by omega]

set_option maxRecDepth 100000 in
theorem behind_any (c t f k K : Int) (i far : Nat) (w : World) (hi : i ≤ 1000000) (hf : far < 4294967296) : Calls Try.prog 58 #[.agg #[.int .u16 c, .int .u8 t, .int .u8 f, .int .u32 k, .int .i64 K, .int .i64 i], .int .u32 far] w fun e w' => e = .returned (.int .i64 ((i + 1 + far : Nat) : Int)) ∧ Below w.heap.size w w' := by
  have e1 : IntKind.i64.wrap ((i : Int) + 1) = (i : Int) + 1 := IntWalk.i64_in _ (by omega)
  have e2 : IntKind.i64.wrap (far : Int) = (far : Int) := IntWalk.i64_in _ (by omega)
  have e3 : IntKind.i64.wrap ((i : Int) + 1 + far) = (i : Int) + 1 + far := IntWalk.i64_in _ (by omega)
  go_enter Try.func58, Try.ntmps58
  go_wp2
  go_ret
  exact ⟨by go_num, (Below.refl _ _).alloc (Nat.le_refl _) _⟩

/-- Where an instruction may go on, by its kind. -/
def nextsK (K : Int) (t f k i : Nat) : List Nat := if (K == 14 || K == 15) = true then [] else if (K == 13) = true then [i + 1 + k] else if (K == 25 || K == 26 || K == 27 || K == 28) = true then [i + 1 + t, i + 1 + f] else [i + 1]
theorem nexts_if (v : IV) (i : Nat) : nextsK (kd v) v.t v.f v.k i = nexts v i := by
  unfold nexts
  rw [← fars_eq]
  unfold farsK nextsK
  repeat' split
  all_goals rfl
/-- A place in a block of its own, in numbers. -/
def Fx6 (w : World) (B : Nat) (c t f k K i : Int) : Prop :=
  w.cell? ⟨B, 0, none⟩ = some (.int .u16 c) ∧ w.cell? ⟨B, 1, none⟩ = some (.int .u8 t) ∧ w.cell? ⟨B, 2, none⟩ = some (.int .u8 f) ∧ w.cell? ⟨B, 3, none⟩ = some (.int .u32 k) ∧ w.cell? ⟨B, 4, none⟩ = some (.int .i64 K) ∧ w.cell? ⟨B, 5, none⟩ = some (.int .i64 i)
theorem Fx6.new (w : World) (c t f k K i : Int) (E : TypeId) : Fx6 (w.alloc (.cells #[.int .u16 c, .int .u8 t, .int .u8 f, .int .u32 k, .int .i64 K, .int .i64 i] E)) w.heap.size c t f k K i := by
  refine ⟨?_, ?_, ?_, ?_, ?_, ?_⟩ <;> simp
theorem Fx6.below {w w' : World} {B N : Nat} {c t f k K i : Int} (h : Fx6 w B c t f k K i) (hb : Below N w w') (hB : B < N) : Fx6 w' B c t f k K i := by
  obtain ⟨h0, h1, h2, h3, h4, h5⟩ := h
  exact ⟨(hb.cell (p := ⟨B, 0, none⟩) hB).trans h0, (hb.cell (p := ⟨B, 1, none⟩) hB).trans h1, (hb.cell (p := ⟨B, 2, none⟩) hB).trans h2, (hb.cell (p := ⟨B, 3, none⟩) hB).trans h3, (hb.cell (p := ⟨B, 4, none⟩) hB).trans h4, (hb.cell (p := ⟨B, 5, none⟩) hB).trans h5⟩
theorem i64s_two (w : World) (base x y : Nat) (E : TypeId) (hb : base ≤ w.heap.size) (w' : World) (hw : w' = w.alloc (.cells #[.int .i64 x, .int .i64 y] E)) : I64s w' base (some ⟨w.heap.size, 0, none⟩) 2 [x, y] := by
  subst hw
  refine ⟨rfl, Cel.mk_ (by simp) (Nat.le_refl _) (by decide) (fun i hi => ?_), fun ad h => by injection h with h; rw [← h]; exact hb⟩
  match i, hi with
  | 0, _ => simp
  | 1, _ => simp
theorem i64s_one (w : World) (base x : Nat) (E : TypeId) (hb : base ≤ w.heap.size) (w' : World) (hw : w' = w.alloc (.cells #[.int .i64 x] E)) : I64s w' base (some ⟨w.heap.size, 0, none⟩) 1 [x] := by
  subst hw
  refine ⟨rfl, Cel.mk_ (by simp) (Nat.le_refl _) (by decide) (fun i hi => ?_), fun ad h => by injection h with h; rw [← h]; exact hb⟩
  match i, hi with
  | 0, _ => simp
theorem i64s_nil (w : World) (base : Nat) : I64s w base none 0 [] := ⟨rfl, Cel.nil_, fun _ h => by cases h⟩

set_option maxRecDepth 100000 in
set_option maxHeartbeats 8000000 in
theorem leadsK_any (c : Int) (t f k : Nat) (K : Int) (ht : t < 256) (hf : f < 256) (hk : k < 4294967296) (i : Nat) (w : World) (hi : i ≤ 1000000) :
    Calls Try.prog 34 #[.agg #[.int .u16 c, .int .u8 t, .int .u8 f, .int .u32 k, .int .i64 K, .int .i64 i]] w fun e w' => ∃ A m, e = .returned (.slice A m m) ∧ I64s w' w.heap.size A m (nextsK K t f k i) ∧ Below w.heap.size w w' := by
  have hbx := Fx6.new w c t f k K i 80
  have hB0 : Below w.heap.size w (w.alloc (.cells #[.int .u16 c, .int .u8 t, .int .u8 f, .int .u32 k, .int .i64 K, .int .i64 i] 80)) := (Below.refl _ _).alloc (Nat.le_refl _) _
  have HX := Lib.hid hbx
  have HB0 := Lib.hid hB0
  have hs0 : w.heap.size + 1 ≤ (w.alloc (.cells #[.int .u16 c, .int .u8 t, .int .u8 f, .int .u32 k, .int .i64 K, .int .i64 i] 80)).heap.size := by simp
  have HS0 := Lib.hid hs0
  clear hbx hB0 hs0
  cases h14 : (K == 14)
  · cases h15 : (K == 15)
    · cases h13 : (K == 13)
      · cases hbr : (K == 25 || K == 26 || K == 27 || K == 28)
        · have HN2 : Hid (nextsK K t f k i = [i + 1]) := Lib.hid (by unfold nextsK; rw [h14, h15, h13, hbr]; rfl)
          have hcs : (K == 25) = false ∧ (K == 26) = false ∧ (K == 27) = false ∧ (K == 28) = false := by
            revert hbr
            cases (K == 25) <;> cases (K == 26) <;> cases (K == 27) <;> cases (K == 28) <;> simp
          obtain ⟨h25, h26, h27, h28⟩ := hcs
          clear hbr
          go_enter Try.func34, Try.ntmps34
          go_wp2_with (go_at_call 58
                       refine (behind_any c t f k K i 0 _ hi (by decide)).mono ?_
                       rintro e w1 ⟨rfl, hB1⟩
                       have hb1 := HB0.out.trans (hB1.mono HB0.out.size)
                       clear hB1)
          go_ret
          rw [HN2.out]
          exact ⟨_, _, rfl, i64s_one w1 _ (i + 1) 3 hb1.size _ rfl, hb1.alloc hb1.size _⟩
        · have HN2 : Hid (nextsK K t f k i = [i + 1 + t, i + 1 + f]) := Lib.hid (by unfold nextsK; rw [h14, h15, h13, hbr]; rfl)
          have hcs : (K == 25) = true ∨ (K == 25) = false ∧ (K == 26) = true ∨ (K == 25) = false ∧ (K == 26) = false ∧ (K == 27) = true ∨ (K == 25) = false ∧ (K == 26) = false ∧ (K == 27) = false ∧ (K == 28) = true := by
            revert hbr
            cases (K == 25) <;> cases (K == 26) <;> cases (K == 27) <;> cases (K == 28) <;> simp
          clear hbr
          rcases hcs with h25 | ⟨h25, h26⟩ | ⟨h25, h26, h27⟩ | ⟨h25, h26, h27, h28⟩
          all_goals
            go_enter Try.func34, Try.ntmps34
            go_wp2
            have et : IntKind.u32.wrap (t : Int) = (t : Int) := by rw [IntKind.wrap_u32]; omega
            have ef : IntKind.u32.wrap (f : Int) = (f : Int) := by rw [IntKind.wrap_u32]; omega
            obtain ⟨a0, a1, a2, a3, a4, a5⟩ := HX.out
            generalize (w.alloc (.cells #[.int .u16 c, .int .u8 t, .int .u8 f, .int .u32 k, .int .i64 K, .int .i64 i] 80)) = W0 at *
            go_region_held3 (fun w' => w'.cell? ⟨w.heap.size, 0, none⟩ = some (.int .u16 c) ∧ w'.cell? ⟨w.heap.size, 1, none⟩ = some (.int .u8 t) ∧ w'.cell? ⟨w.heap.size, 2, none⟩ = some (.int .u8 f) ∧ w'.cell? ⟨w.heap.size, 3, none⟩ = some (.int .u32 k) ∧ w'.cell? ⟨w.heap.size, 4, none⟩ = some (.int .i64 K) ∧ w'.cell? ⟨w.heap.size, 5, none⟩ = some (.int .i64 i))
              (first
                | go_keep
                | exact HX.out.below hK (Nat.lt_succ_self _))
              (first
                | (go_at_call_of 58 (Value.int .u32 ((t : Nat) : Int))
                   refine (behind_any c t f k K i t _ hi (by omega)).mono ?_
                   rintro e wa ⟨rfl, hBa⟩
                   have hK : Below (w.heap.size + 1) W0 wa := by
                     first
                       | exact hK.trans (hBa.mono (Nat.le_trans HS0.out hK.size))
                       | exact (Below.refl (w.heap.size + 1) W0).drew.trans (hBa.mono HS0.out)
                   clear hBa)
                | (go_at_call_of 58 (Value.int .u32 ((f : Nat) : Int))
                   refine (behind_any c t f k K i f _ hi (by omega)).mono ?_
                   rintro e wb ⟨rfl, hBb⟩
                   have hK : Below (w.heap.size + 1) W0 wb := by
                     first
                       | exact hK.trans (hBb.mono (Nat.le_trans HS0.out hK.size))
                       | exact (Below.refl (w.heap.size + 1) W0).drew.trans (hBb.mono HS0.out)
                   clear hBb))
            all_goals
              go_wp2
              go_ret
              rw [HN2.out]
              have hb1 := HB0.out.trans (hK.mono (Nat.le_succ _))
              exact ⟨_, _, rfl, i64s_two _ _ (i + 1 + t) (i + 1 + f) 3 hb1.size _ rfl, hb1.alloc hb1.size _⟩
      · have HN2 : Hid (nextsK K t f k i = [i + 1 + k]) := Lib.hid (by unfold nextsK; rw [h14, h15, h13]; rfl)
        go_enter Try.func34, Try.ntmps34
        go_wp2_with (go_at_call 58
                     refine (behind_any c t f k K i k _ hi hk).mono ?_
                     rintro e w1 ⟨rfl, hB1⟩
                     have hb1 := HB0.out.trans (hB1.mono HB0.out.size)
                     clear hB1)
        go_ret
        rw [HN2.out]
        exact ⟨_, _, rfl, i64s_one w1 _ (i + 1 + k) 3 hb1.size _ rfl, hb1.alloc hb1.size _⟩
    · have HN2 : Hid (nextsK K t f k i = []) := Lib.hid (by unfold nextsK; rw [h14, h15]; rfl)
      go_enter Try.func34, Try.ntmps34
      go_wp2
      go_ret
      rw [HN2.out]
      exact ⟨_, _, rfl, i64s_nil _ _, HB0.out⟩
  · have HN2 : Hid (nextsK K t f k i = []) := Lib.hid (by unfold nextsK; rw [h14]; rfl)
    go_enter Try.func34, Try.ntmps34
    go_wp2
    go_ret
    rw [HN2.out]
    exact ⟨_, _, rfl, i64s_nil _ _, HB0.out⟩
theorem leadsF_any (v : IV) (hv : v.ok) (i : Nat) (w : World) (hi : i ≤ 1000000) :
    Calls Try.prog 34 #[flV v i] w fun e w' => ∃ A m, e = .returned (.slice A m m) ∧ I64s w' w.heap.size A m (nexts v i) ∧ Below w.heap.size w w' := by
  have h := leadsK_any v.c v.t v.f v.k (kd v) hv.2.1 hv.2.2.1 hv.2.2.2 i w hi
  rw [nexts_if] at h
  exact h
end Go.Proofs.Ytmndolojfdekdaa
