/-
  Records as numbers; the contracts of the document's own word and Write of layer 5, and of the law's own of.
-/
import Derived.Test.YtpjhcaabjgbkjaaWc
import Derived.Test.YtpjhcaabjgbkjaaWe
import Derived.Deep.RegionWith
import Derived.Deep.RegionHeld3
import Derived.Test.YtpjhcaabjgbkjaaIe
import Derived.Deep.WholeRow
namespace Go.Proofs.Ytpjhcaabjgbkjaa
open Go.RowKit

/-- A record as numbers. -/
structure RV where
  n : Nat
  a : Nat
  p : Nat
  q : Nat → Nat
def RV.ok (r : RV) : Prop := r.n < 4294967296 ∧ r.a < 4294967296 ∧ r.p < 18446744073709551616 ∧ ∀ i, r.q i < 18446744073709551616
/-- Its cells. -/
def rcells (r : RV) : Array Value := #[.int .u32 r.n, .int .u32 r.a, .int .u64 r.p, .int .u64 (r.q 0), .int .u64 (r.q 1), .int .u64 (r.q 2), .int .u64 (r.q 3), .int .u64 (r.q 4), .int .u64 (r.q 5)]
/-- A number's byte at a place of a word of some width. -/
def wb (big : Bool) (wd x i : Nat) : Nat := if i < wd then x / 2 ^ (8 * idx big 0 wd i) % 256 else 0
theorem wb_lt (big : Bool) (wd x i : Nat) : wb big wd x i < 256 := by unfold wb; split; exact Nat.mod_lt _ (by decide); decide
theorem wb_putF (big : Bool) (wd x i : Nat) : putF big 0 wd x (fun _ => 0) i = wb big wd x i := by
  unfold putF wb
  by_cases h : i < wd
  · rw [if_pos ⟨Nat.zero_le _, by omega⟩, if_pos h]
  · rw [if_neg (by omega), if_neg h]
/-- The bytes of a record. -/
def recB (r : RV) (big : Bool) (i : Nat) : Nat :=
  if i < 4 then wb big 4 r.n i else if i < 8 then wb big 4 r.a (i - 4) else if i < 16 then wb big 8 r.p (i - 8) else wb big 8 (r.q ((i - 16) / 8)) ((i - 16) % 8)
theorem recB_lt (r : RV) (big : Bool) (i : Nat) : recB r big i < 256 := by
  unfold recB; split; exact wb_lt ..; split; exact wb_lt ..; split; exact wb_lt ..; exact wb_lt ..
theorem recB_arg (r : RV) (big : Bool) (k i : Nat) (h1 : 16 + 8 * k ≤ i) (h2 : i < 16 + 8 * k + 8) : recB r big i = wb big 8 (r.q k) (i - (16 + 8 * k)) := by
  unfold recB
  rw [if_neg (by omega), if_neg (by omega), if_neg (by omega), show (i - 16) / 8 = k from by omega, show (i - 16) % 8 = i - (16 + 8 * k) from by omega]

set_option maxRecDepth 100000 in
set_option maxHeartbeats 1000000 in
theorem word5_any (x wd : Nat) (big : Bool) (w : World) (hx : x < 18446744073709551616) (hw : wd = 4 ∨ wd = 8) (x' wd' : Int) (ex : x' = x) (ew : wd' = wd) :
    Calls Try.prog 38 #[.int .u64 x', .int .i64 wd', .bool big] w fun e w' => ∃ A' c', e = .returned (.slice A' wd c') ∧ Own_ w' w.heap.size 5 A' wd c' (wb big wd x) ∧ Below w.heap.size w w' := by
  subst ex ew
  have HW := Lib.hid hw
  clear hw
  cases big
  · go_enter Try.func38, Try.ntmps38
    go_wp2_with fail
    refine (bytes_any x wd _ hx (by have := HW.out; omega)).mono ?_
    rintro e w1 ⟨A1, c1, rfl, hown1, hB1⟩
    go_wp2
    go_ret
    refine ⟨_, _, rfl, hown1.congr fun i hi => ?_, hB1⟩
    unfold wb idx
    rw [if_pos hi, if_neg (by decide), Nat.sub_zero, Nat.pow_mul]
  · go_enter Try.func38, Try.ntmps38
    go_wp2_with fail
    refine (bytes_any x wd _ hx (by have := HW.out; omega)).mono ?_
    rintro e w1 ⟨A1, c1, rfl, hown1, hB1⟩
    have hby := hown1.byt
    clear hown1
    go_wp2_with fail
    refine (turn_any _ _ _ _ _ (by have := HW.out; omega) hby).mono ?_
    rintro e w2 ⟨A2, c2, rfl, hown2, hB2⟩
    go_wp2
    go_ret
    refine ⟨_, _, rfl, (hown2.lower hB1.size).congr fun i hi => ?_, hB1.trans (hB2.mono hB1.size)⟩
    unfold wb idx
    rw [if_pos hi, if_pos rfl, Nat.zero_add, Nat.pow_mul]

theorem rc_cell (w : World) (r : RV) (T : TypeId) : ∀ j v, (rcells r)[j]? = some v → (w.alloc (.cells (rcells r) T)).cell? ⟨w.heap.size, j, none⟩ = some v := fun j v h => by
  rw [cell_of_row _ _ j _ _ (0, 0) (heap_alloc_last w _), h]

set_option maxRecDepth 100000 in
set_option maxHeartbeats 4000000 in
theorem of5_any (r : RV) (w : World) :
    Calls Try.prog 17 #[.agg (rcells r)] w fun e w' => e = .returned (.agg (rcells r)) ∧ Below w.heap.size w w' := by
  unfold rcells
  go_enter Try.func17, Try.ntmps17
  go_wp2
  refine bodyPost_ret (v := .agg (rcells r)) (by simp [results, Try.results17, go_sem, rcells]) rfl ⟨rfl, ?_⟩
  exact ((Below.refl _ _).alloc (Nat.le_refl _) _).alloc (by simp) _
/-- The document's bytes of a record. -/
theorem cat_rec0 (r : RV) (big : Bool) : ∀ i, i < 8 → cat 4 (wb big 4 r.n) (wb big 4 r.a) i = recB r big i := fun i hi => by
  unfold cat recB
  by_cases h : i < 4
  · rw [if_pos h, if_pos h]
  · rw [if_neg h, if_neg h, if_pos hi]
theorem cat_rec1 (r : RV) (big : Bool) : ∀ i, i < 16 → cat 8 (recB r big) (wb big 8 r.p) i = recB r big i := fun i hi => by
  unfold cat
  by_cases h : i < 8
  · rw [if_pos h]
  · rw [if_neg h]; unfold recB; rw [if_neg (by omega), if_neg h, if_pos hi]
theorem cat_rec2 (r : RV) (big : Bool) (k : Nat) : ∀ i, i < 16 + 8 * k + 8 → cat (16 + 8 * k) (recB r big) (wb big 8 (r.q k)) i = recB r big i := fun i hi => by
  unfold cat
  by_cases h : i < 16 + 8 * k
  · rw [if_pos h]
  · rw [if_neg h, recB_arg r big k i (by omega) hi]

set_option maxRecDepth 100000 in
set_option maxHeartbeats 4000000 in
theorem refWrite5_any (r : RV) (hr : r.ok) (big : Bool) (w : World) :
    Calls Try.prog 18 #[.agg (rcells r), .bool big] w fun e w' => ∃ A' c', e = .returned (.slice A' 64 c') ∧ Own_ w' w.heap.size 5 A' 64 c' (recB r big) ∧ Below w.heap.size w w' := by
  have HC0 := Lib.hid (cat_rec0 r big)
  have HC1 := Lib.hid (cat_rec1 r big)
  have HC2 := Lib.hid (cat_rec2 r big)
  obtain ⟨x0, x1, x2, x3⟩ := hr
  have X3 := Lib.hid x3
  obtain ⟨RB, hRB⟩ : ∃ RB, recB r big = RB := ⟨_, rfl⟩
  rw [hRB] at HC0 HC1 HC2
  rw [hRB]
  clear hRB x3
  have HQ : Hid (∀ k, k < 6 → (w.alloc (.cells (rcells r) 26)).cell? ⟨w.heap.size, 3 + k, none⟩ = some (.int .u64 (r.q k))) := Lib.hid fun k hk => by
    match k, hk with
    | 0, _ => exact rc_cell w r _ 3 _ rfl
    | 1, _ => exact rc_cell w r _ 4 _ rfl
    | 2, _ => exact rc_cell w r _ 5 _ rfl
    | 3, _ => exact rc_cell w r _ 6 _ rfl
    | 4, _ => exact rc_cell w r _ 7 _ rfl
    | 5, _ => exact rc_cell w r _ 8 _ rfl
  have q0 := rc_cell w r 26 0 _ rfl
  have q1 := rc_cell w r 26 1 _ rfl
  have q2 := rc_cell w r 26 2 _ rfl
  simp only [rcells, List.getElem_toArray, List.getElem_cons_zero, List.getElem_cons_succ] at q0 q1 q2
  unfold rcells at HQ ⊢
  have hb0 : Below w.heap.size w (w.alloc (.cells #[.int .u32 r.n, .int .u32 r.a, .int .u64 r.p, .int .u64 (r.q 0), .int .u64 (r.q 1), .int .u64 (r.q 2), .int .u64 (r.q 3), .int .u64 (r.q 4), .int .u64 (r.q 5)] 26)) := (Below.refl _ _).alloc (Nat.le_refl _) _
  go_enter Try.func18, Try.ntmps18
  have hz0 := hb0.size
  rw [World.size_alloc] at hz0
  go_wp2_with fail
  generalize hW1 : w.alloc (.cells #[.int .u32 r.n, .int .u32 r.a, .int .u64 r.p, .int .u64 (r.q 0), .int .u64 (r.q 1), .int .u64 (r.q 2), .int .u64 (r.q 3), .int .u64 (r.q 4), .int .u64 (r.q 5)] 26) = W1 at *
  have hs1 : W1.heap.size = w.heap.size + 1 := by rw [← hW1]; simp
  clear hW1
  have v0 : IntKind.u64.wrap (r.n : Int) = (r.n : Int) := IntWalk.u64_in _ (by omega)
  have v1 : IntKind.u64.wrap (r.a : Int) = (r.a : Int) := IntWalk.u64_in _ (by omega)
  go_region_held3 (fun w' => w'.cell? ⟨w.heap.size, 0, none⟩ = some (.int .u32 r.n) ∧ w'.cell? ⟨w.heap.size, 1, none⟩ = some (.int .u32 r.a))
    (first
      | go_keep
      | exact ⟨(hK3.cell (p := ⟨w.heap.size, 0, none⟩) (by show w.heap.size < _; omega)).trans q0, (hK3.cell (p := ⟨w.heap.size, 1, none⟩) (by show w.heap.size < _; omega)).trans q1⟩
      | exact ⟨(hK2.cell (p := ⟨w.heap.size, 0, none⟩) (by show w.heap.size < _; omega)).trans q0, (hK2.cell (p := ⟨w.heap.size, 1, none⟩) (by show w.heap.size < _; omega)).trans q1⟩
      | exact ⟨(hK1.cell (p := ⟨w.heap.size, 0, none⟩) (by show w.heap.size < _; omega)).trans q0, (hK1.cell (p := ⟨w.heap.size, 1, none⟩) (by show w.heap.size < _; omega)).trans q1⟩
      | exact ⟨q0, q1⟩)
    (first
      | (go_at_call 38
         (with_reducible refine (word5_any r.n 4 big _ (by omega) (.inl rfl) _ _ (by omega) (by omega)).mono ?_)
         rintro e w2 ⟨A2, c2, rfl, hown2, hB2⟩
         have hK1 : Below W1.heap.size W1 w2 := (Below.refl _ W1).drew.trans hB2)
      | (go_at_call 38
         (with_reducible refine (word5_any r.a 4 big _ (by omega) (.inl rfl) _ _ (by omega) (by omega)).mono ?_)
         rintro e w3 ⟨A3, c3, rfl, hown3, hB3⟩
         have hK2 : Below W1.heap.size W1 w3 := hK1.trans (hB3.mono hK1.size)
         have hown4 := hown2.below hB3 (Nat.le_refl _))
      | (refine step_bytes3 (by rfl) _ _ _ 5 (by rfl) Try.underlying31 infoB (by rfl) hown4 (by rfl) hown3.byt (by omega) hK2.size 8 rfl RB HC0.out ?_
         rintro A5 c5 w5 hown5 hB5
         have hK3 : Below W1.heap.size W1 w5 := hK2.trans hB5))
  have g2 : w5.cell? ⟨w.heap.size, 2, none⟩ = some (.int .u64 r.p) := (hK3.cell (p := ⟨w.heap.size, 2, none⟩) (by show w.heap.size < _; omega)).trans q2
  have HO5 : Hid (Own_ w5 W1.heap.size 5 A5 8 c5 RB) := Lib.hid hown5
  clear q0 q1 q2 hown2 hown3 hown4 hown5 hB2 hB3 hB5 hK1 hK2 v0 v1
  go_wp2_with fail
  refine (word5_any r.p 8 big _ (by omega) (.inr rfl) _ _ (by omega) (by omega)).mono ?_
  rintro e w6 ⟨A6, c6, rfl, hown6, hB6⟩
  have hK6 : Below W1.heap.size W1 w6 := hK3.trans (hB6.mono hK3.size)
  have ho6 := HO5.out.below hB6 (Nat.le_refl _)
  clear g2
  go_wp2_with (at_builtin; go_must (refine app_bytes _ rfl _ _ _ 5 rfl Try.underlying31 infoB rfl ho6 rfl hown6.byt (by omega) hK6.size ?_; rintro A7 c7 w7 hown7 hg7 hB7))
  have ho7 : Own_ w7 W1.heap.size 5 A7 16 c7 RB := hown7.congr HC1.out
  have hK7 : Below W1.heap.size W1 w7 := hK6.trans hB7
  clear ho6 hown6 hown7 hg7 hB7 hK6 hB6 hK3
  go_loopw [5, 6] (fun v i wr => ∃ (k : Nat) (A' : Option Addr) (c' : Nat), k ≤ 6 ∧ i = .int .i64 k ∧ v = .slice A' (16 + 8 * k) c' ∧ Own_ wr W1.heap.size 5 A' (16 + 8 * k) c' RB ∧ Below W1.heap.size W1 wr)
    (fun _ i _ => 6 - (intOf i).toNat)
  case atStart => exact ⟨0, _, _, by omega, rfl, rfl, ho7, hK7⟩
  case round =>
    clear ho7 hK7
    obtain ⟨k, A', c', hk, rfl, rfl, hown, hB⟩ := hrel
    have hs := hB.size
    by_cases hlt : k < 6
    · have g := (hB.cell (p := ⟨w.heap.size, 3 + k, none⟩) (by show w.heap.size < _; omega)).trans (HQ.out k hlt)
      have i2 : (k : Int) < 6 := by omega
      have hx := X3.out k
      go_wp2_with fail
      refine (word5_any (r.q k) 8 big _ hx (.inr rfl) _ _ (by omega) (by omega)).mono ?_
      rintro e w8 ⟨A8, c8, rfl, hown8, hB8⟩
      have hb8 := hB.trans (hB8.mono hs)
      have ho8 := hown.below hB8 (Nat.le_refl _)
      clear g
      go_wp2_with (at_builtin; go_must (refine app_bytes _ rfl _ _ _ 5 rfl Try.underlying31 infoB rfl ho8 rfl hown8.byt (by omega) hb8.size ?_; rintro A9 c9 w9 hown9 hg9 hB9))
      refine ⟨⟨k + 1, A9, c9, by omega, by go_num, rfl, hown9.congr (HC2.out k), hb8.trans hB9⟩, by simp [intOf]; omega⟩
    · obtain rfl : k = 6 := by omega
      go_wp2
      go_ret
      exact ⟨_, _, rfl, hown.lower (by omega), hb0.trans (hB.mono (by omega))⟩
end Go.Proofs.Ytpjhcaabjgbkjaa
