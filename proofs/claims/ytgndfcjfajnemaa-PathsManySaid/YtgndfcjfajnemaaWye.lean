/-
  Layer 27: paths as numbers; a copy of tests; memory while paths are gathered.
-/
import Derived.Test.YtgndfcjfajnemaaWyd
import Derived.Test.YtgndfcjfajnemaaWyt
import Derived.Lib.AppendZerosOnto
namespace Go.Proofs.Ytgndfcjfajnemaa
open Go.RowKit Go.Shelf
set_option linter.unusedVariables false

theorem infoTst : (Try.prog.info? 49).map (fun i => (i.zero, i.size, i.bytes)) = some (some (.agg #[.int .i64 0, .int .u32 0, .int .i64 0, .int .u32 0, .bool false]), 5, 32) := by kernel_rfl
set_option maxRecDepth 100000 in
set_option maxHeartbeats 1000000 in
theorem cloneT_any (A : Option Addr) (n c : Nat) (G : Nat → TV) (w : World) (hn : n ≤ 1000000) (hr : Cel w w.heap.size 5 A n c (tscell G)) :
    Calls Try.prog 37 #[.slice A n c] w fun e w' => ∃ A' c', e = .returned (.slice A' n c') ∧ OwnC w' w.heap.size 49 5 A' n c' (tscell G) ∧ Below w.heap.size w w' := by
  have hr0 := hr
  rcases hr with ⟨rfl, rfl, rfl⟩ | ⟨ad, rfl, _⟩
  · have hnil := fun W => Lib.run_eql_slice_nil (P := Try.prog) W 38 49 none 0 0 0 0 Try.underlying38
    go_enter Try.func37, Try.ntmps37
    go_wp2
    go_ret
    exact ⟨_, _, rfl, OwnC.nil_, Below.refl _ _⟩
  · have hnil := fun W => Lib.run_eql_slice_nil (P := Try.prog) W 38 49 (some ad) n c 0 0 Try.underlying38
    have hown : OwnC (w.alloc (.cells #[] 49)) w.heap.size 49 5 (some ⟨w.heap.size, 0, none⟩) 0 0 (tscell G) := by
      have := World.ownsRow_lit (base := w.heap.size) (e := 49) (size := 5) w #[] 0 (Nat.le_refl _) (by decide) rfl
      unfold OwnC
      simpa using this
    go_enter Try.func37, Try.ntmps37
    go_wp2_with (at_builtin; go_must (refine app_cells _ rfl _ _ _ 49 rfl Try.underlying38 infoTst rfl (by decide) rfl hown rfl (hr0.below ((Below.refl _ _).alloc (Nat.le_refl _) _)) (fun i _ => tscell_one _ i) (by unfold maxLen; omega) (by omega) (by simp) n (by omega) (tscell G) (fun i _ => by unfold catC; rw [if_neg (by omega)]; simp) ?_; rintro A2 c2 w2 hown2 hB2))
    go_ret
    exact ⟨_, _, rfl, hown2, ((Below.refl _ _).alloc (Nat.le_refl _) _).trans hB2⟩
/-- The first ones of a row of the call's own. -/
theorem OwnC.short {w : World} {base z n c k : Nat} {E : TypeId} {A : Option Addr} {F : Nat → Value} (h : OwnC w base E z A n c F) (hk : k ≤ n) : OwnC w base E z A k c F := by
  obtain ⟨h1, h2⟩ := h
  refine ⟨by simp, ?_⟩
  rcases h2 with ⟨hv, h0⟩ | ⟨gg, cap, cur, hv, hg, hh, h3, h4, h5, h6⟩
  · injection hv with e1 e2 e3
    subst e1 e3
    have : k = 0 := by omega
    subst this
    exact .inl ⟨rfl, rfl⟩
  · injection hv with e1 e2 e3
    subst e1 e3
    refine .inr ⟨gg, c, cur, rfl, hg, hh, by omega, h4, h5, ?_⟩
    have hle : k * z ≤ n * z := Nat.mul_le_mul_right _ hk
    have : cur.toList.take (k * z) = (cur.toList.take (n * z)).take (k * z) := by rw [List.take_take, Nat.min_eq_left hle]
    rw [this, h6, ← List.map_take, List.take_range, Nat.min_eq_left hle]
/-- A path as numbers. -/
structure PV where
  ts : List TV
  st : Nat
  v : Nat
instance : Inhabited PV := ⟨⟨[], 0, 0⟩⟩
/-- All paths from an instruction on, with the word that is in A, behind tests and steps. -/
def pF (g : Nat → IV) : Nat → Nat → Nat → Nat → List TV → Nat → List PV
  | 0, _, _, _, _, _ => []
  | m + 1, i, p, q, ts, s =>
    if kd (g i) = 14 then [⟨ts, s + 1, (g i).k⟩]
    else if brK (kd (g i)) = true then
      pF g m (i + 1 + (g i).t) p q (ts ++ [⟨(p : Int), q, kd (g i), (g i).k, true⟩]) (s + 1) ++ pF g m (i + 1 + (g i).f) p q (ts ++ [⟨(p : Int), q, kd (g i), (g i).k, false⟩]) (s + 1)
    else if kd (g i) = 13 then pF g m (i + 1 + (g i).k) p q ts (s + 1)
    else if kd (g i) = 1 then pF g m (i + 1) (g i).k 4294967295 ts (s + 1)
    else pF g m (i + 1) p (q &&& (g i).k) ts (s + 1)
/-- A path's cells: its tests' slice, its steps, its value. -/
def pvcell (L : Nat → PV) (S : Nat → Option Addr × Nat) (i : Nat) : Value := if i % 3 = 0 then .slice (S (i / 3)).1 (L (i / 3)).ts.length (S (i / 3)).2 else if i % 3 = 1 then .int .i64 ((L (i / 3)).st : Nat) else .int .u32 ((L (i / 3)).v : Nat)
theorem pvcell_one (L : Nat → PV) (S : Nat → Option Addr × Nat) (i : Nat) : (pvcell L S i).oneCell' = true := by
  unfold pvcell; split
  · rfl
  · split <;> rfl
theorem infoPv : (Try.prog.info? 40).map (fun i => (i.zero, i.size, i.bytes)) = some (some (.agg #[.slice none 0 0, .int .i64 0, .int .u32 0]), 3, 40) := by kernel_rfl
def blkOf (A : Option Addr) (b : Nat) : Prop := ∃ o, A = some o ∧ o.block = b
/-- What lay is kept, but for two boxes and two rows. -/
structure GK (Al Te : Nat) (A T : Option Addr) (w w' : World) : Prop where
  os : w'.os = w.os
  tape : w'.tape = w.tape
  output : w'.output = w.output
  size : w.heap.size ≤ w'.heap.size
  block : ∀ k, k < w.heap.size → k ≠ Al → k ≠ Te → ¬ blkOf A k → ¬ blkOf T k → w'.heap[k]? = w.heap[k]?
end Go.Proofs.Ytgndfcjfajnemaa
