/-
  Layer 21: sets of numbers; a step's leads; asm.reached.
-/
import Derived.Test.YtiofgaadfbjnoaaAs2
import Derived.Maps.OwnSet
namespace Go.Proofs.Ytiofgaadfbjnoaa
open Go.RowKit Go.Shelf
set_option linter.unusedVariables false

/-- A map's block as a set of numbers, of at most N entries. -/
def SetI (w : World) (b N : Nat) (S : Int → Bool) : Prop := ∃ D : DataW Unit, w.ownsMap Try.prog 3 unitElem b N D ∧ Maps.IsMap D ∧ ∀ k : Int, (Lit.int .i64 k).wf = true → Maps.has D (.int .i64 k) = S k
theorem keyedInt : Maps.Keyed Try.prog 3 := Maps.int_keyed Try.underlying3
theorem keyI {k : Int} (h : (Lit.int .i64 k).wf = true) : keyOf Try.prog 3 (.int .i64 k) = some (.int .i64 k) := Maps.keyOf_int_mk Try.underlying3 h
theorem SetI.lt {w : World} {b N : Nat} {S : Int → Bool} (h : SetI w b N S) : b < w.heap.size := by
  obtain ⟨D, h1, _⟩ := h
  exact h1.lt
theorem SetI.kept {w w' : World} {b N : Nat} {S : Int → Bool} {row : Option Nat} (h : SetI w b N S) (hg : w.grownBy w' row) (hne : some b ≠ row) : SetI w' b N S := by
  obtain ⟨D, h1, h2⟩ := h
  exact ⟨D, h1.kept hg hne, h2⟩
theorem SetI.below {w w' : World} {b N B : Nat} {S : Int → Bool} (h : SetI w b N S) (hb : Below B w w') (hB : b < B) : SetI w' b N S := by
  obtain ⟨D, ⟨es, clock, h0, h1⟩, h2⟩ := h
  exact ⟨D, ⟨es, clock, (hb.block b hB).trans h0, h1⟩, h2⟩
theorem SetI.congr {w : World} {b N : Nat} {S T : Int → Bool} (h : SetI w b N S) (he : ∀ k, S k = T k) : SetI w b N T := by
  obtain ⟨D, h1, h2, h3⟩ := h
  exact ⟨D, h1, h2, fun k hk => (h3 k hk).trans (he k)⟩
theorem SetI.mono {w : World} {b N N' : Nat} {S : Int → Bool} (h : SetI w b N S) (hN : N ≤ N') : SetI w b N' S := by
  obtain ⟨D, h1, h2⟩ := h
  exact ⟨D, h1.mono hN, h2⟩
theorem SetI.new (w : World) : SetI (w.alloc (.map #[] 0)) w.heap.size 0 (fun _ => false) := ⟨.map [], World.ownsMap_made w _ _ _, Maps.isMap_empty, fun k _ => rfl⟩
theorem zeroUnit (w : World) : (zeroValue 106).run Try.prog w = .ok (.agg #[]) w := (zero_of_info (n := 0) (by kernel_rfl)).1 w
theorem SetI.look {w : World} {b N : Nat} {S : Int → Bool} (h : SetI w b N S) {k : Int} (hk : (Lit.int .i64 k).wf = true) : (Instr.lookup 107 (.map (some b)) (.int .i64 k) true).run Try.prog w = .ok (.tuple #[.agg #[], .bool (S k)]) w := by
  obtain ⟨D, h1, h2, h3⟩ := h
  obtain ⟨v, ps, hrun, hv⟩ := h1.look_ok keyedInt Try.underlying107 (zeroUnit w) unitElem_mk (keyI hk)
  obtain ⟨rfl, _⟩ := unitElem_inv hv
  rw [hrun, h3 k hk]
theorem SetI.put {w : World} {b N : Nat} {S : Int → Bool} (h : SetI w b N S) {k : Int} (hk : (Lit.int .i64 k).wf = true) (hN : N < maxLen) : ∃ w', (Instr.mapUpdate 107 (.map (some b)) (.int .i64 k) (.agg #[])).run Try.prog w = .ok () w' ∧ SetI w' b (N + 1) (fun j => S j || decide (j = k)) ∧ w.grownBy w' (some b) := by
  obtain ⟨D, h1, h2, h3⟩ := h
  obtain ⟨w', hrun, r1, r2⟩ := h1.store keyedInt Try.underlying107 hN (keyI hk) (d := .agg []) (ps := []) unitElem_mk
  refine ⟨w', hrun, ⟨_, r1, h2.put _ _, fun j hj => ?_⟩, r2.grown⟩
  by_cases e : j = k
  · subst e
    rw [Maps.has_put_same h2 (by trivial)]
    simp
  · rw [Maps.has_put_other (fun e2 => e (by injection e2)), h3 j hj]
    simp [e]
theorem SetI.drop {w : World} {b N : Nat} {S : Int → Bool} (h : SetI w b N S) {k : Int} (hk : (Lit.int .i64 k).wf = true) (ty : TypeId) : ∃ w', (Builtin.delete_ #[107, 3] ty #[.map (some b), .int .i64 k]).run Try.prog w = .ok (.tuple #[]) w' ∧ SetI w' b N (fun j => decide (j ≠ k) && S j) ∧ w.grownBy w' (some b) := by
  obtain ⟨D, h1, h2, h3⟩ := h
  obtain ⟨w', hrun, r1, r2⟩ := h1.drop keyedInt Try.underlying107 (keyI hk) ty
  refine ⟨w', hrun, ⟨_, r1, h2.del _, fun j hj => ?_⟩, r2.grown⟩
  by_cases e : j = k
  · subst e
    rw [Maps.has_del_same]
    simp
  · rw [Maps.has_del_other (fun e2 => e (by injection e2)), h3 j hj]
    simp [e]
abbrev stA (x : IT) : Value := .agg #[.int .i64 x.m, .int .u16 x.c, .int .u32 x.k, .int .i64 x.t, .int .i64 x.f, .int .i64 (ik x)]
def icl (l : List Int) (j : Nat) : Value := .int .i64 (l.getD j 0)
theorem one_intA (w : World) (a : Int) (E : TypeId) : Cel (w.alloc (.cells #[.int .i64 a] E)) (w.heap.size + 1) 1 (some ⟨w.heap.size, 0, none⟩) 1 1 (icl [a]) :=
  Cel.mk_ (Nat.lt_succ_self _) (Nat.le_refl _) (by decide) fun i hi => by
    have hi' : i = 0 := by omega
    subst hi'
    rw [Nat.zero_add, cell_of_row _ _ _ _ _ _ (heap_alloc_last w _)]
    rfl
theorem two_int (w : World) (a c : Int) (E : TypeId) : Cel (w.alloc (.cells #[.int .i64 a, .int .i64 c] E)) (w.heap.size + 1) 1 (some ⟨w.heap.size, 0, none⟩) 2 2 (icl [a, c]) :=
  Cel.mk_ (Nat.lt_succ_self _) (Nat.le_refl _) (by decide) fun i hi => by
    have hi' : i < 2 := by omega
    rw [Nat.zero_add, cell_of_row _ _ _ _ _ _ (heap_alloc_last w _)]
    match i, hi' with
    | 0, _ => rfl
    | 1, _ => rfl
set_option maxRecDepth 100000 in
set_option maxHeartbeats 4000000 in
theorem stLeads_any (x : IT) (w : World) : Calls Try.prog 48 #[stA x] w fun e w' => ∃ A n c, e = .returned (.slice A n c) ∧ n = (leadsI x).length ∧ Cel w' w'.heap.size 1 A n c (icl (leadsI x)) ∧ (∀ ad, A = some ad → w.heap.size ≤ ad.block) ∧ Below w.heap.size w w' := by
  obtain ⟨K, hK⟩ : ∃ K, ik x = K := ⟨_, rfl⟩
  have hm : leadsI x = if K = 14 ∨ K = 15 then [] else if K = 13 then [x.t] else if isBrK K = true then [x.t, x.f] else [0] := by unfold leadsI; rw [hK]
  obtain ⟨L, hL⟩ : ∃ L, leadsI x = L := ⟨_, rfl⟩
  rw [hL] at hm ⊢
  simp only [stA, hK]
  clear hL hK
  obtain ⟨xm, xc, xk, xt, xf⟩ := x
  simp only at hm
  have HL := Lib.hid hm
  clear hm
  obtain ⟨W1, hW1⟩ : ∃ W, w.alloc (.cells #[.int .i64 xm, .int .u16 xc, .int .u32 xk, .int .i64 xt, .int .i64 xf, .int .i64 K] 84) = W := ⟨_, rfl⟩
  have HB := Lib.hid (show Below w.heap.size w W1 by rw [← hW1]; exact (Below.refl _ _).alloc (Nat.le_refl _) _)
  have h1 := one_intA W1
  have h2 := two_int W1
  have H := Lib.hid (And.intro h1 h2)
  have HW1 := Lib.hid hW1
  have hr1 : RowC W1 w.heap.size #[.int .i64 xm, .int .u16 xc, .int .u32 xk, .int .i64 xt, .int .i64 xf, .int .i64 K] 84 := by rw [← hW1]; exact RowC.new _ _ _ _ rfl
  have p3 := hr1.cell 3 _ rfl
  have p4 := hr1.cell 4 _ rfl
  have p5 := hr1.cell 5 _ rfl
  clear h1 h2 hW1 hr1
  go_enter Try.func48, Try.ntmps48
  go_upto_region 1 with fail
  rw [HW1.out]
  by_cases f1 : K = 14
  · subst f1
    go_wp2
    go_ret
    obtain rfl : L = [] := by rw [HL.out]; rfl
    exact ⟨_, _, _, rfl, rfl, Cel.nil_, (fun ad h => by cases h), HB.out⟩
  have g1 : (K == 14) = false := beq_eq_false_iff_ne.2 f1
  by_cases f2 : K = 15
  · subst f2
    go_wp2
    go_ret
    obtain rfl : L = [] := by rw [HL.out]; rfl
    exact ⟨_, _, _, rfl, rfl, Cel.nil_, (fun ad h => by cases h), HB.out⟩
  have g2 : (K == 15) = false := beq_eq_false_iff_ne.2 f2
  by_cases f3 : K = 13
  · subst f3
    go_wp2
    go_ret
    obtain rfl : L = [xt] := by rw [HL.out]; rfl
    exact ⟨_, _, _, rfl, rfl, by simpa using H.out.1 xt 3, (fun ad h => by cases h; exact HB.out.size), HB.out.alloc HB.out.size _⟩
  have g3 : (K == 13) = false := beq_eq_false_iff_ne.2 f3
  by_cases f4 : K = 25
  · subst f4
    go_wp2
    go_ret
    obtain rfl : L = [xt, xf] := by rw [HL.out]; rfl
    exact ⟨_, _, _, rfl, rfl, by simpa using H.out.2 xt xf 3, (fun ad h => by cases h; exact HB.out.size), HB.out.alloc HB.out.size _⟩
  have g4 : (K == 25) = false := beq_eq_false_iff_ne.2 f4
  by_cases f5 : K = 26
  · subst f5
    go_wp2
    go_ret
    obtain rfl : L = [xt, xf] := by rw [HL.out]; rfl
    exact ⟨_, _, _, rfl, rfl, by simpa using H.out.2 xt xf 3, (fun ad h => by cases h; exact HB.out.size), HB.out.alloc HB.out.size _⟩
  have g5 : (K == 26) = false := beq_eq_false_iff_ne.2 f5
  by_cases f6 : K = 27
  · subst f6
    go_wp2
    go_ret
    obtain rfl : L = [xt, xf] := by rw [HL.out]; rfl
    exact ⟨_, _, _, rfl, rfl, by simpa using H.out.2 xt xf 3, (fun ad h => by cases h; exact HB.out.size), HB.out.alloc HB.out.size _⟩
  have g6 : (K == 27) = false := beq_eq_false_iff_ne.2 f6
  by_cases f7 : K = 28
  · subst f7
    go_wp2
    go_ret
    obtain rfl : L = [xt, xf] := by rw [HL.out]; rfl
    exact ⟨_, _, _, rfl, rfl, by simpa using H.out.2 xt xf 3, (fun ad h => by cases h; exact HB.out.size), HB.out.alloc HB.out.size _⟩
  have g7 : (K == 28) = false := beq_eq_false_iff_ne.2 f7
  go_wp2
  go_ret
  obtain rfl : L = [0] := by rw [HL.out, if_neg (by omega), if_neg f3, if_neg (by unfold isBrK; rw [g4, g5, g6, g7]; decide)]
  exact ⟨_, _, _, rfl, rfl, by simpa using H.out.1 0 3, (fun ad h => by cases h; exact HB.out.size), HB.out.alloc HB.out.size _⟩
end Go.Proofs.Ytiofgaadfbjnoaa
