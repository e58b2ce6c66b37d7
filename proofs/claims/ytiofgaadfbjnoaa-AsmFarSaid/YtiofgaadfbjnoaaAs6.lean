/-
  Layer 21: how far a mark is; a jump; a step's instruction; steps from the last one on.
-/
import Derived.Test.YtiofgaadfbjnoaaAs5
import Derived.RangeFuncNested
import Derived.RangeFuncBound
import Derived.RangeFuncCalls
import Derived.RangeFuncLeaves
namespace Go.Proofs.Ytiofgaadfbjnoaa
open Go.RowKit Go.Shelf
set_option linter.unusedVariables false
attribute [local go_sem] Oper.semAt_some

/-- Places, as the map has them, of at most N entries. -/
def PlM (w : World) (b N : Nat) (pl : Int → Nat) : Prop := ∃ D : DataW Unit, w.ownsMap Try.prog 3 (plainElem Try.prog 3) b N D ∧ Maps.IsMap D ∧ ∀ k : Int, D.atKey (.int .i64 k) (.lit (.int .i64 0)) = .lit (.int .i64 (pl k : Int))
theorem PlM.of_keep {w w' : World} {b N : Nat} {pl : Int → Nat} (h : PlM w b N pl) (hk : w'.heap[b]? = w.heap[b]?) : PlM w' b N pl := by
  obtain ⟨D, ⟨es, clock, h0, h1⟩, h2⟩ := h
  exact ⟨D, ⟨es, clock, hk.trans h0, h1⟩, h2⟩
theorem PlM.below {w w' : World} {b B N : Nat} {pl : Int → Nat} (h : PlM w b N pl) (hb : Below B w w') (hB : b < B) : PlM w' b N pl := h.of_keep (hb.block b hB)
theorem PlM.lt {w : World} {b N : Nat} {pl : Int → Nat} (h : PlM w b N pl) : b < w.heap.size := by
  obtain ⟨D, h1, _⟩ := h
  exact h1.lt
theorem PlM.kept {w w' : World} {b N : Nat} {pl : Int → Nat} {row : Option Nat} (h : PlM w b N pl) (hg : w.grownBy w' row) (hne : some b ≠ row) : PlM w' b N pl := h.of_keep (hg.block b h.lt hne)
theorem PlM.mono {w : World} {b N N' : Nat} {pl : Int → Nat} (h : PlM w b N pl) (hN : N ≤ N') : PlM w b N' pl := by
  obtain ⟨D, h1, h2⟩ := h
  exact ⟨D, h1.mono hN, h2⟩
theorem PlM.new (w : World) : PlM (w.alloc (.map #[] 0)) w.heap.size 0 (fun _ => 0) := ⟨.map [], World.ownsMap_made w _ _ _, Maps.isMap_empty, fun _ => rfl⟩
set_option maxRecDepth 100000 in
theorem PlM.look {w : World} {b N : Nat} {pl : Int → Nat} (h : PlM w b N pl) {k : Int} (hk : (Lit.int .i64 k).wf = true) : (Instr.lookup 71 (.map (some b)) (.int .i64 k) false).run Try.prog w = .ok (.int .i64 (pl k : Int)) w := by
  obtain ⟨D, h1, _, h2⟩ := h
  obtain ⟨c, hrun, hat, _⟩ := h1.lookup_int keyedInt Try.underlying71 Try.underlying3 (Try.zeroValue3 w) (keyI hk)
  rw [h2 k] at hat
  injection hat with hat
  injection hat with _ hat
  rw [hrun, hat]
set_option maxRecDepth 100000 in
theorem PlM.put {w : World} {b N : Nat} {pl : Int → Nat} (h : PlM w b N pl) {k : Int} (hk : (Lit.int .i64 k).wf = true) (hN : N < maxLen) (v : Nat) (hv : v ≤ 100000000) : ∃ w', (Instr.mapUpdate 71 (.map (some b)) (.int .i64 k) (.int .i64 (v : Int))).run Try.prog w = .ok () w' ∧ PlM w' b (N + 1) (fun j => if j = k then v else pl j) ∧ w.grownBy w' (some b) := by
  obtain ⟨D, h1, hD, h2⟩ := h
  have hwf : (Lit.int .i64 (v : Int)).wf = true := by
    simp [Lit.wf, IntKind.min, IntKind.max, IntKind.signed, IntKind.bits]
    omega
  obtain ⟨w', hrun, r1, r2⟩ := h1.store keyedInt Try.underlying71 hN (keyI hk) (plainElem_int Try.underlying3 hwf)
  refine ⟨w', hrun, ⟨_, r1, hD.put _ _, fun j => ?_⟩, r2.grown⟩
  by_cases e : j = k
  · subst e
    rw [Maps.atKey_put_same hD (by trivial)]
    simp
  · rw [Maps.atKey_put_other (fun e2 => e (by injection e2)), h2 j]
    simp only [if_neg e]
theorem asmFar_any (tq : Int) (p q b m c : Nat) (A : Option Addr) (pl : Int → Nat) (N : Nat) (w : World) (hp : w.cell? ⟨p, 0, none⟩ = some (.slice A m c)) (hq : w.cell? ⟨q, 0, none⟩ = some (.map (some b))) (hm : PlM w b N pl) (hk : (Lit.int .i64 tq).wf = true) (hle : pl tq ≤ m) (hm1 : m ≤ 10000000) :
    Calls Try.prog 31 #[.int .i64 tq, .pointer (some ⟨p, 0, none⟩), .pointer (some ⟨q, 0, none⟩)] w fun e w' => e = .returned (.int .i64 ((if tq = 0 then 0 else m - pl tq : Nat) : Int)) ∧ w' = w := by
  by_cases h0 : tq = 0
  · subst h0
    go_enter Try.func31, Try.ntmps31
    go_wp2
    go_ret
    exact ⟨rfl, rfl⟩
  · have f0 : (tq == 0) = false := beq_eq_false_iff_ne.2 h0
    have hl := hm.look hk
    obtain ⟨v, hv⟩ : ∃ v, pl tq = v := ⟨_, rfl⟩
    rw [hv] at hl hle ⊢
    rw [if_neg h0]
    have hw : IntKind.i64.wrap ((m : Int) - (v : Int)) = ((m - v : Nat) : Int) := by
      rw [IntWalk.i64_in _ (by omega)]
      omega
    clear hv hm hk
    go_enter Try.func31, Try.ntmps31
    go_wp2
    go_ret
    exact ⟨rfl, rfl⟩
theorem jump_any (v : Nat) (hv : v < 4294967296) (w : World) : Calls Try.prog 34 #[.int .i64 (v : Int)] w fun e w' => e = .returned (.agg #[.int .u16 5, .int .u8 0, .int .u8 0, .int .u32 (v : Int)]) ∧ Below w.heap.size w w' := by
  have hw : IntKind.u32.wrap (v : Int) = (v : Int) := IntWalk.u32_in _ (by omega)
  have HB := Lib.hid (show Below w.heap.size w (w.alloc (.cells #[.int .u16 5, .int .u8 0, .int .u8 0, .int .u32 (v : Int)] 52)) from (Below.refl _ _).alloc (Nat.le_refl _) _)
  have R1 := Lib.hid (show RowC (w.alloc (.cells #[.int .u16 5, .int .u8 0, .int .u8 0, .int .u32 (v : Int)] 52)) w.heap.size #[.int .u16 5, .int .u8 0, .int .u8 0, .int .u32 (v : Int)] 52 from RowC.new _ _ _ _ rfl)
  go_enter Try.func34, Try.ntmps34
  go_wp2
  exact bodyPost_ret (results_cell_row Try.results34 _ _ w.heap.size _ #[.int .u16 5, .int .u8 0, .int .u8 0, .int .u32 (v : Int)] (0, 0) _ (by rfl) R1.out Try.underlying52 (by rfl) (by kernel_rfl)) rfl ⟨rfl, HB.out⟩
theorem with_any (x : IT) (y z : Nat) (hy : y < 256) (hz : z < 256) (w : World) : Calls Try.prog 35 #[stA x, .int .i64 (y : Int), .int .i64 (z : Int)] w fun e w' => e = .returned (.agg #[.int .u16 x.c, .int .u8 (y : Int), .int .u8 (z : Int), .int .u32 x.k]) ∧ Below w.heap.size w w' := by
  have hw : IntKind.u8.wrap (y : Int) = (y : Int) := IntWalk.u8_in _ (by omega)
  have hw2 : IntKind.u8.wrap (z : Int) = (z : Int) := IntWalk.u8_in _ (by omega)
  obtain ⟨K, hK⟩ : ∃ K, ik x = K := ⟨_, rfl⟩
  simp only [stA, hK]
  clear hK
  obtain ⟨W1, hW1⟩ : ∃ W, w.alloc (.cells #[.int .i64 x.m, .int .u16 x.c, .int .u32 x.k, .int .i64 x.t, .int .i64 x.f, .int .i64 K] 84) = W := ⟨_, rfl⟩
  have hb1 : Below w.heap.size w W1 := by rw [← hW1]; exact (Below.refl _ _).alloc (Nat.le_refl _) _
  have hr1 : RowC W1 w.heap.size #[.int .i64 x.m, .int .u16 x.c, .int .u32 x.k, .int .i64 x.t, .int .i64 x.f, .int .i64 K] 84 := by rw [← hW1]; exact RowC.new _ _ _ _ rfl
  have p1 := hr1.cell 1 _ rfl
  have p2 := hr1.cell 2 _ rfl
  rw [← hW1] at p1 p2
  have HB := Lib.hid (show Below w.heap.size w ((w.alloc (.cells #[.int .i64 x.m, .int .u16 x.c, .int .u32 x.k, .int .i64 x.t, .int .i64 x.f, .int .i64 K] 84)).alloc (.cells #[.int .u16 x.c, .int .u8 (y : Int), .int .u8 (z : Int), .int .u32 x.k] 52)) from by rw [hW1]; exact hb1.alloc hb1.size _)
  have R1 := Lib.hid (show RowC ((w.alloc (.cells #[.int .i64 x.m, .int .u16 x.c, .int .u32 x.k, .int .i64 x.t, .int .i64 x.f, .int .i64 K] 84)).alloc (.cells #[.int .u16 x.c, .int .u8 (y : Int), .int .u8 (z : Int), .int .u32 x.k] 52)) (w.heap.size + 1) #[.int .u16 x.c, .int .u8 (y : Int), .int .u8 (z : Int), .int .u32 x.k] 52 from RowC.new _ _ _ _ (by simp))
  clear hW1 hb1 hr1
  go_enter Try.func35, Try.ntmps35
  go_wp2
  exact bodyPost_ret (results_cell_row Try.results35 _ _ (w.heap.size + 1) _ #[.int .u16 x.c, .int .u8 (y : Int), .int .u8 (z : Int), .int .u32 x.k] (0, 0) _ (by rfl) R1.out Try.underlying52 (by rfl) (by kernel_rfl)) rfl ⟨rfl, HB.out⟩
end Go.Proofs.Ytiofgaadfbjnoaa
