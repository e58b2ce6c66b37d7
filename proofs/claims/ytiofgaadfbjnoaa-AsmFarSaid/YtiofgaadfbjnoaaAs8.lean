/-
  Layer 21: the steps, from the last one on (slices.Backward).
-/
import Derived.Test.YtiofgaadfbjnoaaAs6
import Derived.Test.YtiofgaadfbjnoaaWb
import Derived.Deep.LoopGhost
namespace Go.Proofs.Ytiofgaadfbjnoaa
open Go.RowKit Go.Shelf
set_option linter.unusedVariables false
attribute [local go_sem] Oper.semAt_some

/-- The places, from the last one on, k of them. -/
def dnto (n k : Nat) : List (Fin n) := (List.finRange n).reverse.take k
theorem dnto_succ {n k : Nat} (h : k < n) : dnto n (k + 1) = dnto n k ++ [⟨n - 1 - k, by omega⟩] := by
  unfold dnto
  rw [List.take_add_one]
  congr 1
  rw [List.getElem?_eq_getElem (by simpa using h), List.getElem_reverse]
  simp
theorem dnto_length {n k : Nat} (h : k ≤ n) : (dnto n k).length = k := by simp [dnto]; omega
theorem dnto_all (n : Nat) : dnto n n = (List.finRange n).reverse := by unfold dnto; rw [List.take_of_length_le (by simp)]

/-- Two blocks lie as they lay. -/
def K2 (a b : Nat) (W W' : World) : Prop := W'.heap[a]? = W.heap[a]? ∧ W'.heap[b]? = W.heap[b]?
theorem K2.refl (a b : Nat) (W : World) : K2 a b W W := ⟨rfl, rfl⟩
theorem K2.trans {a b : Nat} {U V W : World} (h : K2 a b U V) (k : K2 a b V W) : K2 a b U W := ⟨k.1.trans h.1, k.2.trans h.2⟩
theorem K2.book {a b : Nat} {w : World} (ha : a < w.heap.size) (hb : b < w.heap.size) (W : World) (l : Nat) (o o' : Obj) (hl : w.heap.size ≤ l) (_ : W.heap[l]? = some o) (_ : o.isCells = false) (_ : o.isWalk = false) : K2 a b W (W.putObj l o') :=
  ⟨World.putObj_heap_other (by omega), World.putObj_heap_other (by omega)⟩

set_option maxRecDepth 100000 in
set_option maxHeartbeats 4000000 in
theorem bw1_in (F : Fence) (n : Nat) (h8 : F.fn 47) (hro : F.round = none) (hn : 1 ≤ n) (g : Nat → IT) (m cp l Bx pb off : Nat) (hm : m ≤ 10000000) (J Jx : List (Fin m) → World → Prop)
    (hY : ∀ pre x W, J pre W → pre.length < m → YieldAt F (n - 1) Try.prog l #[.int .i64 (x.1 : Int), stA (g x.1)] W fun e W' =>
      (e = .returned (.bool true) ∧ J (pre ++ [x]) W' ∧ K2 Bx pb W W') ∨ (e = .returned (.bool false) ∧ Jx (pre ++ [x]) W'))
    (W : World) (h1 : W.cell? ⟨Bx, 0, none⟩ = some (.slice (some ⟨pb, off, none⟩) m cp)) (h2 : ∀ i, i < m * 6 → W.cell? ⟨pb, off + i, none⟩ = some (stcell g i)) (h0 : J [] W) :
    CallsIn F n Try.prog 47 #[.func (.yield l) #[] #[], .pointer (some ⟨Bx, 0, none⟩)] W fun e W' => (∃ v, e = .returned v) ∧
      ((∃ ys, ys = (List.finRange m).reverse ∧ J ys W') ∨ (∃ pre, True ∧ Jx pre W')) := by
  refine callsIn_of_wp Try.func47 rfl h8 ?_ hro
  simp only [Try.ntmps47, List.size_toArray, List.length_cons, List.length_nil, Nat.reduceAdd, Nat.reduceSub, Array.replicate_succ, Array.replicate_zero, List.push_toArray, List.append_toArray, List.nil_append, List.cons_append]
  have hq : IntKind.i64.wrap ((m : Int) - 1) = (m : Int) - 1 := IntWalk.i64_in _ (by omega)
  gi_wp2
  gi_loopw [3] (fun i wr => ∃ k : Nat, k ≤ m ∧ i = .int .i64 ((m : Int) - 1 - k) ∧ J (dnto m k) wr ∧ K2 Bx pb W wr)
    (fun i _ => (intOf i + 1).toNat)
  case atStart => exact ⟨0, Nat.zero_le _, by simp, by simpa [dnto] using h0, K2.refl _ _ _⟩
  case round =>
    obtain ⟨k, hk, rfl, hJs, hnx⟩ := hrel
    have g1 := (World.cell?_of_block (w := W) (a := ⟨Bx, 0, none⟩) hnx.1).trans h1
    by_cases hlt : k < m
    · obtain ⟨x, hxe⟩ : ∃ x, m - 1 - k = x := ⟨_, rfl⟩
      have hx : ((m : Int) - 1 - k) = (x : Int) := by omega
      have hxm : x < m := by omega
      have hcell : ∀ j, j < 6 → wr.cell? ⟨pb, off + (x * 6 + j), none⟩ = some ((srow (g x)).getD j undef) := fun j hj => by
        rw [(World.cell?_of_block (w := W) (a := ⟨pb, off + (x * 6 + j), none⟩) hnx.2), h2 _ (by omega), stcell_at g _ j hj]
      obtain ⟨fn, tmps, assign, body, hy, hR⟩ := hY _ ⟨x, hxm⟩ wr hJs (by rw [dnto_length hk]; exact hlt)
      dsimp only at hy
      have HDS : Hid (dnto m (k + 1) = dnto m k ++ [⟨x, hxm⟩]) := Lib.hid (by subst hxe; exact dnto_succ hlt)
      have HXE := Lib.hid hxe
      have HE3 : Hid (Value.int .i64 ((x : Int) - 1) = Value.int .i64 ((m : Int) - 1 - ((k + 1 : Nat) : Int))) := Lib.hid (by congr 1; omega)
      rw [hx]
      have v0 : wr.cell? ⟨pb, off + x * 6, none⟩ = some (.int .i64 (g x).m) := hcell 0 (by decide)
      have v1 : wr.cell? ⟨pb, off + x * 6 + 1, none⟩ = some (.int .u16 (g x).c) := by rw [Nat.add_assoc]; exact hcell 1 (by decide)
      have v2 : wr.cell? ⟨pb, off + x * 6 + 2, none⟩ = some (.int .u32 (g x).k) := by rw [Nat.add_assoc]; exact hcell 2 (by decide)
      have v3 : wr.cell? ⟨pb, off + x * 6 + 3, none⟩ = some (.int .i64 (g x).t) := by rw [Nat.add_assoc]; exact hcell 3 (by decide)
      have v4 : wr.cell? ⟨pb, off + x * 6 + 4, none⟩ = some (.int .i64 (g x).f) := by rw [Nat.add_assoc]; exact hcell 4 (by decide)
      have v5 : wr.cell? ⟨pb, off + x * 6 + 5, none⟩ = some (.int .i64 (ik (g x))) := by rw [Nat.add_assoc]; exact hcell 5 (by decide)
      have i1 : (0 : Int) ≤ (x : Int) := by omega
      have i2 : (x : Int) < (m : Int) := by omega
      have hq2 : IntKind.i64.wrap ((x : Int) - 1) = (x : Int) - 1 := IntWalk.i64_in _ (by omega)
      clear hcell hx hxe h2 hq
      gi_wp2
      refine hR.mono ?_
      rintro e W3 (⟨rfl, hJ3, hk3⟩ | ⟨rfl, hJx3⟩)
      · gi_wp2
        go_roundw
        case rel => exact ⟨k + 1, by omega, HE3.out, by rw [HDS.out]; exact hJ3, hnx.trans hk3⟩
        case measure => simp [intOf] <;> omega
      · gi_wp2
        refine bodyPost_ret (results_none rfl _ _ _) rfl ?_
        exact ⟨⟨_, rfl⟩, .inr ⟨_, trivial, hJx3⟩⟩
    · obtain rfl : k = m := by omega
      have hz : decide (((k : Int) - 1 - k) ≥ 0) = false := by simp; omega
      gi_wp2
      go_end0
      exact ⟨⟨_, rfl⟩, .inl ⟨_, rfl, by rw [dnto_all] at hJs; exact hJs⟩⟩
theorem bw_stops (F : Fence) (n : Nat) (h8 : F.fn 47) (hro : F.round = none) (hn : 1 ≤ n) (g : Nat → IT) (m cp Bx pb off : Nat) (hm : m ≤ 10000000) (w : World) (hBx : Bx < w.heap.size) (hpb : pb < w.heap.size)
    (h1 : w.cell? ⟨Bx, 0, none⟩ = some (.slice (some ⟨pb, off, none⟩) m cp)) (h2 : ∀ i, i < m * 6 → w.cell? ⟨pb, off + i, none⟩ = some (stcell g i)) :
    SeqStopsK F n Try.prog 47 #[.pointer (some ⟨Bx, 0, none⟩)]
      (fun x : Fin m => #[Value.int .i64 (x.1 : Int), stA (g x.1)]) (K2 Bx pb) (fun ys => ys = (List.finRange m).reverse) (fun _ => True) m w := fun l J Jx W hW _ _ hY h0 =>
  bw1_in F n h8 hro hn g m cp l Bx pb off hm J Jx hY W ((hW.cell (p := ⟨Bx, 0, none⟩) hBx).trans h1) (fun i hi => (hW.cell (p := ⟨pb, off + i, none⟩) hpb).trans (h2 i hi)) h0
set_option maxRecDepth 100000 in
theorem backward_any (A : Option Addr) (n c : Nat) (w : World) : Calls Try.prog 32 #[.slice A n c] w fun e w' => e = .returned (.func (.func 47) #[] #[.pointer (some ⟨w.heap.size, 0, none⟩)]) ∧ w' = w.alloc (.cells #[.slice A n c] 82) := by
  go_enter Try.func32, Try.ntmps32
  go_wp2
  go_ret
  exact ⟨rfl, rfl⟩
end Go.Proofs.Ytiofgaadfbjnoaa
