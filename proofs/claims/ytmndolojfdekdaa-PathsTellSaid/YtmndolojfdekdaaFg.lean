/-
  Words for flow.Longest: the longest way by a plain function; the iterator slices.Backward at places.
-/
import Derived.Test.YtmndolojfdekdaaFf
import Derived.Test.YtmndolojfdekdaaWa
namespace Go.Proofs.Ytmndolojfdekdaa
open Go.RowKit Go.Shelf
attribute [local go_sem] Oper.semAt_some

def maxl (S : Nat → Nat) (l : List Nat) : Nat := l.foldl (fun b to => max b (S to)) 0
/-- One place's steps are told. -/
def stp (g : Nat → IV) (S : Nat → Nat) (x : Nat) : Nat → Nat := fun i => if i = x then 1 + maxl S (nexts (g x) x) else S i
def lgL (g : Nat → IV) {n : Nat} (pre : List (Fin n)) : Nat → Nat := pre.foldl (fun S x => stp g S x.1) fun _ => 0
theorem lgL_snoc (g : Nat → IV) {n : Nat} (pre : List (Fin n)) (x : Fin n) : lgL g (pre ++ [x]) = stp g (lgL g pre) x.1 := by simp [lgL]
theorem foldl_max (S : Nat → Nat) : ∀ (l : List Nat) (b N : Nat), b ≤ N → (∀ to, S to ≤ N) → l.foldl (fun b to => max b (S to)) b ≤ N
  | [], _, _, h, _ => h
  | x :: l, _, N, h, hS => foldl_max S l _ N (Nat.max_le.2 ⟨h, hS x⟩) hS
theorem maxl_le {S : Nat → Nat} {N : Nat} (h : ∀ to, S to ≤ N) (l : List Nat) : maxl S l ≤ N := foldl_max S l 0 N (Nat.zero_le _) h
theorem maxl_snoc (S : Nat → Nat) (l : List Nat) (to : Nat) : maxl S (l ++ [to]) = max (maxl S l) (S to) := by simp [maxl]
theorem lgL_le (g : Nat → IV) {n : Nat} (pre : List (Fin n)) : ∀ i, lgL g pre i ≤ pre.length := by
  suffices h : ∀ (l : List (Fin n)) (S : Nat → Nat) (N : Nat), (∀ i, S i ≤ N) → ∀ i, l.foldl (fun S x => stp g S x.1) S i ≤ N + l.length by
    intro i
    have := h pre (fun _ => 0) 0 (fun _ => Nat.le_refl _) i
    unfold lgL; omega
  intro l
  induction l with
  | nil => intro S N h i; exact h i
  | cons x l ih =>
    intro S N h i
    have := ih (stp g S x.1) (N + 1) (fun i => by
      unfold stp
      split
      · have := maxl_le h (nexts (g x.1) x.1); omega
      · have := h i; omega) i
    simp only [List.foldl_cons, List.length_cons]
    omega
/-- The longest way of a program. -/
def lng (g : Nat → IV) (n : Nat) : Nat := lgL g (List.finRange n).reverse 0
/-- A row of ints. -/
def intRow (n : Nat) (S : Nat → Nat) : Array Value := ((List.range n).map fun i => Value.int .i64 (S i : Nat)).toArray
theorem intRow_at (n : Nat) (S : Nat → Nat) (i : Nat) (hi : i < n) : (intRow n S)[i]? = some (.int .i64 (S i : Nat)) := by simp [intRow, hi]
theorem intRow_set (n : Nat) (S : Nat → Nat) (x v : Nat) : (intRow n S).setIfInBounds x (.int .i64 (v : Nat)) = intRow n fun i => if i = x then v else S i := by
  apply Array.ext_getElem?
  intro i
  rw [Array.getElem?_setIfInBounds]
  by_cases h : x = i
  · subst h
    rw [if_pos rfl]
    by_cases hn : x < n
    · simp [intRow, hn]
    · simp [intRow, hn]
  · rw [if_neg h]
    by_cases hn : i < n
    · have hne : ¬ i = x := fun e => h e.symm
      simp [intRow, hn, hne]
    · simp [intRow, hn]
theorem infoInt : (Try.prog.info? 3).map (fun i => (i.zero, i.size, i.bytes)) = some (some (.int .i64 0), 1, 8) := by kernel_rfl
theorem mk_ints (n : Nat) (hn : n ≤ 4096) (W : World) : (Instr.makeSlice 32 (.int .i64 (n : Int)) (.int .i64 (n : Int))).run Try.prog W = .ok (.slice (some ⟨W.heap.size, 0, none⟩) n n) (W.alloc (.cells (intRow n fun _ => 0) 3)) := by
  obtain ⟨i0, hi0, hz0, hz1, hz2⟩ := info_parts infoInt
  have hr := run_make (P := Try.prog) W 32 3 i0 _ Try.underlying32 hi0 hz0 .i64 .i64 n n (by omega) (Int.le_refl _) (by rw [hz2]; omega) (by omega)
  rw [hz1] at hr
  simp only [Int.toNat_natCast] at hr
  have e : madeCells (Value.int .i64 0).cells (n * 1) = intRow n fun _ => 0 := by
    rw [Nat.mul_one]
    apply Array.ext_getElem?
    intro i
    by_cases hi : i < n
    · simp [madeCells, intRow, hi, Value.cells, Nat.mod_one]
    · simp [madeCells, intRow, hi, Value.cells]
  rw [e] at hr
  exact hr

/-- The places, from the last one on, k of them. -/
def dnto (n k : Nat) : List (Fin n) := (List.finRange n).reverse.take k
theorem dnto_succ {n k : Nat} (h : k < n) : dnto n (k + 1) = dnto n k ++ [⟨n - 1 - k, by omega⟩] := by
  unfold dnto
  rw [List.take_add_one]
  congr 1
  rw [List.getElem?_eq_getElem (by simpa using h), List.getElem_reverse]
  simp
theorem dnto_length {n k : Nat} (h : k ≤ n) : (dnto n k).length = k := by simp [dnto]; omega
theorem dnto_all (n : Nat) : dnto n n = (List.finRange n).reverse := by unfold dnto; rw [List.take_of_length_le (by simp)]

/-- Two blocks lie as they lay. -/
def K2 (a b : Nat) (W W' : World) : Prop := W'.heap[a]? = W.heap[a]? ∧ W'.heap[b]? = W.heap[b]?
theorem K2.refl (a b : Nat) (W : World) : K2 a b W W := ⟨rfl, rfl⟩
theorem K2.trans {a b : Nat} {U V W : World} (h : K2 a b U V) (k : K2 a b V W) : K2 a b U W := ⟨k.1.trans h.1, k.2.trans h.2⟩
theorem K2.book {a b : Nat} {w : World} (ha : a < w.heap.size) (hb : b < w.heap.size) (W : World) (l : Nat) (o o' : Obj) (hl : w.heap.size ≤ l) (_ : W.heap[l]? = some o) (_ : o.isCells = false) (_ : o.isWalk = false) : K2 a b W (W.putObj l o') :=
  ⟨World.putObj_heap_other (by omega), World.putObj_heap_other (by omega)⟩

set_option maxRecDepth 100000 in
set_option maxHeartbeats 4000000 in
theorem bw1_in (F : Fence) (n : Nat) (h8 : F.fn 59) (hro : F.round = none) (hn : 1 ≤ n) (g : Nat → IV) (m cp l Bx pb off : Nat) (hm : m ≤ 4096) (J Jx : List (Fin m) → World → Prop)
    (hY : ∀ pre x W, J pre W → pre.length < m → YieldAt F (n - 1) Try.prog l #[.int .i64 (x.1 : Int), flV (g x.1) x.1] W fun e W' =>
      (e = .returned (.bool true) ∧ J (pre ++ [x]) W' ∧ K2 Bx pb W W') ∨ (e = .returned (.bool false) ∧ Jx (pre ++ [x]) W'))
    (W : World) (h1 : W.cell? ⟨Bx, 0, none⟩ = some (.slice (some ⟨pb, off, none⟩) m cp)) (h2 : ∀ i, i < m * 6 → W.cell? ⟨pb, off + i, none⟩ = some (fcell g i)) (h0 : J [] W) :
    CallsIn F n Try.prog 59 #[.func (.yield l) #[] #[], .pointer (some ⟨Bx, 0, none⟩)] W fun e W' => (∃ v, e = .returned v) ∧
      ((∃ ys, ys = (List.finRange m).reverse ∧ J ys W') ∨ (∃ pre, True ∧ Jx pre W')) := by
  refine callsIn_of_wp Try.func59 rfl h8 ?_ hro
  simp only [Try.ntmps59, List.size_toArray, List.length_cons, List.length_nil, Nat.reduceAdd, Nat.reduceSub, Array.replicate_succ, Array.replicate_zero, List.push_toArray, List.append_toArray, List.nil_append, List.cons_append]
  have hq : IntKind.i64.wrap ((m : Int) - 1) = (m : Int) - 1 := IntWalk.i64_in _ (by omega)
  gi_wp2
  gi_loopw [3] (fun i wr => ∃ k : Nat, k ≤ m ∧ i = .int .i64 ((m : Int) - 1 - k) ∧ J (dnto m k) wr ∧ K2 Bx pb W wr)
    (fun i _ => (intOf i + 1).toNat)
  case atStart => exact ⟨0, Nat.zero_le _, by simp, by simpa [dnto] using h0, K2.refl _ _ _⟩
  case round =>
    obtain ⟨k, hk, rfl, hJs, hnx⟩ := hrel
    have g1 := (World.cell?_of_block (w := W) (a := ⟨Bx, 0, none⟩) hnx.1).trans h1
    by_cases hlt : k < m
    · obtain ⟨x, hxe⟩ : ∃ x, m - 1 - k = x := ⟨_, rfl⟩
      have hx : ((m : Int) - 1 - k) = (x : Int) := by omega
      have hxm : x < m := by omega
      have hcell : ∀ j, j < 6 → wr.cell? ⟨pb, off + (x * 6 + j), none⟩ = some ((flA (g x) x).getD j undef) := fun j hj => by
        rw [(World.cell?_of_block (w := W) (a := ⟨pb, off + (x * 6 + j), none⟩) hnx.2), h2 _ (by omega), fcell_at g _ j hj]
      obtain ⟨fn, tmps, assign, body, hy, hR⟩ := hY _ ⟨x, hxm⟩ wr hJs (by rw [dnto_length hk]; exact hlt)
      dsimp only at hy
      have HDS : Hid (dnto m (k + 1) = dnto m k ++ [⟨x, hxm⟩]) := Lib.hid (by subst hxe; exact dnto_succ hlt)
      have HXE := Lib.hid hxe
      have HE3 : Hid (Value.int .i64 ((x : Int) - 1) = Value.int .i64 ((m : Int) - 1 - ((k + 1 : Nat) : Int))) := Lib.hid (by congr 1; omega)
      rw [hx]
      have v0 : wr.cell? ⟨pb, off + x * 6, none⟩ = some (.int .u16 (g x).c) := hcell 0 (by decide)
      have v1 : wr.cell? ⟨pb, off + x * 6 + 1, none⟩ = some (.int .u8 (g x).t) := by rw [Nat.add_assoc]; exact hcell 1 (by decide)
      have v2 : wr.cell? ⟨pb, off + x * 6 + 2, none⟩ = some (.int .u8 (g x).f) := by rw [Nat.add_assoc]; exact hcell 2 (by decide)
      have v3 : wr.cell? ⟨pb, off + x * 6 + 3, none⟩ = some (.int .u32 (g x).k) := by rw [Nat.add_assoc]; exact hcell 3 (by decide)
      have v4 : wr.cell? ⟨pb, off + x * 6 + 4, none⟩ = some (.int .i64 (kd (g x))) := by rw [Nat.add_assoc]; exact hcell 4 (by decide)
      have v5 : wr.cell? ⟨pb, off + x * 6 + 5, none⟩ = some (.int .i64 x) := by rw [Nat.add_assoc]; exact hcell 5 (by decide)
      have i1 : (0 : Int) ≤ (x : Int) := by omega
      have i2 : (x : Int) < (m : Int) := by omega
      have hq2 : IntKind.i64.wrap ((x : Int) - 1) = (x : Int) - 1 := IntWalk.i64_in _ (by omega)
      clear hcell hx hxe h2 hq
      gi_wp2
      refine hR.mono ?_
      rintro e W3 (⟨rfl, hJ3, hk3⟩ | ⟨rfl, hJx3⟩)
      · gi_wp2
        go_roundw
        case rel => exact ⟨k + 1, by omega, HE3.out, by rw [HDS.out]; exact hJ3, hnx.trans hk3⟩
        case measure => simp [intOf] <;> omega
      · gi_wp2
        refine bodyPost_ret (results_none rfl _ _ _) rfl ?_
        exact ⟨⟨_, rfl⟩, .inr ⟨_, trivial, hJx3⟩⟩
    · obtain rfl : k = m := by omega
      have hz : decide (((k : Int) - 1 - k) ≥ 0) = false := by simp; omega
      gi_wp2
      go_end0
      exact ⟨⟨_, rfl⟩, .inl ⟨_, rfl, by rw [dnto_all] at hJs; exact hJs⟩⟩
end Go.Proofs.Ytmndolojfdekdaa
