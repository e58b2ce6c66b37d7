/-
  Contracts of the functions of package abi that go through no iterator: the rows, Of, hasBit, Own, Whole; and the iterator each itself. Bit 30 of a number.
-/
import Derived.Test.YtcmdmnnkbliggaaGreatDoorProg
import Derived.Test.YtcmdmnnkbliggaaGreatDoorP1
import Derived.RangeFuncNested
import Derived.RangeFuncBound
import Derived.RangeFuncCalls
import Derived.RangeFuncLeaves
import Derived.Shelf.Abstract
import Derived.Shelf.RegionOpen
import Derived.WalkKit
import Derived.OwnWalkIn
import Derived.TacticsInMore
import Derived.LoopNIn
import Derived.LoopIn
import Derived.BigQuiet
import Derived.Deep.QuietTactic
import Derived.Deep.WholeRow
import Derived.Lib.Hide
import Derived.Laws.CopyOwn
namespace Go.Proofs.YtcmdmnnkbliggaaGreatDoor
open Go.RowKit Go.Shelf

theorem and30 (q c p d : Nat) (hc : c < 1073741824) (hd : d < 1073741824) : (1073741824 * q + c) &&& (1073741824 * p + d) = 1073741824 * (q &&& p) + (c &&& d) := by
  have hcd : c &&& d < 2 ^ 30 := Nat.and_lt_two_pow _ (by simpa using hd)
  apply Nat.eq_of_testBit_eq
  intro j
  rw [show (1073741824 : Nat) = 2 ^ 30 from rfl] at *
  rw [Nat.testBit_and, Nat.testBit_two_pow_mul_add _ hc, Nat.testBit_two_pow_mul_add _ hd, Nat.testBit_two_pow_mul_add _ hcd]
  split <;> simp
/-- Is bit 30 of a number set? -/
def bit30 (n : Nat) : Bool := n / 1073741824 % 2 == 1
theorem cut30 (n : Nat) (hn : n < 4294967296) : ∃ q c, n = 1073741824 * q + c ∧ q < 4 ∧ c < 1073741824 := ⟨n / 1073741824, n % 1073741824, (Nat.div_add_mod _ _).symm, by omega, Nat.mod_lt _ (by decide)⟩
theorem bit30_q (q c : Nat) (hc : c < 1073741824) : bit30 (1073741824 * q + c) = (q % 2 == 1) := by
  unfold bit30
  rw [show (1073741824 * q + c) / 1073741824 = q from by omega]
theorem low30 (c : Nat) (hc : c < 1073741824) : c &&& 1073741823 = c := by
  rw [show (1073741823 : Nat) = 2 ^ 30 - 1 from rfl, Nat.and_two_pow_sub_one_eq_mod]
  omega
theorem and_bit (n : Nat) (hn : n < 4294967296) : n &&& 1073741824 = if bit30 n = true then 1073741824 else 0 := by
  obtain ⟨q, c, rfl, hq, hc⟩ := cut30 n hn
  have h := and30 q c 1 0 hc (by decide)
  rw [bit30_q q c hc]
  simp only [Nat.mul_one, Nat.add_zero, Nat.and_zero] at h
  rw [h]
  have : q = 0 ∨ q = 1 ∨ q = 2 ∨ q = 3 := by omega
  rcases this with rfl | rfl | rfl | rfl <;> rfl
theorem andNot_bit (n : Nat) (hn : n < 4294967296) : n &&& 3221225471 = if bit30 n = true then n - 1073741824 else n := by
  obtain ⟨q, c, rfl, hq, hc⟩ := cut30 n hn
  have h := and30 q c 2 1073741823 hc (by decide)
  rw [bit30_q q c hc]
  rw [low30 c hc] at h
  simp only [Nat.reduceMul, Nat.reduceAdd] at h
  rw [h]
  have : q = 0 ∨ q = 1 ∨ q = 2 ∨ q = 3 := by omega
  rcases this with rfl | rfl | rfl | rfl <;> simp <;> omega

/-- The rows, field by field. -/
def nmA : Nat → ByteArray
  | 0 => ⟨#[120, 56, 54, 95, 54, 52]⟩
  | 1 => ⟨#[120, 51, 50]⟩
  | 2 => ⟨#[105, 51, 56, 54]⟩
  | 3 => ⟨#[97, 114, 109, 54, 52]⟩
  | _ => ⟨#[114, 105, 115, 99, 118, 54, 52]⟩
def tkA : Nat → Nat
  | 0 => 3221225534
  | 1 => 3221225534
  | 2 => 1073741827
  | 3 => 3221225655
  | _ => 3221225715
def btA (a : Nat) : Bool := a == 1
def bsA (a : Nat) : Nat := if a = 2 then 32 else 64
abbrev infA (a : Nat) : Array Value := #[.string (nmA a), .int .u32 (tkA a), .bool (btA a), .int .i64 (bsA a)]
def rowsA : Array Value := #[.string (nmA 0), .int .u32 (tkA 0), .bool (btA 0), .int .i64 (bsA 0), .string (nmA 1), .int .u32 (tkA 1), .bool (btA 1), .int .i64 (bsA 1), .string (nmA 2), .int .u32 (tkA 2), .bool (btA 2), .int .i64 (bsA 2), .string (nmA 3), .int .u32 (tkA 3), .bool (btA 3), .int .i64 (bsA 3), .string (nmA 4), .int .u32 (tkA 4), .bool (btA 4), .int .i64 (bsA 4)]
theorem rowsA_at (a : Nat) (ha : a < 5) : rowsA.extract (a * 4) (a * 4 + 4) = infA a := by
  match a, ha with
  | 0, _ => rfl
  | 1, _ => rfl
  | 2, _ => rfl
  | 3, _ => rfl
  | 4, _ => rfl
  | a + 5, h => omega

set_option maxRecDepth 100000 in
set_option maxHeartbeats 1000000 in
theorem rows_w (w : World) : Calls Tryz.prog 163 #[] w fun e w' => e = .returned (.agg rowsA) ∧ w' = w.alloc (.cells rowsA 251) := by
  have hi : (Tryz.prog.info? 251).map (·.size) = some rowsA.size := by kernel_rfl
  have h1c : rowsA.all (·.oneCell') = true := by kernel_rfl
  have S1 := Lib.hid hi
  have S2 := Lib.hid h1c
  clear hi h1c
  go_enter Tryz.func163, Tryz.ntmps163
  go_wp2_with (refine wpList_store_row (by rfl) 251 _ _ (by rfl) w.heap.size rowsA (by rfl) (by rfl) _ _ (heap_alloc_last w _) S1.out (by rfl) S2.out ?_)
  rw [World.setRow_alloc_new]
  exact bodyPost_ret (results_cell_row Tryz.results163 _ _ w.heap.size _ _ (0, 0) _ (by rfl) (heap_alloc_last w _) Tryz.underlying251 (by rfl) S1.out) rfl ⟨rfl, rfl⟩
theorem rows_any (w : World) : Calls Tryz.prog 163 #[] w fun e w' => e = .returned (.agg rowsA) ∧ Below w.heap.size w w' :=
  (rows_w w).mono fun _ _ ⟨he, hw⟩ => ⟨he, by rw [hw]; exact (Below.refl _ _).alloc (Nat.le_refl _) _⟩

theorem ixA (a : Nat) (ha : a < 5) (W : World) : (Instr.index 251 (.agg rowsA) (.int .i64 a)).run Tryz.prog W = .ok (.agg (infA a)) W := by
  have h1 : (0 ≤ (a : Int) ∧ (a : Int) < 5) := by omega
  have hlt : 203 < Tryz.prog.types.size := of_decide_eq_true (by kernel_rfl)
  have hsz : (Tryz.prog.types[203]'hlt).size = 4 := by kernel_rfl
  rw [← rowsA_at a ha]
  simp [Instr.index, run_underlying Tryz.underlying251, asIntOf, h1, ha, go_sem]
end Go.Proofs.YtcmdmnnkbliggaaGreatDoor

/-
  Contracts of abi.Of, hasBit, Own, Whole.
-/
namespace Go.Proofs.YtcmdmnnkbliggaaGreatDoor
open Go.RowKit Go.Shelf

theorem results_cellA {P : Program} {fn : Func} {p q : Tmp} {ty : TypeId} (h : fn.results = #[.cell p ty, .tmp q]) (tmps : Array Value) (w : World) (g : Nat) (t : TypeId) (cs : Array Value) (fr : Nat × Nat) (d : TypeDesc) (v : Value)
    (hp : tmps.getD p undef = .pointer (some ⟨g, 0, none⟩)) (hq : tmps.getD q undef = v) (hg : w.heap[g]? = some (.cells cs t fr))
    (hu : P.underlying ty = some d) (hd : (match d with | .struct _ | .array _ _ => true | _ => false) = true) (hi : (P.info? ty).map (·.size) = some cs.size) :
    (results fn tmps).run P w = .ok (.tuple #[.agg cs, v]) w := by
  have hp' : tmps[p]?.getD undef = .pointer (some ⟨g, 0, none⟩) := by simpa using hp
  have hq' : tmps[q]?.getD undef = v := by simpa using hq
  simp [results, h, hp', hq', asAddr, run_loadVar_row w g t ty cs fr d hg hu hd hi, Result.andThen]
theorem infoI (a : Nat) : (Tryz.prog.info? 203).map (·.size) = some (infA a).size := by
  show _ = some 4
  kernel_rfl

theorem oneI (a : Nat) : (infA a).all (·.oneCell') = true := by simp [Value.oneCell']

set_option maxRecDepth 100000 in
set_option maxHeartbeats 1000000 in
theorem of_err (a : Int) (w : World) (h : a < 0 ∨ 5 ≤ a) :
    Calls Tryz.prog 154 #[.int .i64 a] w fun e w' => e = .returned (.tuple #[.agg #[.string ⟨#[]⟩, .int .u32 0, .bool false, .int .i64 0], .int .i64 16]) ∧ Below w.heap.size w w' := by
  rcases h with h | h
  · go_enter Tryz.func154, Tryz.ntmps154
    go_wp2
    exact bodyPost_ret (v := .tuple #[.agg #[.string ⟨#[]⟩, .int .u32 0, .bool false, .int .i64 0], .int .i64 16]) (by simp [results, Tryz.results154, go_sem]) rfl ⟨rfl, (Below.refl _ _).alloc (Nat.le_refl _) _⟩
  · go_enter Tryz.func154, Tryz.ntmps154
    go_wp2
    exact bodyPost_ret (v := .tuple #[.agg #[.string ⟨#[]⟩, .int .u32 0, .bool false, .int .i64 0], .int .i64 16]) (by simp [results, Tryz.results154, go_sem]) rfl ⟨rfl, (Below.refl _ _).alloc (Nat.le_refl _) _⟩

set_option maxRecDepth 100000 in
set_option maxHeartbeats 1000000 in
theorem of_ok (a : Nat) (w : World) (h : a < 5) (a' : Int) (ea : a' = a) :
    Calls Tryz.prog 154 #[.int .i64 a'] w fun e w' => e = .returned (.tuple #[.agg (infA a), .int .i64 0]) ∧ Below w.heap.size w w' := by
  subst ea
  have h1 : ¬ ((a : Int) < 0) := by omega
  have h2 : (a : Int) < 5 := by omega
  have hix := ixA a h
  have HR := Lib.hid (rows_any (w.alloc (.cells #[.string ⟨#[]⟩, .int .u32 0, .bool false, .int .i64 0] 203)))
  have hrow : ∀ w1 : World, Below (w.heap.size + 1) (w.alloc (.cells #[.string ⟨#[]⟩, .int .u32 0, .bool false, .int .i64 0] 203)) w1 → w1.heap[w.heap.size]? = some (.cells #[.string ⟨#[]⟩, .int .u32 0, .bool false, .int .i64 0] 203) := fun w1 hb => (hb.block _ (by omega)).trans (heap_alloc_last w _)
  have HROW := Lib.hid hrow
  clear hrow
  go_enter Tryz.func154, Tryz.ntmps154
  go_wp2_with (first
    | (go_at_call 163; refine HR.out.mono ?_; rintro e w1 ⟨rfl, hB1⟩; have HB := Lib.hid hB1; have hz := hB1.size; clear hB1)
    | (refine wpList_store_row (by rfl) 203 _ _ (by rfl) w.heap.size (infA a) (by rfl) (by rfl) _ _ (HROW.out w1 (by have := HB.out; simpa using this)) (infoI a) (by rfl) (oneI a) ?_))
  exact bodyPost_ret (results_cellA Tryz.results154 _ _ w.heap.size _ _ (0, 0) _ (.int .i64 0) (by rfl) (by rfl) (setRow_heap _ _ _ _ _ _ (HROW.out w1 (by have := HB.out; simpa using this))) Tryz.underlying203 (by rfl) (infoI a)) rfl ⟨rfl, below_setRow ((((Below.refl _ w).alloc (Nat.le_refl _) _).trans (HB.out.mono (by simp)))) (Nat.le_refl _) _⟩

/-- Is it a call's number, with the bit? -/
def hbF (n : Nat) : Bool := bit30 n && n != 4294967295
set_option maxHeartbeats 1000000 in
theorem hasBit_any (n : Nat) (w : World) (hn : n < 4294967296) : Calls Tryz.prog 127 #[.int .u32 n] w fun e w' => e = .returned (.bool (hbF n)) ∧ w = w' := by
  have hb : bits .and .u32 (n : Int) 1073741824 = ((if bit30 n = true then 1073741824 else 0 : Nat) : Int) := by
    rw [← and_bit n hn]
    have := u32_and n 1073741824 (by omega) (by omega) (by omega) (by omega)
    simpa using this
  by_cases h : bit30 n = true
  · rw [if_pos h] at hb
    go_enter Tryz.func127, Tryz.ntmps127
    go_wp2
    go_ret
    refine ⟨?_, rfl⟩
    congr 2
    unfold hbF
    rw [h]
    simp [bne]
    rw [Bool.eq_iff_iff]; simp; omega
  · rw [if_neg h] at hb
    go_enter Tryz.func127, Tryz.ntmps127
    go_wp2
    go_ret
    refine ⟨?_, rfl⟩
    congr 2
    unfold hbF
    simp [h]

/-- A call's own number; its whole one. -/
def ownF (a : Int) (n : Nat) : Nat := if a = 1 then (if bit30 n = true then n - 1073741824 else n) else n
theorem andNot_u32 (n : Nat) (hn : n < 4294967296) : bits .andNot .u32 (n : Int) 1073741824 = ((ownF 1 n : Nat) : Int) := by
  have h := u32_andNot_nat n 1073741824 hn (by decide)
  rw [show ((1073741824 : Nat) : Int) = 1073741824 from rfl] at h
  rw [h]
  unfold ownF
  rw [if_pos rfl, ← andNot_bit n hn]
set_option maxRecDepth 100000 in
set_option maxHeartbeats 1000000 in
theorem own_any (a : Int) (n : Nat) (w : World) (hn : n < 4294967296) :
    Calls Tryz.prog 130 #[.int .i64 a, .int .u32 n] w fun e w' => e = .returned (.int .u32 (ownF a n : Nat)) ∧ Below w.heap.size w w' := by
  by_cases h : a < 0 ∨ 5 ≤ a
  · have HO := Lib.hid (of_err a w h)
    have HR : Hid (ownF a n = n) := Lib.hid (by unfold ownF; rw [if_neg (by omega)])
    clear h
    go_enter Tryz.func130, Tryz.ntmps130
    go_wp2_with (go_at_call 154; refine HO.out.mono ?_; rintro e w1 ⟨rfl, hB1⟩; have hz := hB1.size)
    go_ret
    exact ⟨ret_int (by rw [HR.out]), hB1.alloc hz _⟩
  · obtain ⟨k, rfl⟩ := Int.eq_ofNat_of_zero_le (show 0 ≤ a by omega)
    have hk : k < 5 := by omega
    have HO := Lib.hid (of_ok k w hk k rfl)
    by_cases h1 : k = 1
    · subst h1
      have HA := Lib.hid (andNot_u32 n hn)
      have hbt : btA 1 = true := rfl
      clear h
      go_enter Tryz.func130, Tryz.ntmps130
      go_wp2_with (go_at_call 154; refine HO.out.mono ?_; rintro e w1 ⟨rfl, hB1⟩; have hz := hB1.size)
      go_ret
      exact ⟨ret_int HA.out, hB1.alloc hz _⟩
    · have HR : Hid (ownF (k : Int) n = n) := Lib.hid (by unfold ownF; rw [if_neg (by omega)])
      have hbt : btA k = false := by simp [btA, h1]
      clear h
      go_enter Tryz.func130, Tryz.ntmps130
      go_wp2_with (go_at_call 154; refine HO.out.mono ?_; rintro e w1 ⟨rfl, hB1⟩; have hz := hB1.size)
      go_ret
      exact ⟨ret_int (by rw [HR.out]), hB1.alloc hz _⟩
end Go.Proofs.YtcmdmnnkbliggaaGreatDoor

/-
  The contracts of abi.each, an iterator, and of abi.Named and abi.Select, which range over it.
-/
namespace Go.Proofs.YtcmdmnnkbliggaaGreatDoor
open Go.RowKit Go.Shelf
attribute [local go_sem] Oper.semAt_some

/-- The first k of five, in order. -/
def upAb : (k : Nat) → k ≤ 5 → List (Fin 5)
  | 0, _ => []
  | k + 1, h => upAb k (by omega) ++ [⟨k, by omega⟩]
theorem upA_length : ∀ k h, (upAb k h).length = k
  | 0, _ => rfl
  | k + 1, h => by unfold upAb; rw [List.length_append, upA_length k]; rfl
set_option maxRecDepth 100000 in
set_option maxHeartbeats 4000000 in
theorem each_in (l : Nat) (J Jx : List (Fin 5) → World → Prop)
    (hY : ∀ pre x W, J pre W → pre.length < 5 → YieldAt Fence.wide (6 - 1 - 1) Tryz.prog l #[.int .i64 (x.1 : Int), .agg (infA x.1)] W fun e W' =>
      (e = .returned (.bool true) ∧ J (pre ++ [x]) W' ∧ True) ∨ (e = .returned (.bool false) ∧ Jx (pre ++ [x]) W'))
    (hJ : ∀ pre W o, J pre W → J pre (W.alloc o))
    (W : World) (h0 : J [] W) :
    CallsIn Fence.wide (6 - 1) Tryz.prog 126 #[.func (.yield l) #[] #[]] W fun e W' => (∃ v, e = .returned v) ∧
      ((∃ ys, ys = List.finRange 5 ∧ J ys W') ∨ (∃ pre, True ∧ Jx pre W')) := by
  have hro : (Fence.wide).round = none := rfl
  refine callsIn_of_wp Tryz.func126 rfl trivial ?_ hro
  simp only [Tryz.ntmps126, List.size_toArray, List.length_cons, List.length_nil, Nat.reduceAdd, Nat.reduceSub, Array.replicate_succ, Array.replicate_zero, List.push_toArray, List.append_toArray, List.nil_append, List.cons_append]
  gi_wp2_with (refine ⟨trivial, ?_⟩; gi_at_call 163; refine (callsIn_wide.2 (rows_w _)).mono ?_; rintro e w1 ⟨rfl, rfl⟩)

  gi_loopw [5] (fun i wr => ∃ (k : Nat) (hk : k ≤ 5), i = .int .i64 (k : Nat) ∧ J (upAb k hk) wr)
    (fun i _ => 5 - (intOf i).toNat)
  case atStart => exact ⟨0, by omega, rfl, hJ _ _ _ h0⟩
  case round =>
    obtain ⟨k, hk, rfl, hJs⟩ := hrel
    by_cases hlt : k < 5
    · have hix := ixA k hlt
      have i1 : (0 : Int) ≤ (k : Int) := by omega
      have i2 : (k : Int) < 5 := by omega
      obtain ⟨fn, tmps, assign, body, hy, hR⟩ := hY (upAb k hk) ⟨k, hlt⟩ (wr.alloc (.cells (infA k) 203)) (hJ _ _ _ hJs) (by rw [upA_length]; exact hlt)
      dsimp only at hy
      gi_wp2
      refine hR.mono ?_
      rintro e W3 (⟨rfl, hJ3, _⟩ | ⟨rfl, hJx3⟩)
      · gi_wp2
        go_roundw
        case rel => exact ⟨k + 1, by omega, by go_num, hJ3⟩
        case measure => simp [intOf] <;> omega
      · gi_wp2
        refine bodyPost_ret (results_none rfl _ _ _) rfl ?_
        exact ⟨⟨_, rfl⟩, .inr ⟨_, trivial, hJx3⟩⟩
    · obtain rfl : k = 5 := by omega
      gi_wp2
      go_end0
      exact ⟨⟨_, rfl⟩, .inl ⟨_, rfl, hJs⟩⟩

theorem each_stopsA (w : World) :
    SeqStopsK Fence.wide (6 - 1) Tryz.prog 126 #[] (fun x : Fin 5 => #[.int .i64 (x.1 : Int), .agg (infA x.1)]) (fun _ _ => True) (fun ys => ys = List.finRange 5) (fun _ => True) 5 w := fun l J Jx W hW hJ _ hY h0 =>
  each_in l J Jx hY (fun pre W o h => hJ pre W _ none h (World.grownBy_alloc W o none) (fun r e => by cases e)) W h0

/-- The block b holds just these cells. -/
def RowB (w : World) (b : Nat) (cs : Array Value) (T : TypeId) : Prop := w.heap[b]? = some (.cells cs T)
section
variable {b : Nat} {w w' : World} {cs : Array Value} {T : TypeId}
theorem RowB.lt (h : RowB w b cs T) : b < w.heap.size := (Array.getElem?_eq_some_iff.1 h).1
theorem RowB.below {N : Nat} (h : RowB w b cs T) (hb : Below N w w') (hB : b < N) : RowB w' b cs T := (hb.block b hB).trans h
theorem RowB.cell (h : RowB w b cs T) (i : Nat) (v : Value) (hv : cs[i]? = some v) : w.cell? ⟨b, i, none⟩ = some v := by
  rw [cell_of_row w b i _ _ (0, 0) h, hv]
theorem RowB.frozen (h : RowB w b cs T) (i : Nat) : w.frozen? ⟨b, i, none⟩ = false := by
  have h' : w.heap[b]? = some (.cells cs T) := h
  simp [World.frozen?, h']
theorem RowB.set (h : RowB w b cs T) (i : Nat) (v : Value) : RowB (w.setCell ⟨b, i, none⟩ v) b (cs.setIfInBounds i v) T := by
  unfold RowB
  rw [setCell_eq_setRow w b i _ _ (0, 0) _ h]
  exact setRow_heap w b _ _ _ _ h
theorem RowB.setOther {g : Nat} (h : RowB w b cs T) (i : Nat) (v : Value) (hn : b ≠ g) : RowB (w.setCell ⟨g, i, none⟩ v) b cs T := (Below.heap_setCell _ _ _ _ hn).trans h
theorem RowB.kept {row : Option Nat} (h : RowB w b cs T) (hg : w.grownBy w' row) (hrow : ∀ r, row = some r → ∃ o : Obj, w.heap[r]? = some o ∧ o.isCells = false) : RowB w' b cs T :=
  (grownBy_keeps_cells hg hrow h rfl).trans h
theorem RowB.alloc (h : RowB w b cs T) (o : Obj) : RowB (w.alloc o) b cs T := (Below.heap_alloc _ _ _ h.lt).trans h
end
theorem RowB.new (w : World) (cs : Array Value) (T : TypeId) (k : Nat) (hk : k = w.heap.size) : RowB (w.alloc (.cells cs T)) k cs T := by subst hk; exact heap_alloc_last w _

end Go.Proofs.YtcmdmnnkbliggaaGreatDoor

/-
  The contract of abi.Select.
-/
namespace Go.Proofs.YtcmdmnnkbliggaaGreatDoor
open Go.RowKit Go.Shelf
attribute [local go_sem] Oper.semAt_some

/-- One row more looked at. -/
def selS (arch num : Nat) (s : Nat × Bool) (x : Fin 5) : Nat × Bool := if (tkA x.1 == arch && (!btA x.1 || hbF num)) = true then (x.1, true) else s
def selF (arch num : Nat) (l : List (Fin 5)) : Nat × Bool := l.foldl (selS arch num) (0, false)
theorem selF_snoc (arch num : Nat) (l : List (Fin 5)) (x : Fin 5) : selF arch num (l ++ [x]) = selS arch num (selF arch num l) x := by simp [selF]
theorem hasBit_wide (n : Nat) (w : World) (hn : n < 4294967296) (N l : Nat) : CallsIn (Fence.wide.inRound l) N Tryz.prog 127 #[.int .u32 n] w fun e w' => e = .returned (.bool (hbF n)) ∧ w = w' := CallsIn.inRound l (callsIn_wide.2 (hasBit_any n w hn))

set_option maxRecDepth 100000 in
set_option maxHeartbeats 4000000 in
theorem select_any (arch num : Nat) (w : World) (_ha : arch < 4294967296) (hn : num < 4294967296) :
    Calls Tryz.prog 81 #[.int .u32 arch, .int .u32 num] w fun e w' => e = .returned (.tuple #[.int .i64 (selF arch num (List.finRange 5)).1, .bool (selF arch num (List.finRange 5)).2]) ∧ Below w.heap.size w w' := by
  refine (callsIn_wide (n := 6)).1 ?_
  have hro : (Fence.wide).round = none := rfl
  refine callsIn_of_wp_marks Tryz.func81 rfl trivial ?_ hro
  simp only [Tryz.ntmps81, List.size_toArray, List.length_cons, List.length_nil, Nat.reduceAdd, Nat.reduceSub, Array.replicate_succ, Array.replicate_zero, List.push_toArray, List.append_toArray, List.nil_append, List.cons_append]
  gi_wp2
  have r1 : RowB ((((w.alloc (.cells #[.int .u32 arch] 72)).alloc (.cells #[.int .u32 num] 72)).alloc (.cells #[.int .i64 0] 3)).alloc (.cells #[.bool false] 4)) w.heap.size #[.int .u32 arch] 72 := (((RowB.new _ _ _ _ rfl).alloc _).alloc _).alloc _
  have r2 : RowB ((((w.alloc (.cells #[.int .u32 arch] 72)).alloc (.cells #[.int .u32 num] 72)).alloc (.cells #[.int .i64 0] 3)).alloc (.cells #[.bool false] 4)) (w.heap.size + 1) #[.int .u32 num] 72 := ((RowB.new _ _ _ _ (by simp)).alloc _).alloc _
  have r3 : RowB ((((w.alloc (.cells #[.int .u32 arch] 72)).alloc (.cells #[.int .u32 num] 72)).alloc (.cells #[.int .i64 0] 3)).alloc (.cells #[.bool false] 4)) (w.heap.size + 1 + 1) #[.int .i64 0] 3 := (RowB.new _ _ _ _ (by simp)).alloc _
  have r4 : RowB ((((w.alloc (.cells #[.int .u32 arch] 72)).alloc (.cells #[.int .u32 num] 72)).alloc (.cells #[.int .i64 0] 3)).alloc (.cells #[.bool false] 4)) (w.heap.size + 1 + 1 + 1) #[.bool false] 4 := RowB.new _ _ _ _ (by simp)
  have hbw : Below w.heap.size w ((((w.alloc (.cells #[.int .u32 arch] 72)).alloc (.cells #[.int .u32 num] 72)).alloc (.cells #[.int .i64 0] 3)).alloc (.cells #[.bool false] 4)) := ((((Below.refl _ _).alloc (Nat.le_refl _) _).alloc (by simp) _).alloc (by simp; omega) _).alloc (by simp; omega) _
  have hsz : ((((w.alloc (.cells #[.int .u32 arch] 72)).alloc (.cells #[.int .u32 num] 72)).alloc (.cells #[.int .i64 0] 3)).alloc (.cells #[.bool false] 4)).heap.size = w.heap.size + 4 := by simp
  generalize ((((w.alloc (.cells #[.int .u32 arch] 72)).alloc (.cells #[.int .u32 num] 72)).alloc (.cells #[.int .i64 0] 3)).alloc (.cells #[.bool false] 4)) = w3 at *
  refine wpIn_rangeFunc_ownH hro (by decide) (gf := 126) (lb := #[]) rfl trivial (enters_of Tryz.func126 (by kernel_rfl) rfl)
    (each_stopsA w3) (fun _ _ => trivial) (fun _ _ _ _ _ _ _ _ => trivial) (Below.refl _ _) (fun _ => rfl)
    (fun pre W => (RowB W w.heap.size #[.int .u32 arch] 72 ∧ RowB W (w.heap.size + 1) #[.int .u32 num] 72 ∧ RowB W (w.heap.size + 1 + 1) #[.int .i64 (selF arch num pre).1] 3 ∧ RowB W (w.heap.size + 1 + 1 + 1) #[.bool (selF arch num pre).2] 4) ∧ Below w.heap.size w W)
    (fun _ _ _ => False)
    (OwnFrom.and (Own.from (fun s A B row hs hg hr => ⟨hs.1.kept hg hr, hs.2.1.kept hg hr, hs.2.2.1.kept hg hr, hs.2.2.2.kept hg hr⟩) _) (ownFrom_below (Nat.le_refl _) (by omega)))
    (fun _ _ _ _ _ hs _ _ => hs)
    ⟨⟨r1, r2, r3, r4⟩, hbw⟩
    (fun x a' W => ∃ Bx, w3.heap.size ≤ Bx ∧ RowB W Bx (infA x.1) 203 ∧ a' = { tmps := #[.int .u32 arch, .int .u32 num, .pointer (some ⟨w.heap.size, 0, none⟩), .pointer (some ⟨w.heap.size + 1, 0, none⟩), .int .i64 0, .bool false, .pointer (some ⟨w.heap.size + 1 + 1, 0, none⟩), .pointer (some ⟨w.heap.size + 1 + 1 + 1, 0, none⟩), .int .i64 (x.1 : Int), .pointer (some ⟨Bx, 0, none⟩), .int .i64 (x.1 : Int), .agg (infA x.1), undef, undef, undef, undef, undef, undef, undef, undef, undef, undef, undef, undef, undef, undef, undef, undef], defers := [] })
    (fun x a' => Own.from (fun s A B row hs hg hr => by
      obtain ⟨Bx, h1, h2, h3⟩ := hs
      exact ⟨Bx, h1, h2.kept hg hr, h3⟩) _) ?assign ?body ?done ?stop
  case assign =>
    rintro l pre x W K ⟨⟨h1, h2, h3, h4⟩, hB⟩ hK
    have hWs : w3.heap.size ≤ W.heap.size := by have := h4.lt; omega
    gi_wp2
    exact hK _ _ ((KeepsOthers.alloc _ _).from _) trivial ⟨⟨h1.alloc _, h2.alloc _, h3.alloc _, h4.alloc _⟩, hB.alloc hB.size _⟩ ⟨W.heap.size, hWs, RowB.new _ _ _ _ rfl, rfl⟩
  case body =>
    rintro l pre x a' W hl hr ⟨⟨h1, h2, h3, h4⟩, hB⟩ ⟨Bx, hBx, hrx, rfl⟩ hlen
    have HSN := Lib.hid (selF_snoc arch num pre x)
    obtain ⟨S', hS'⟩ : ∃ S', S' = selF arch num (pre ++ [x]) := ⟨_, rfl⟩
    rw [← hS'] at HSN
    have HS' := Lib.hid hS'
    clear hS'
    generalize selF arch num pre = S at *
    have p1 := hrx.cell 1 _ rfl
    have p2 := hrx.cell 2 _ rfl
    have q0 := h1.cell 0 _ rfl
    have q1 := h2.cell 0 _ rfl
    have q2 := h3.cell 0 _ rfl
    have q3 := h4.cell 0 _ rfl
    have f1 := h3.frozen 0
    have f2 := h4.frozen 0
    cases ht : (tkA x.1 == arch)
    · have HE : Hid (S' = S) := Lib.hid (by rw [HSN.out]; unfold selS; rw [ht]; rfl)
      have ht2 : (((tkA x.1 : Nat) : Int) == (arch : Int)) = false := by
        have : tkA x.1 ≠ arch := by simpa using ht
        simp; omega
      gi_wp2
      all_goals try (rename_i h _; cases h; done)
      refine ⟨trivial, ?_⟩
      gi_wp2
      have hsn := HS'.out
      refine ⟨KeepsFrom.refl _ _, trivial, ⟨h1, h2, ?_, ?_⟩, hB⟩
      · rw [← hsn, HE.out]; exact h3
      · rw [← hsn, HE.out]; exact h4
    · have ht2 : (((tkA x.1 : Nat) : Int) == (arch : Int)) = true := by
        have : tkA x.1 = arch := by simpa using ht
        simp; omega
      cases hb : btA x.1
      · have HE : Hid (S' = (x.1, true)) := Lib.hid (by rw [HSN.out]; unfold selS; rw [ht, hb]; rfl)
        gi_wp2
        refine ⟨trivial, ?_⟩
        gi_wp2
        have hsn := HS'.out
        refine ⟨((KeepsOthers.setCell _ _ _).trans (KeepsOthers.setCell _ _ _)).from _, trivial, ⟨(h1.setOther 0 _ (by omega)).setOther 0 _ (by omega), (h2.setOther 0 _ (by omega)).setOther 0 _ (by omega), ?_, ?_⟩, (hB.setCell (by simp; omega) _).setCell (by simp; omega) _⟩
        · rw [← hsn, HE.out]; exact (h3.set 0 _).setOther 0 _ (by omega)
        · rw [← hsn, HE.out]; exact (h4.setOther 0 _ (by omega)).set 0 _
      · cases hh : hbF num
        · have HE : Hid (S' = S) := Lib.hid (by rw [HSN.out]; unfold selS; rw [ht, hb, hh]; rfl)
          have HH := Lib.hid (hasBit_wide num W hn)
          gi_wp2_with (refine ⟨trivial, ?_⟩; gi_at_call 127; refine (hasBit_wide num W hn _ _).mono ?_; rw [hh]; rintro e w' ⟨rfl, rfl⟩)
          have hsn := HS'.out
          refine ⟨KeepsFrom.refl _ _, trivial, ⟨h1, h2, ?_, ?_⟩, hB⟩
          · rw [← hsn, HE.out]; exact h3
          · rw [← hsn, HE.out]; exact h4
        · have HE : Hid (S' = (x.1, true)) := Lib.hid (by rw [HSN.out]; unfold selS; rw [ht, hb, hh]; rfl)
          gi_wp2_with (refine ⟨trivial, ?_⟩; gi_at_call 127; refine (hasBit_wide num W hn _ _).mono ?_; rw [hh]; rintro e w' ⟨rfl, rfl⟩)
          have hsn := HS'.out
          refine ⟨((KeepsOthers.setCell _ _ _).trans (KeepsOthers.setCell _ _ _)).from _, trivial, ⟨(h1.setOther 0 _ (by omega)).setOther 0 _ (by omega), (h2.setOther 0 _ (by omega)).setOther 0 _ (by omega), ?_, ?_⟩, (hB.setCell (by simp; omega) _).setCell (by simp; omega) _⟩
          · rw [← hsn, HE.out]; exact (h3.set 0 _).setOther 0 _ (by omega)
          · rw [← hsn, HE.out]; exact (h4.setOther 0 _ (by omega)).set 0 _
  case done =>
    rintro D ys W hD rfl ⟨⟨h1, h2, h3, h4⟩, hB⟩ hK
    have q1 := h3.cell 0 _ rfl
    have q2 := h4.cell 0 _ rfl
    obtain ⟨S, hS⟩ : ∃ S, S = selF arch num (List.finRange 5) := ⟨_, rfl⟩
    rw [← hS] at h3 h4 q1 q2
    have HS := Lib.hid hS
    clear hS
    have hmx : Tryz.prog.follows .mixedOrders = true := by kernel_rfl
    gi_wp2
    gi_region_o
    all_goals gi_wp2
    refine ⟨by simp, .inl ⟨_, _, rfl, run_takeDeferred (w := W.drew) hK, ?_⟩⟩
    exact ⟨_, results_tmp2 rfl _ _ _, by rw [← HS.out]; rfl, hB.drew.trans (belowK_b (w := w) (Nat.le_refl _) W.drew D _ _ (by omega) hK rfl rfl)⟩
  case stop =>
    rintro D c pre W _ _ h _
    exact h.elim

/-- A record's ABI. -/
def selA (arch num : Nat) : Nat × Bool :=
  if arch = 3221225534 then (if hbF num = true then (1, true) else (0, true)) else if arch = 1073741827 then (2, true) else if arch = 3221225655 then (3, true) else if arch = 3221225715 then (4, true) else (0, false)
theorem sel_all (arch num : Nat) : selF arch num (List.finRange 5) = selA arch num := by
  have e : List.finRange 5 = [0, 1, 2, 3, 4] := rfl
  rw [e]
  unfold selF selA
  simp only [List.foldl_cons, List.foldl_nil]
  by_cases h1 : arch = 3221225534
  · subst h1; cases h : hbF num <;> (simp only [selS, h]; rfl)
  by_cases h2 : arch = 1073741827
  · subst h2; rfl
  by_cases h3 : arch = 3221225655
  · subst h3; rfl
  by_cases h4 : arch = 3221225715
  · subst h4; rfl
  rw [if_neg h1, if_neg h2, if_neg h3, if_neg h4]
  have g1 : ∀ x : Fin 5, (tkA x.1 == arch) = false := by
    intro x
    match x with
    | 0 => exact beq_eq_false_iff_ne.2 (fun h => by have h : 3221225534 = arch := h; omega)
    | 1 => exact beq_eq_false_iff_ne.2 (fun h => by have h : 3221225534 = arch := h; omega)
    | 2 => exact beq_eq_false_iff_ne.2 (fun h => by have h : 1073741827 = arch := h; omega)
    | 3 => exact beq_eq_false_iff_ne.2 (fun h => by have h : 3221225655 = arch := h; omega)
    | 4 => exact beq_eq_false_iff_ne.2 (fun h => by have h : 3221225715 = arch := h; omega)
  have g2 : ∀ (s : Nat × Bool) (x : Fin 5), selS arch num s x = s := fun s x => by unfold selS; rw [g1 x]; rfl
  simp only [g2]
theorem select_ok (arch num : Nat) (w : World) (ha : arch < 4294967296) (hn : num < 4294967296) :
    Calls Tryz.prog 81 #[.int .u32 arch, .int .u32 num] w fun e w' => e = .returned (.tuple #[.int .i64 (selA arch num).1, .bool (selA arch num).2]) ∧ Below w.heap.size w w' := by
  have := select_any arch num w ha hn
  rwa [sel_all] at this
end Go.Proofs.YtcmdmnnkbliggaaGreatDoor

/-
  Contracts of the document's own functions of layer 8, of abi.Args, and of the chapter's example.
-/
namespace Go.Proofs.YtcmdmnnkbliggaaGreatDoor
open Go.RowKit Go.Shelf

/-- What the document says: the ABI, or -1. -/
def refA (arch num : Nat) : Int := if (selA arch num).2 = true then ((selA arch num).1 : Int) else -1
theorem bit30_int (n : Nat) : (((n : Int) / 1073741824 % 2) == 1) = bit30 n := by
  unfold bit30
  rw [Bool.eq_iff_iff]
  simp
  omega
set_option maxRecDepth 100000 in
set_option maxHeartbeats 2000000 in
theorem refSelect_any (arch num : Nat) (w : World) (ha : arch < 4294967296) (hn : num < 4294967296) :
    Calls Tryz.prog 113 #[.int .u32 arch, .int .u32 num] w fun e w' => e = .returned (.int .i64 (refA arch num)) ∧ w = w' := by
  by_cases h1 : arch = 3221225534
  · subst h1
    have hb := bit30_int num
    cases h2 : bit30 num
    · have HR : Hid (refA 3221225534 num = 0) := Lib.hid (by simp [refA, selA, hbF, h2])
      rw [h2] at hb
      go_enter Tryz.func113, Tryz.ntmps113
      go_wp2
      all_goals go_ret
      all_goals exact ⟨ret_int HR.out.symm, rfl⟩
    · rw [h2] at hb
      by_cases h3 : num = 4294967295
      · have HR : Hid (refA 3221225534 num = 0) := Lib.hid (by simp [refA, selA, hbF, h3])
        go_enter Tryz.func113, Tryz.ntmps113
        go_wp2
        all_goals go_ret
        all_goals exact ⟨ret_int HR.out.symm, rfl⟩
      · have HR : Hid (refA 3221225534 num = 1) := Lib.hid (by simp [refA, selA, hbF, h2, h3])
        have h4 : ((num : Int) != 4294967295) = true := by simp; omega
        clear h3
        go_enter Tryz.func113, Tryz.ntmps113
        go_wp2
        all_goals go_ret
        all_goals exact ⟨ret_int HR.out.symm, rfl⟩
  · by_cases h2 : arch = 1073741827
    · subst h2
      have HR : Hid (refA 1073741827 num = 2) := Lib.hid (by simp [refA, selA])
      go_enter Tryz.func113, Tryz.ntmps113
      go_wp2
      all_goals go_ret
      all_goals exact ⟨ret_int HR.out.symm, rfl⟩
    by_cases h3 : arch = 3221225655
    · subst h3
      have HR : Hid (refA 3221225655 num = 3) := Lib.hid (by simp [refA, selA])
      go_enter Tryz.func113, Tryz.ntmps113
      go_wp2
      all_goals go_ret
      all_goals exact ⟨ret_int HR.out.symm, rfl⟩
    by_cases h4 : arch = 3221225715
    · subst h4
      have HR : Hid (refA 3221225715 num = 4) := Lib.hid (by simp [refA, selA])
      go_enter Tryz.func113, Tryz.ntmps113
      go_wp2
      all_goals go_ret
      all_goals exact ⟨ret_int HR.out.symm, rfl⟩
    have HR : Hid (refA arch num = -1) := Lib.hid (by simp [refA, selA, h1, h2, h3, h4])
    have q1 : ((arch : Int) == 3221225534) = false := by simp; omega
    have q2 : ((arch : Int) == 1073741827) = false := by simp; omega
    have q3 : ((arch : Int) == 3221225655) = false := by simp; omega
    have q4 : ((arch : Int) == 3221225715) = false := by simp; omega
    clear h1 h2 h3 h4
    go_enter Tryz.func113, Tryz.ntmps113
    go_wp2
    all_goals go_ret
    all_goals exact ⟨ret_int HR.out.symm, rfl⟩
set_option maxRecDepth 100000 in
set_option maxHeartbeats 2000000 in
theorem refOwn_any (a : Int) (n : Nat) (w : World) (hn : n < 4294967296) :
    Calls Tryz.prog 116 #[.int .i64 a, .int .u32 n] w fun e w' => e = .returned (.int .u32 (ownF a n : Nat)) ∧ w = w' := by
  have hb := bit30_int n
  by_cases h1 : a = 1
  · subst h1
    cases h2 : bit30 n
    · have HR : Hid (ownF 1 n = n) := Lib.hid (by simp [ownF, h2])
      rw [h2] at hb
      go_enter Tryz.func116, Tryz.ntmps116
      go_wp2
      all_goals go_ret
      all_goals exact ⟨ret_int (by rw [HR.out]), rfl⟩
    · have HR : Hid (ownF 1 n = n - 1073741824) := Lib.hid (by simp [ownF, h2])
      have hg : 1073741824 ≤ n := by unfold bit30 at h2; simp at h2; omega
      rw [h2] at hb
      go_enter Tryz.func116, Tryz.ntmps116
      go_wp2
      all_goals go_ret
      all_goals exact ⟨ret_int (by rw [HR.out]; omega), rfl⟩
  · have HR : Hid (ownF a n = n) := Lib.hid (by simp [ownF, h1])
    have q1 : (a == 1) = false := by simpa using h1
    clear hb h1
    go_enter Tryz.func116, Tryz.ntmps116
    go_wp2
    all_goals go_ret
    all_goals exact ⟨ret_int (by rw [HR.out]), rfl⟩
/-- An argument as an ABI sees it. -/
def argF (a : Int) (n : Nat) : Nat := if a = 2 then n % 4294967296 else n
set_option maxRecDepth 100000 in
set_option maxHeartbeats 2000000 in
theorem refArg_any (a : Int) (n : Nat) (w : World) (hn : n < 18446744073709551616) :
    Calls Tryz.prog 69 #[.int .i64 a, .int .u64 n] w fun e w' => e = .returned (.int .u64 (argF a n : Nat)) ∧ w = w' := by
  by_cases h1 : a = 2
  · subst h1
    have HR : Hid (argF 2 n = n % 4294967296) := Lib.hid (by simp [argF])
    go_enter Tryz.func69, Tryz.ntmps69
    go_wp2
    all_goals go_ret
    all_goals exact ⟨ret_int (by rw [HR.out]; omega), rfl⟩
  · have HR : Hid (argF a n = n) := Lib.hid (by simp [argF, h1])
    have q1 : (a == 2) = false := by simpa using h1
    clear h1
    go_enter Tryz.func69, Tryz.ntmps69
    go_wp2
    all_goals go_ret
    all_goals exact ⟨ret_int (by rw [HR.out]), rfl⟩
end Go.Proofs.YtcmdmnnkbliggaaGreatDoor

/-
  The contract of abi.Args.
-/
namespace Go.Proofs.YtcmdmnnkbliggaaGreatDoor
open Go.RowKit Go.Shelf
set_option maxRecDepth 100000

/-- The first k arguments cut to 32 bits. -/
def mq (q : Nat → Nat) (k i : Nat) : Nat := if i < k then q i % 4294967296 else q i
def sixA (q : Nat → Nat) : Array Value := #[.int .u64 (q 0), .int .u64 (q 1), .int .u64 (q 2), .int .u64 (q 3), .int .u64 (q 4), .int .u64 (q 5)]
theorem mq_set (q : Nat → Nat) (k : Nat) (hk : k < 6) (v : Int) (hv : v = (q k % 4294967296 : Nat)) : (sixA (mq q k)).setIfInBounds k (.int .u64 v) = sixA (mq q (k + 1)) := by
  subst hv
  match k, hk with
  | 0, _ => rfl
  | 1, _ => rfl
  | 2, _ => rfl
  | 3, _ => rfl
  | 4, _ => rfl
  | 5, _ => rfl
theorem six_at (q : Nat → Nat) (k : Nat) (hk : k < 6) : (sixA q)[k]? = some (.int .u64 (q k)) := by
  match k, hk with
  | 0, _ => rfl
  | 1, _ => rfl
  | 2, _ => rfl
  | 3, _ => rfl
  | 4, _ => rfl
  | 5, _ => rfl
theorem six_one (q : Nat → Nat) : (sixA q).all (·.oneCell') = true := by simp [sixA, Value.oneCell']
theorem infoSix (q : Nat → Nat) : (Tryz.prog.info? 66).map (·.size) = some (sixA q).size := by
  show _ = some 6
  kernel_rfl
theorem ixS (q : Nat → Nat) (k : Nat) (hk : k < 6) (W : World) : (Instr.index 66 (.agg (sixA q)) (.int .i64 k)).run Tryz.prog W = .ok (.int .u64 (q k)) W := by
  have h1 : (0 ≤ (k : Int) ∧ (k : Int) < 6) := by omega
  have h2 := six_at q k hk
  have h3 : k < (sixA q).size := hk
  have h4 : (sixA q)[k]'h3 = .int .u64 (q k) := by
    rw [Array.getElem?_eq_getElem h3] at h2; exact Option.some.inj h2
  match k, hk with
  | 0, _ => rfl
  | 1, _ => rfl
  | 2, _ => rfl
  | 3, _ => rfl
  | 4, _ => rfl
  | 5, _ => rfl

set_option maxRecDepth 100000 in
set_option maxHeartbeats 4000000 in
theorem args_plain (a : Int) (n ar p : Int) (q : Nat → Nat) (w : World) (I : Array Value) (er bs : Int) (hI : ∃ s t b, I = #[.string s, .int .u32 t, .bool b, .int .i64 bs]) (hbs : (bs == 32) = false) (ha : a ≠ 2)
    (HO : Hid (∀ W, Calls Tryz.prog 154 #[.int .i64 a] W fun e w' => e = .returned (.tuple #[.agg I, .int .i64 er]) ∧ Below W.heap.size W w')) :
    Calls Tryz.prog 112 #[.int .i64 a, .agg #[.int .u32 n, .int .u32 ar, .int .u64 p, .int .u64 (q 0), .int .u64 (q 1), .int .u64 (q 2), .int .u64 (q 3), .int .u64 (q 4), .int .u64 (q 5)]] w fun e w' => e = .returned (.agg (sixA fun i => argF a (q i))) ∧ Below w.heap.size w w' := by
  obtain ⟨s, t, b, rfl⟩ := hI
  have HQ : Hid ((sixA fun i => argF a (q i)) = sixA q) := Lib.hid (by congr 1; funext i; simp [argF, ha])
  clear ha
  go_enter Tryz.func112, Tryz.ntmps112
  go_wp2_with fail
  have r4 : RowB (((w.alloc (.cells #[.int .u32 n, .int .u32 ar, .int .u64 p, .int .u64 (q 0), .int .u64 (q 1), .int .u64 (q 2), .int .u64 (q 3), .int .u64 (q 4), .int .u64 (q 5)] 78)).alloc (.cells #[.int .u64 0, .int .u64 0, .int .u64 0, .int .u64 0, .int .u64 0, .int .u64 0] 66)).alloc (.cells #[.int .u64 (q 0), .int .u64 (q 1), .int .u64 (q 2), .int .u64 (q 3), .int .u64 (q 4), .int .u64 (q 5)] 66)) (w.heap.size + 1) (sixA fun _ => 0) 66 := (RowB.new _ _ _ _ (by simp)).alloc _
  have r5 : RowB (((w.alloc (.cells #[.int .u32 n, .int .u32 ar, .int .u64 p, .int .u64 (q 0), .int .u64 (q 1), .int .u64 (q 2), .int .u64 (q 3), .int .u64 (q 4), .int .u64 (q 5)] 78)).alloc (.cells #[.int .u64 0, .int .u64 0, .int .u64 0, .int .u64 0, .int .u64 0, .int .u64 0] 66)).alloc (.cells #[.int .u64 (q 0), .int .u64 (q 1), .int .u64 (q 2), .int .u64 (q 3), .int .u64 (q 4), .int .u64 (q 5)] 66)) (w.heap.size + 1 + 1) (sixA q) 66 := RowB.new _ _ _ _ (by simp)
  have hbw : Below w.heap.size w (((w.alloc (.cells #[.int .u32 n, .int .u32 ar, .int .u64 p, .int .u64 (q 0), .int .u64 (q 1), .int .u64 (q 2), .int .u64 (q 3), .int .u64 (q 4), .int .u64 (q 5)] 78)).alloc (.cells #[.int .u64 0, .int .u64 0, .int .u64 0, .int .u64 0, .int .u64 0, .int .u64 0] 66)).alloc (.cells #[.int .u64 (q 0), .int .u64 (q 1), .int .u64 (q 2), .int .u64 (q 3), .int .u64 (q 4), .int .u64 (q 5)] 66)) := (((Below.refl _ _).alloc (Nat.le_refl _) _).alloc (by simp) _).alloc (by simp; omega) _
  have hsz : (((w.alloc (.cells #[.int .u32 n, .int .u32 ar, .int .u64 p, .int .u64 (q 0), .int .u64 (q 1), .int .u64 (q 2), .int .u64 (q 3), .int .u64 (q 4), .int .u64 (q 5)] 78)).alloc (.cells #[.int .u64 0, .int .u64 0, .int .u64 0, .int .u64 0, .int .u64 0, .int .u64 0] 66)).alloc (.cells #[.int .u64 (q 0), .int .u64 (q 1), .int .u64 (q 2), .int .u64 (q 3), .int .u64 (q 4), .int .u64 (q 5)] 66)).heap.size = w.heap.size + 3 := by simp
  generalize (((w.alloc (.cells #[.int .u32 n, .int .u32 ar, .int .u64 p, .int .u64 (q 0), .int .u64 (q 1), .int .u64 (q 2), .int .u64 (q 3), .int .u64 (q 4), .int .u64 (q 5)] 78)).alloc (.cells #[.int .u64 0, .int .u64 0, .int .u64 0, .int .u64 0, .int .u64 0, .int .u64 0] 66)).alloc (.cells #[.int .u64 (q 0), .int .u64 (q 1), .int .u64 (q 2), .int .u64 (q 3), .int .u64 (q 4), .int .u64 (q 5)] 66)) = w3 at *
  have R4 := Lib.hid r4
  have R5 := Lib.hid r5
  have HBW := Lib.hid hbw
  have HSZ := Lib.hid hsz
  clear r4 r5 hbw hsz
  refine (HO.out _).mono ?_
  rintro e w4 ⟨rfl, hB4⟩
  have hz := hB4.size
  have H4 : Hid (RowB (w4.alloc (.cells #[.string s, .int .u32 t, .bool b, .int .i64 bs] 203)) (w.heap.size + 1) (sixA fun _ => 0) 66) := Lib.hid ((R4.out.below hB4 (by rw [HSZ.out]; omega)).alloc _)
  have H5 : Hid (RowB (w4.alloc (.cells #[.string s, .int .u32 t, .bool b, .int .i64 bs] 203)) (w.heap.size + 1 + 1) (sixA q) 66) := Lib.hid ((R5.out.below hB4 (by rw [HSZ.out]; omega)).alloc _)
  have HB : Hid (Below w.heap.size w (w4.alloc (.cells #[.string s, .int .u32 t, .bool b, .int .i64 bs] 203))) := Lib.hid ((HBW.out.trans (hB4.mono (by rw [HSZ.out]; omega))).alloc (by have := HSZ.out; omega) _)
  clear hB4
  go_wp2_with (first
    | (refine wpList_load_row (by rfl) 66 _ (by rfl) (w.heap.size + 1 + 1) (by rfl) _ (sixA q) (0, 0) _ H5.out Tryz.underlying66 (by rfl) (infoSix _) ?_)
    | (refine wpList_store_row (by rfl) 66 _ _ (by rfl) (w.heap.size + 1) (sixA q) (by rfl) (by rfl) _ _ H4.out (infoSix _) (by rfl) (six_one _) ?_))
  exact bodyPost_ret (results_cell_row Tryz.results112 _ _ (w.heap.size + 1) _ _ (0, 0) _ (by rfl) (setRow_heap _ _ _ _ _ _ H4.out) Tryz.underlying66 (by rfl) (infoSix _)) rfl ⟨by rw [HQ.out], below_setRow HB.out (by omega) _⟩

set_option maxRecDepth 100000 in
set_option maxHeartbeats 4000000 in
theorem args_two (n ar p : Int) (q : Nat → Nat) (w : World) (hq : ∀ i, i < 6 → q i < 18446744073709551616) :
    Calls Tryz.prog 112 #[.int .i64 2, .agg #[.int .u32 n, .int .u32 ar, .int .u64 p, .int .u64 (q 0), .int .u64 (q 1), .int .u64 (q 2), .int .u64 (q 3), .int .u64 (q 4), .int .u64 (q 5)]] w fun e w' => e = .returned (.agg (sixA fun i => argF 2 (q i))) ∧ Below w.heap.size w w' := by
  have HQ : Hid ((sixA fun i => argF 2 (q i)) = sixA (mq q 6)) := Lib.hid (by simp [argF, mq, sixA])
  have HQL := Lib.hid hq
  clear hq
  go_enter Tryz.func112, Tryz.ntmps112
  go_wp2_with fail
  have r4 : RowB (((w.alloc (.cells #[.int .u32 n, .int .u32 ar, .int .u64 p, .int .u64 (q 0), .int .u64 (q 1), .int .u64 (q 2), .int .u64 (q 3), .int .u64 (q 4), .int .u64 (q 5)] 78)).alloc (.cells #[.int .u64 0, .int .u64 0, .int .u64 0, .int .u64 0, .int .u64 0, .int .u64 0] 66)).alloc (.cells #[.int .u64 (q 0), .int .u64 (q 1), .int .u64 (q 2), .int .u64 (q 3), .int .u64 (q 4), .int .u64 (q 5)] 66)) (w.heap.size + 1) (sixA fun _ => 0) 66 := (RowB.new _ _ _ _ (by simp)).alloc _
  have r5 : RowB (((w.alloc (.cells #[.int .u32 n, .int .u32 ar, .int .u64 p, .int .u64 (q 0), .int .u64 (q 1), .int .u64 (q 2), .int .u64 (q 3), .int .u64 (q 4), .int .u64 (q 5)] 78)).alloc (.cells #[.int .u64 0, .int .u64 0, .int .u64 0, .int .u64 0, .int .u64 0, .int .u64 0] 66)).alloc (.cells #[.int .u64 (q 0), .int .u64 (q 1), .int .u64 (q 2), .int .u64 (q 3), .int .u64 (q 4), .int .u64 (q 5)] 66)) (w.heap.size + 1 + 1) (sixA q) 66 := RowB.new _ _ _ _ (by simp)
  have hbw : Below w.heap.size w (((w.alloc (.cells #[.int .u32 n, .int .u32 ar, .int .u64 p, .int .u64 (q 0), .int .u64 (q 1), .int .u64 (q 2), .int .u64 (q 3), .int .u64 (q 4), .int .u64 (q 5)] 78)).alloc (.cells #[.int .u64 0, .int .u64 0, .int .u64 0, .int .u64 0, .int .u64 0, .int .u64 0] 66)).alloc (.cells #[.int .u64 (q 0), .int .u64 (q 1), .int .u64 (q 2), .int .u64 (q 3), .int .u64 (q 4), .int .u64 (q 5)] 66)) := (((Below.refl _ _).alloc (Nat.le_refl _) _).alloc (by simp) _).alloc (by simp; omega) _
  have hsz : (((w.alloc (.cells #[.int .u32 n, .int .u32 ar, .int .u64 p, .int .u64 (q 0), .int .u64 (q 1), .int .u64 (q 2), .int .u64 (q 3), .int .u64 (q 4), .int .u64 (q 5)] 78)).alloc (.cells #[.int .u64 0, .int .u64 0, .int .u64 0, .int .u64 0, .int .u64 0, .int .u64 0] 66)).alloc (.cells #[.int .u64 (q 0), .int .u64 (q 1), .int .u64 (q 2), .int .u64 (q 3), .int .u64 (q 4), .int .u64 (q 5)] 66)).heap.size = w.heap.size + 3 := by simp
  generalize (((w.alloc (.cells #[.int .u32 n, .int .u32 ar, .int .u64 p, .int .u64 (q 0), .int .u64 (q 1), .int .u64 (q 2), .int .u64 (q 3), .int .u64 (q 4), .int .u64 (q 5)] 78)).alloc (.cells #[.int .u64 0, .int .u64 0, .int .u64 0, .int .u64 0, .int .u64 0, .int .u64 0] 66)).alloc (.cells #[.int .u64 (q 0), .int .u64 (q 1), .int .u64 (q 2), .int .u64 (q 3), .int .u64 (q 4), .int .u64 (q 5)] 66)) = w3 at *
  have R4 := Lib.hid r4
  have R5 := Lib.hid r5
  have HBW := Lib.hid hbw
  have HSZ := Lib.hid hsz
  clear r4 r5 hbw hsz
  refine (of_ok 2 _ (by decide) 2 rfl).mono ?_
  rintro e w4 ⟨rfl, hB4⟩
  have hz := hB4.size
  have H4 : Hid (RowB (w4.alloc (.cells (infA 2) 203)) (w.heap.size + 1) (sixA fun _ => 0) 66) := Lib.hid ((R4.out.below hB4 (by rw [HSZ.out]; omega)).alloc _)
  have H5 : Hid (RowB (w4.alloc (.cells (infA 2) 203)) (w.heap.size + 1 + 1) (sixA q) 66) := Lib.hid ((R5.out.below hB4 (by rw [HSZ.out]; omega)).alloc _)
  have HB : Hid (Below w.heap.size w (w4.alloc (.cells (infA 2) 203))) := Lib.hid ((HBW.out.trans (hB4.mono (by rw [HSZ.out]; omega))).alloc (by have := HSZ.out; omega) _)
  have hbs : bsA 2 = 32 := rfl
  clear hB4
  go_wp2_with (refine wpList_load_row (by rfl) 66 _ (by rfl) (w.heap.size + 1 + 1) (by rfl) _ (sixA q) (0, 0) _ H5.out Tryz.underlying66 (by rfl) (infoSix _) ?_)
  go_loopw [21] (fun i wr => ∃ k : Nat, k ≤ 6 ∧ i = .int .i64 k ∧ RowB wr (w.heap.size + 1 + 1) (sixA (mq q k)) 66 ∧ RowB wr (w.heap.size + 1) (sixA fun _ => 0) 66 ∧ Below w.heap.size w wr)
    (fun i _ => 6 - (intOf i).toNat)
  case atStart => exact ⟨0, by omega, rfl, H5.out, H4.out, HB.out⟩
  case round =>
    obtain ⟨k, hk, rfl, hr5, hr4, hB⟩ := hrel
    by_cases hlt : k < 6
    · have hix := ixS q k hlt
      have i1 : (0 : Int) ≤ (k : Int) := by omega
      have i2 : (k : Int) < 6 := by omega
      have hql := HQL.out k hlt
      have c5 := hr5.cell k _ (six_at (mq q k) k hlt)
      have f5 := hr5.frozen k
      have HS := Lib.hid (mq_set q k hlt)
      have HR5 := Lib.hid hr5
      clear hr5
      go_wp2
      refine ⟨⟨k + 1, by omega, by go_num, ?_, hr4.setOther k _ (by omega), hB.setCell (by simp; omega) _⟩, by simp [intOf]; omega⟩
      rw [← HS.out _ (by first | rfl | omega | (simp [IntKind.wrap_u32, IntKind.wrap_u64]; omega))]
      exact HR5.out.set k _
    · obtain rfl : k = 6 := by omega
      have H5 := Lib.hid hr5
      have H4 := Lib.hid hr4
      have HB := Lib.hid hB
      clear hr5 hr4 hB
      go_wp2_with (first
        | (refine wpList_load_row (by rfl) 66 _ (by rfl) (w.heap.size + 1 + 1) (by rfl) _ (sixA (mq q 6)) (0, 0) _ H5.out Tryz.underlying66 (by rfl) (infoSix _) ?_)
        | (refine wpList_store_row (by rfl) 66 _ _ (by rfl) (w.heap.size + 1) (sixA (mq q 6)) (by rfl) (by rfl) _ _ H4.out (infoSix _) (by rfl) (six_one _) ?_))
      exact bodyPost_ret (results_cell_row Tryz.results112 _ _ (w.heap.size + 1) _ _ (0, 0) _ (by rfl) (setRow_heap _ _ _ _ _ _ H4.out) Tryz.underlying66 (by rfl) (infoSix _)) rfl ⟨by rw [HQ.out], below_setRow HB.out (by omega) _⟩

theorem args_any (a : Int) (n ar p : Int) (q : Nat → Nat) (w : World) (hq : ∀ i, i < 6 → q i < 18446744073709551616) :
    Calls Tryz.prog 112 #[.int .i64 a, .agg #[.int .u32 n, .int .u32 ar, .int .u64 p, .int .u64 (q 0), .int .u64 (q 1), .int .u64 (q 2), .int .u64 (q 3), .int .u64 (q 4), .int .u64 (q 5)]] w fun e w' => e = .returned (.agg (sixA fun i => argF a (q i))) ∧ Below w.heap.size w w' := by
  by_cases h : a < 0 ∨ 5 ≤ a
  · exact args_plain a n ar p q w _ 16 0 ⟨_, _, _, rfl⟩ rfl (by omega) (Lib.hid fun W => of_err a W h)
  · obtain ⟨k, rfl⟩ := Int.eq_ofNat_of_zero_le (show 0 ≤ a by omega)
    by_cases h2 : k = 2
    · subst h2; exact args_two n ar p q w hq
    · exact args_plain k n ar p q w _ 0 (bsA k) ⟨_, _, _, rfl⟩ (by simp [bsA, h2]) (by omega) (Lib.hid fun W => of_ok k W (by omega) k rfl)
end Go.Proofs.YtcmdmnnkbliggaaGreatDoor
