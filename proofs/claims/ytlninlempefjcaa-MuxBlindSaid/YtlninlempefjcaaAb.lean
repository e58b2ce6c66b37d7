/-
  Contracts of abi.Of, hasBit, Own, Whole.
-/
import Derived.Test.YtlninlempefjcaaAa
import Derived.Laws.CopyOwn
namespace Go.Proofs.Ytlninlempefjcaa
open Go.RowKit Go.Shelf

theorem results_cellA {P : Program} {fn : Func} {p q : Tmp} {ty : TypeId} (h : fn.results = #[.cell p ty, .tmp q]) (tmps : Array Value) (w : World) (g : Nat) (t : TypeId) (cs : Array Value) (fr : Nat × Nat) (d : TypeDesc) (v : Value)
    (hp : tmps.getD p undef = .pointer (some ⟨g, 0, none⟩)) (hq : tmps.getD q undef = v) (hg : w.heap[g]? = some (.cells cs t fr))
    (hu : P.underlying ty = some d) (hd : (match d with | .struct _ | .array _ _ => true | _ => false) = true) (hi : (P.info? ty).map (·.size) = some cs.size) :
    (results fn tmps).run P w = .ok (.tuple #[.agg cs, v]) w := by
  have hp' : tmps[p]?.getD undef = .pointer (some ⟨g, 0, none⟩) := by simpa using hp
  have hq' : tmps[q]?.getD undef = v := by simpa using hq
  simp [results, h, hp', hq', asAddr, run_loadVar_row w g t ty cs fr d hg hu hd hi, Result.andThen]
theorem infoI (a : Nat) : (Try.prog.info? 88).map (·.size) = some (infA a).size := by
  show _ = some 4
  kernel_rfl

theorem oneI (a : Nat) : (infA a).all (·.oneCell') = true := by simp [Value.oneCell']

set_option maxRecDepth 100000 in
set_option maxHeartbeats 1000000 in
theorem of_err (a : Int) (w : World) (h : a < 0 ∨ 5 ≤ a) :
    Calls Try.prog 53 #[.int .i64 a] w fun e w' => e = .returned (.tuple #[.agg #[.string ⟨#[]⟩, .int .u32 0, .bool false, .int .i64 0], .int .i64 16]) ∧ Below w.heap.size w w' := by
  rcases h with h | h
  · go_enter Try.func53, Try.ntmps53
    go_wp2
    exact bodyPost_ret (v := .tuple #[.agg #[.string ⟨#[]⟩, .int .u32 0, .bool false, .int .i64 0], .int .i64 16]) (by simp [results, Try.results53, go_sem]) rfl ⟨rfl, (Below.refl _ _).alloc (Nat.le_refl _) _⟩
  · go_enter Try.func53, Try.ntmps53
    go_wp2
    exact bodyPost_ret (v := .tuple #[.agg #[.string ⟨#[]⟩, .int .u32 0, .bool false, .int .i64 0], .int .i64 16]) (by simp [results, Try.results53, go_sem]) rfl ⟨rfl, (Below.refl _ _).alloc (Nat.le_refl _) _⟩

set_option maxRecDepth 100000 in
set_option maxHeartbeats 1000000 in
theorem of_ok (a : Nat) (w : World) (h : a < 5) (a' : Int) (ea : a' = a) :
    Calls Try.prog 53 #[.int .i64 a'] w fun e w' => e = .returned (.tuple #[.agg (infA a), .int .i64 0]) ∧ Below w.heap.size w w' := by
  subst ea
  have h1 : ¬ ((a : Int) < 0) := by omega
  have h2 : (a : Int) < 5 := by omega
  have hix := ixA a h
  have HR := Lib.hid (rows_any (w.alloc (.cells #[.string ⟨#[]⟩, .int .u32 0, .bool false, .int .i64 0] 88)))
  have hrow : ∀ w1 : World, Below (w.heap.size + 1) (w.alloc (.cells #[.string ⟨#[]⟩, .int .u32 0, .bool false, .int .i64 0] 88)) w1 → w1.heap[w.heap.size]? = some (.cells #[.string ⟨#[]⟩, .int .u32 0, .bool false, .int .i64 0] 88) := fun w1 hb => (hb.block _ (by omega)).trans (heap_alloc_last w _)
  have HROW := Lib.hid hrow
  clear hrow
  go_enter Try.func53, Try.ntmps53
  go_wp2_with (first
    | (go_at_call 52; refine HR.out.mono ?_; rintro e w1 ⟨rfl, hB1⟩; have HB := Lib.hid hB1; have hz := hB1.size; clear hB1)
    | (refine wpList_store_row (by rfl) 88 _ _ (by rfl) w.heap.size (infA a) (by rfl) (by rfl) _ _ (HROW.out w1 (by have := HB.out; simpa using this)) (infoI a) (by rfl) (oneI a) ?_))
  exact bodyPost_ret (results_cellA Try.results53 _ _ w.heap.size _ _ (0, 0) _ (.int .i64 0) (by rfl) (by rfl) (setRow_heap _ _ _ _ _ _ (HROW.out w1 (by have := HB.out; simpa using this))) Try.underlying88 (by rfl) (infoI a)) rfl ⟨rfl, below_setRow ((((Below.refl _ w).alloc (Nat.le_refl _) _).trans (HB.out.mono (by simp)))) (Nat.le_refl _) _⟩

/-- Is it a call's number, with the bit? -/
def hbF (n : Nat) : Bool := bit30 n && n != 4294967295
set_option maxHeartbeats 1000000 in
theorem hasBit_any (n : Nat) (w : World) (hn : n < 4294967296) : Calls Try.prog 46 #[.int .u32 n] w fun e w' => e = .returned (.bool (hbF n)) ∧ w = w' := by
  have hb : bits .and .u32 (n : Int) 1073741824 = ((if bit30 n = true then 1073741824 else 0 : Nat) : Int) := by
    rw [← and_bit n hn]
    have := u32_and n 1073741824 (by omega) (by omega) (by omega) (by omega)
    simpa using this
  by_cases h : bit30 n = true
  · rw [if_pos h] at hb
    go_enter Try.func46, Try.ntmps46
    go_wp2
    go_ret
    refine ⟨?_, rfl⟩
    congr 2
    unfold hbF
    rw [h]
    simp [bne]
    rw [Bool.eq_iff_iff]; simp; omega
  · rw [if_neg h] at hb
    go_enter Try.func46, Try.ntmps46
    go_wp2
    go_ret
    refine ⟨?_, rfl⟩
    congr 2
    unfold hbF
    simp [h]

/-- A call's own number; its whole one. -/
def ownF (a : Int) (n : Nat) : Nat := if a = 1 then (if bit30 n = true then n - 1073741824 else n) else n
def wholeF (a : Int) (n : Nat) : Nat := if a = 1 then (if bit30 n = true then n else n + 1073741824) else n
theorem andNot_u32 (n : Nat) (hn : n < 4294967296) : bits .andNot .u32 (n : Int) 1073741824 = ((ownF 1 n : Nat) : Int) := by
  have h := u32_andNot_nat n 1073741824 hn (by decide)
  rw [show ((1073741824 : Nat) : Int) = 1073741824 from rfl] at h
  rw [h]
  unfold ownF
  rw [if_pos rfl, ← andNot_bit n hn]
theorem or_u32 (n : Nat) (hn : n < 4294967296) : bits .or .u32 (n : Int) 1073741824 = ((wholeF 1 n : Nat) : Int) := by
  have h := u32_or_nat n 1073741824 hn (by decide)
  rw [show ((1073741824 : Nat) : Int) = 1073741824 from rfl] at h
  rw [h]
  unfold wholeF
  rw [if_pos rfl, ← or_bit n hn]
set_option maxRecDepth 100000 in
set_option maxHeartbeats 1000000 in
theorem own_any (a : Int) (n : Nat) (w : World) (hn : n < 4294967296) :
    Calls Try.prog 48 #[.int .i64 a, .int .u32 n] w fun e w' => e = .returned (.int .u32 (ownF a n : Nat)) ∧ Below w.heap.size w w' := by
  by_cases h : a < 0 ∨ 5 ≤ a
  · have HO := Lib.hid (of_err a w h)
    have HR : Hid (ownF a n = n) := Lib.hid (by unfold ownF; rw [if_neg (by omega)])
    clear h
    go_enter Try.func48, Try.ntmps48
    go_wp2_with (go_at_call 53; refine HO.out.mono ?_; rintro e w1 ⟨rfl, hB1⟩; have hz := hB1.size)
    go_ret
    exact ⟨ret_int (by rw [HR.out]), hB1.alloc hz _⟩
  · obtain ⟨k, rfl⟩ := Int.eq_ofNat_of_zero_le (show 0 ≤ a by omega)
    have hk : k < 5 := by omega
    have HO := Lib.hid (of_ok k w hk k rfl)
    by_cases h1 : k = 1
    · subst h1
      have HA := Lib.hid (andNot_u32 n hn)
      have hbt : btA 1 = true := rfl
      clear h
      go_enter Try.func48, Try.ntmps48
      go_wp2_with (go_at_call 53; refine HO.out.mono ?_; rintro e w1 ⟨rfl, hB1⟩; have hz := hB1.size)
      go_ret
      exact ⟨ret_int HA.out, hB1.alloc hz _⟩
    · have HR : Hid (ownF (k : Int) n = n) := Lib.hid (by unfold ownF; rw [if_neg (by omega)])
      have hbt : btA k = false := by simp [btA, h1]
      clear h
      go_enter Try.func48, Try.ntmps48
      go_wp2_with (go_at_call 53; refine HO.out.mono ?_; rintro e w1 ⟨rfl, hB1⟩; have hz := hB1.size)
      go_ret
      exact ⟨ret_int (by rw [HR.out]), hB1.alloc hz _⟩
end Go.Proofs.Ytlninlempefjcaa
