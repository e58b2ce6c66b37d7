/-
  The contract of abi.Args.
-/
import Derived.Test.YtlninlempefjcaaAe
namespace Go.Proofs.Ytlninlempefjcaa
open Go.RowKit Go.Shelf

/-- The first k arguments cut to 32 bits. -/
def mq (q : Nat → Nat) (k i : Nat) : Nat := if i < k then q i % 4294967296 else q i
def sixA (q : Nat → Nat) : Array Value := #[.int .u64 (q 0), .int .u64 (q 1), .int .u64 (q 2), .int .u64 (q 3), .int .u64 (q 4), .int .u64 (q 5)]
theorem mq_set (q : Nat → Nat) (k : Nat) (hk : k < 6) (v : Int) (hv : v = (q k % 4294967296 : Nat)) : (sixA (mq q k)).setIfInBounds k (.int .u64 v) = sixA (mq q (k + 1)) := by
  subst hv
  match k, hk with
  | 0, _ => rfl
  | 1, _ => rfl
  | 2, _ => rfl
  | 3, _ => rfl
  | 4, _ => rfl
  | 5, _ => rfl
theorem mq_none (q : Nat → Nat) : mq q 0 = q := rfl
theorem six_at (q : Nat → Nat) (k : Nat) (hk : k < 6) : (sixA q)[k]? = some (.int .u64 (q k)) := by
  match k, hk with
  | 0, _ => rfl
  | 1, _ => rfl
  | 2, _ => rfl
  | 3, _ => rfl
  | 4, _ => rfl
  | 5, _ => rfl
theorem six_one (q : Nat → Nat) : (sixA q).all (·.oneCell') = true := by simp [sixA, Value.oneCell']
theorem infoS (q : Nat → Nat) : (Try.prog.info? 49).map (·.size) = some (sixA q).size := by
  show _ = some 6
  kernel_rfl
theorem ixS (q : Nat → Nat) (k : Nat) (hk : k < 6) (W : World) : (Instr.index 49 (.agg (sixA q)) (.int .i64 k)).run Try.prog W = .ok (.int .u64 (q k)) W := by
  have h1 : (0 ≤ (k : Int) ∧ (k : Int) < 6) := by omega
  have h2 := six_at q k hk
  have h3 : k < (sixA q).size := hk
  have h4 : (sixA q)[k]'h3 = .int .u64 (q k) := by
    rw [Array.getElem?_eq_getElem h3] at h2; exact Option.some.inj h2
  match k, hk with
  | 0, _ => rfl
  | 1, _ => rfl
  | 2, _ => rfl
  | 3, _ => rfl
  | 4, _ => rfl
  | 5, _ => rfl

set_option maxRecDepth 100000 in
set_option maxHeartbeats 4000000 in
theorem args_plain (a : Int) (n ar p : Int) (q : Nat → Nat) (w : World) (I : Array Value) (er bs : Int) (hI : ∃ s t b, I = #[.string s, .int .u32 t, .bool b, .int .i64 bs]) (hbs : (bs == 32) = false) (ha : a ≠ 2)
    (HO : Hid (∀ W, Calls Try.prog 53 #[.int .i64 a] W fun e w' => e = .returned (.tuple #[.agg I, .int .i64 er]) ∧ Below W.heap.size W w')) :
    Calls Try.prog 50 #[.int .i64 a, .agg #[.int .u32 n, .int .u32 ar, .int .u64 p, .int .u64 (q 0), .int .u64 (q 1), .int .u64 (q 2), .int .u64 (q 3), .int .u64 (q 4), .int .u64 (q 5)]] w fun e w' => e = .returned (.agg (sixA fun i => argF a (q i))) ∧ Below w.heap.size w w' := by
  obtain ⟨s, t, b, rfl⟩ := hI
  have HQ : Hid ((sixA fun i => argF a (q i)) = sixA q) := Lib.hid (by congr 1; funext i; simp [argF, ha])
  clear ha
  go_enter Try.func50, Try.ntmps50
  go_wp2_with fail
  have r4 : RowB (((w.alloc (.cells #[.int .u32 n, .int .u32 ar, .int .u64 p, .int .u64 (q 0), .int .u64 (q 1), .int .u64 (q 2), .int .u64 (q 3), .int .u64 (q 4), .int .u64 (q 5)] 55)).alloc (.cells #[.int .u64 0, .int .u64 0, .int .u64 0, .int .u64 0, .int .u64 0, .int .u64 0] 49)).alloc (.cells #[.int .u64 (q 0), .int .u64 (q 1), .int .u64 (q 2), .int .u64 (q 3), .int .u64 (q 4), .int .u64 (q 5)] 49)) (w.heap.size + 1) (sixA fun _ => 0) 49 := (RowB.new _ _ _ _ (by simp)).alloc _
  have r5 : RowB (((w.alloc (.cells #[.int .u32 n, .int .u32 ar, .int .u64 p, .int .u64 (q 0), .int .u64 (q 1), .int .u64 (q 2), .int .u64 (q 3), .int .u64 (q 4), .int .u64 (q 5)] 55)).alloc (.cells #[.int .u64 0, .int .u64 0, .int .u64 0, .int .u64 0, .int .u64 0, .int .u64 0] 49)).alloc (.cells #[.int .u64 (q 0), .int .u64 (q 1), .int .u64 (q 2), .int .u64 (q 3), .int .u64 (q 4), .int .u64 (q 5)] 49)) (w.heap.size + 1 + 1) (sixA q) 49 := RowB.new _ _ _ _ (by simp)
  have hbw : Below w.heap.size w (((w.alloc (.cells #[.int .u32 n, .int .u32 ar, .int .u64 p, .int .u64 (q 0), .int .u64 (q 1), .int .u64 (q 2), .int .u64 (q 3), .int .u64 (q 4), .int .u64 (q 5)] 55)).alloc (.cells #[.int .u64 0, .int .u64 0, .int .u64 0, .int .u64 0, .int .u64 0, .int .u64 0] 49)).alloc (.cells #[.int .u64 (q 0), .int .u64 (q 1), .int .u64 (q 2), .int .u64 (q 3), .int .u64 (q 4), .int .u64 (q 5)] 49)) := (((Below.refl _ _).alloc (Nat.le_refl _) _).alloc (by simp) _).alloc (by simp; omega) _
  have hsz : (((w.alloc (.cells #[.int .u32 n, .int .u32 ar, .int .u64 p, .int .u64 (q 0), .int .u64 (q 1), .int .u64 (q 2), .int .u64 (q 3), .int .u64 (q 4), .int .u64 (q 5)] 55)).alloc (.cells #[.int .u64 0, .int .u64 0, .int .u64 0, .int .u64 0, .int .u64 0, .int .u64 0] 49)).alloc (.cells #[.int .u64 (q 0), .int .u64 (q 1), .int .u64 (q 2), .int .u64 (q 3), .int .u64 (q 4), .int .u64 (q 5)] 49)).heap.size = w.heap.size + 3 := by simp
  generalize (((w.alloc (.cells #[.int .u32 n, .int .u32 ar, .int .u64 p, .int .u64 (q 0), .int .u64 (q 1), .int .u64 (q 2), .int .u64 (q 3), .int .u64 (q 4), .int .u64 (q 5)] 55)).alloc (.cells #[.int .u64 0, .int .u64 0, .int .u64 0, .int .u64 0, .int .u64 0, .int .u64 0] 49)).alloc (.cells #[.int .u64 (q 0), .int .u64 (q 1), .int .u64 (q 2), .int .u64 (q 3), .int .u64 (q 4), .int .u64 (q 5)] 49)) = w3 at *
  have R4 := Lib.hid r4
  have R5 := Lib.hid r5
  have HBW := Lib.hid hbw
  have HSZ := Lib.hid hsz
  clear r4 r5 hbw hsz
  refine (HO.out _).mono ?_
  rintro e w4 ⟨rfl, hB4⟩
  have hz := hB4.size
  have H4 : Hid (RowB (w4.alloc (.cells #[.string s, .int .u32 t, .bool b, .int .i64 bs] 88)) (w.heap.size + 1) (sixA fun _ => 0) 49) := Lib.hid ((R4.out.below hB4 (by rw [HSZ.out]; omega)).alloc _)
  have H5 : Hid (RowB (w4.alloc (.cells #[.string s, .int .u32 t, .bool b, .int .i64 bs] 88)) (w.heap.size + 1 + 1) (sixA q) 49) := Lib.hid ((R5.out.below hB4 (by rw [HSZ.out]; omega)).alloc _)
  have HB : Hid (Below w.heap.size w (w4.alloc (.cells #[.string s, .int .u32 t, .bool b, .int .i64 bs] 88))) := Lib.hid ((HBW.out.trans (hB4.mono (by rw [HSZ.out]; omega))).alloc (by have := HSZ.out; omega) _)
  clear hB4
  go_wp2_with (first
    | (refine wpList_load_row (by rfl) 49 _ (by rfl) (w.heap.size + 1 + 1) (by rfl) _ (sixA q) (0, 0) _ H5.out Try.underlying49 (by rfl) (infoS _) ?_)
    | (refine wpList_store_row (by rfl) 49 _ _ (by rfl) (w.heap.size + 1) (sixA q) (by rfl) (by rfl) _ _ H4.out (infoS _) (by rfl) (six_one _) ?_))
  exact bodyPost_ret (results_cell_row Try.results50 _ _ (w.heap.size + 1) _ _ (0, 0) _ (by rfl) (setRow_heap _ _ _ _ _ _ H4.out) Try.underlying49 (by rfl) (infoS _)) rfl ⟨by rw [HQ.out], below_setRow HB.out (by omega) _⟩

set_option maxRecDepth 100000 in
set_option maxHeartbeats 4000000 in
theorem args_two (n ar p : Int) (q : Nat → Nat) (w : World) (hq : ∀ i, i < 6 → q i < 18446744073709551616) :
    Calls Try.prog 50 #[.int .i64 2, .agg #[.int .u32 n, .int .u32 ar, .int .u64 p, .int .u64 (q 0), .int .u64 (q 1), .int .u64 (q 2), .int .u64 (q 3), .int .u64 (q 4), .int .u64 (q 5)]] w fun e w' => e = .returned (.agg (sixA fun i => argF 2 (q i))) ∧ Below w.heap.size w w' := by
  have HQ : Hid ((sixA fun i => argF 2 (q i)) = sixA (mq q 6)) := Lib.hid (by simp [argF, mq, sixA])
  have HQL := Lib.hid hq
  clear hq
  go_enter Try.func50, Try.ntmps50
  go_wp2_with fail
  have r4 : RowB (((w.alloc (.cells #[.int .u32 n, .int .u32 ar, .int .u64 p, .int .u64 (q 0), .int .u64 (q 1), .int .u64 (q 2), .int .u64 (q 3), .int .u64 (q 4), .int .u64 (q 5)] 55)).alloc (.cells #[.int .u64 0, .int .u64 0, .int .u64 0, .int .u64 0, .int .u64 0, .int .u64 0] 49)).alloc (.cells #[.int .u64 (q 0), .int .u64 (q 1), .int .u64 (q 2), .int .u64 (q 3), .int .u64 (q 4), .int .u64 (q 5)] 49)) (w.heap.size + 1) (sixA fun _ => 0) 49 := (RowB.new _ _ _ _ (by simp)).alloc _
  have r5 : RowB (((w.alloc (.cells #[.int .u32 n, .int .u32 ar, .int .u64 p, .int .u64 (q 0), .int .u64 (q 1), .int .u64 (q 2), .int .u64 (q 3), .int .u64 (q 4), .int .u64 (q 5)] 55)).alloc (.cells #[.int .u64 0, .int .u64 0, .int .u64 0, .int .u64 0, .int .u64 0, .int .u64 0] 49)).alloc (.cells #[.int .u64 (q 0), .int .u64 (q 1), .int .u64 (q 2), .int .u64 (q 3), .int .u64 (q 4), .int .u64 (q 5)] 49)) (w.heap.size + 1 + 1) (sixA q) 49 := RowB.new _ _ _ _ (by simp)
  have hbw : Below w.heap.size w (((w.alloc (.cells #[.int .u32 n, .int .u32 ar, .int .u64 p, .int .u64 (q 0), .int .u64 (q 1), .int .u64 (q 2), .int .u64 (q 3), .int .u64 (q 4), .int .u64 (q 5)] 55)).alloc (.cells #[.int .u64 0, .int .u64 0, .int .u64 0, .int .u64 0, .int .u64 0, .int .u64 0] 49)).alloc (.cells #[.int .u64 (q 0), .int .u64 (q 1), .int .u64 (q 2), .int .u64 (q 3), .int .u64 (q 4), .int .u64 (q 5)] 49)) := (((Below.refl _ _).alloc (Nat.le_refl _) _).alloc (by simp) _).alloc (by simp; omega) _
  have hsz : (((w.alloc (.cells #[.int .u32 n, .int .u32 ar, .int .u64 p, .int .u64 (q 0), .int .u64 (q 1), .int .u64 (q 2), .int .u64 (q 3), .int .u64 (q 4), .int .u64 (q 5)] 55)).alloc (.cells #[.int .u64 0, .int .u64 0, .int .u64 0, .int .u64 0, .int .u64 0, .int .u64 0] 49)).alloc (.cells #[.int .u64 (q 0), .int .u64 (q 1), .int .u64 (q 2), .int .u64 (q 3), .int .u64 (q 4), .int .u64 (q 5)] 49)).heap.size = w.heap.size + 3 := by simp
  generalize (((w.alloc (.cells #[.int .u32 n, .int .u32 ar, .int .u64 p, .int .u64 (q 0), .int .u64 (q 1), .int .u64 (q 2), .int .u64 (q 3), .int .u64 (q 4), .int .u64 (q 5)] 55)).alloc (.cells #[.int .u64 0, .int .u64 0, .int .u64 0, .int .u64 0, .int .u64 0, .int .u64 0] 49)).alloc (.cells #[.int .u64 (q 0), .int .u64 (q 1), .int .u64 (q 2), .int .u64 (q 3), .int .u64 (q 4), .int .u64 (q 5)] 49)) = w3 at *
  have R4 := Lib.hid r4
  have R5 := Lib.hid r5
  have HBW := Lib.hid hbw
  have HSZ := Lib.hid hsz
  clear r4 r5 hbw hsz
  refine (of_ok 2 _ (by decide) 2 rfl).mono ?_
  rintro e w4 ⟨rfl, hB4⟩
  have hz := hB4.size
  have H4 : Hid (RowB (w4.alloc (.cells (infA 2) 88)) (w.heap.size + 1) (sixA fun _ => 0) 49) := Lib.hid ((R4.out.below hB4 (by rw [HSZ.out]; omega)).alloc _)
  have H5 : Hid (RowB (w4.alloc (.cells (infA 2) 88)) (w.heap.size + 1 + 1) (sixA q) 49) := Lib.hid ((R5.out.below hB4 (by rw [HSZ.out]; omega)).alloc _)
  have HB : Hid (Below w.heap.size w (w4.alloc (.cells (infA 2) 88))) := Lib.hid ((HBW.out.trans (hB4.mono (by rw [HSZ.out]; omega))).alloc (by have := HSZ.out; omega) _)
  have hbs : bsA 2 = 32 := rfl
  clear hB4
  go_wp2_with (refine wpList_load_row (by rfl) 49 _ (by rfl) (w.heap.size + 1 + 1) (by rfl) _ (sixA q) (0, 0) _ H5.out Try.underlying49 (by rfl) (infoS _) ?_)
  go_loopw [21] (fun i wr => ∃ k : Nat, k ≤ 6 ∧ i = .int .i64 k ∧ RowB wr (w.heap.size + 1 + 1) (sixA (mq q k)) 49 ∧ RowB wr (w.heap.size + 1) (sixA fun _ => 0) 49 ∧ Below w.heap.size w wr)
    (fun i _ => 6 - (intOf i).toNat)
  case atStart => exact ⟨0, by omega, rfl, H5.out, H4.out, HB.out⟩
  case round =>
    obtain ⟨k, hk, rfl, hr5, hr4, hB⟩ := hrel
    by_cases hlt : k < 6
    · have hix := ixS q k hlt
      have i1 : (0 : Int) ≤ (k : Int) := by omega
      have i2 : (k : Int) < 6 := by omega
      have hql := HQL.out k hlt
      have c5 := hr5.cell k _ (six_at (mq q k) k hlt)
      have f5 := hr5.frozen k
      have HS := Lib.hid (mq_set q k hlt)
      have HR5 := Lib.hid hr5
      clear hr5
      go_wp2
      refine ⟨⟨k + 1, by omega, by go_num, ?_, hr4.setOther k _ (by omega), hB.setCell (by simp; omega) _⟩, by simp [intOf]; omega⟩
      rw [← HS.out _ (by first | rfl | omega | (simp [IntKind.wrap_u32, IntKind.wrap_u64]; omega))]
      exact HR5.out.set k _
    · obtain rfl : k = 6 := by omega
      have H5 := Lib.hid hr5
      have H4 := Lib.hid hr4
      have HB := Lib.hid hB
      clear hr5 hr4 hB
      go_wp2_with (first
        | (refine wpList_load_row (by rfl) 49 _ (by rfl) (w.heap.size + 1 + 1) (by rfl) _ (sixA (mq q 6)) (0, 0) _ H5.out Try.underlying49 (by rfl) (infoS _) ?_)
        | (refine wpList_store_row (by rfl) 49 _ _ (by rfl) (w.heap.size + 1) (sixA (mq q 6)) (by rfl) (by rfl) _ _ H4.out (infoS _) (by rfl) (six_one _) ?_))
      exact bodyPost_ret (results_cell_row Try.results50 _ _ (w.heap.size + 1) _ _ (0, 0) _ (by rfl) (setRow_heap _ _ _ _ _ _ H4.out) Try.underlying49 (by rfl) (infoS _)) rfl ⟨by rw [HQ.out], below_setRow HB.out (by omega) _⟩

theorem args_any (a : Int) (n ar p : Int) (q : Nat → Nat) (w : World) (hq : ∀ i, i < 6 → q i < 18446744073709551616) :
    Calls Try.prog 50 #[.int .i64 a, .agg #[.int .u32 n, .int .u32 ar, .int .u64 p, .int .u64 (q 0), .int .u64 (q 1), .int .u64 (q 2), .int .u64 (q 3), .int .u64 (q 4), .int .u64 (q 5)]] w fun e w' => e = .returned (.agg (sixA fun i => argF a (q i))) ∧ Below w.heap.size w w' := by
  by_cases h : a < 0 ∨ 5 ≤ a
  · exact args_plain a n ar p q w _ 16 0 ⟨_, _, _, rfl⟩ rfl (by omega) (Lib.hid fun W => of_err a W h)
  · obtain ⟨k, rfl⟩ := Int.eq_ofNat_of_zero_le (show 0 ≤ a by omega)
    by_cases h2 : k = 2
    · subst h2; exact args_two n ar p q w hq
    · exact args_plain k n ar p q w _ 0 (bsA k) ⟨_, _, _, rfl⟩ (by simp [bsA, h2]) (by omega) (Lib.hid fun W => of_ok k W (by omega) k rfl)
end Go.Proofs.Ytlninlempefjcaa
