/-
  The contract of the closure of flow.reached: a place that was met stays as it is; another one is met, and sent.
-/
import Derived.Test.YtmndolojfdekdaaFa
import Derived.Test.YtmndolojfdekdaaCha
namespace Go.Proofs.Ytmndolojfdekdaa
open Go.RowKit Go.Conc

/-- The queue in a channel. -/
def Chn (w : World) (c n : Nat) (g : Nat → IV) (q : List Nat) : Prop := ∃ s r, w.heap[c]? = some (.chan n (q.map fun i => flV (g i) i).toArray false s r false)

set_option maxRecDepth 100000 in
theorem lead_no (to n mb MB : Nat) (x2 x3 : Value) (w : World) (hm : w.cell? ⟨MB, 0, none⟩ = some (.slice (some ⟨mb, 0, none⟩) n n)) (hto : to < n) (ht : w.cell? ⟨mb, to, none⟩ = some (.bool true)) :
    Calls Try.prog 53 #[.int .i64 to, .pointer (some ⟨MB, 0, none⟩), x2, x3] w fun e w' => e = .returned (.tuple #[]) ∧ w' = w := by
  have i1 : (0 : Int) ≤ (to : Int) := by omega
  have i2 : (to : Int) < (n : Int) := by omega
  go_enter Try.func53, Try.ntmps53
  go_wp2
  go_end0
  exact ⟨rfl, rfl⟩

set_option maxRecDepth 100000 in
set_option maxHeartbeats 4000000 in
theorem lead_yes (to n mb MB AB PB c pb off cp s r : Nat) (v : IV) (buf : Array Value) (w : World) (hm : w.cell? ⟨MB, 0, none⟩ = some (.slice (some ⟨mb, 0, none⟩) n n)) (hto : to < n) (ht : w.cell? ⟨mb, to, none⟩ = some (.bool false)) (hf : w.frozen? ⟨mb, to, none⟩ = false)
    (hA : w.cell? ⟨AB, 0, none⟩ = some (.chan (some c))) (hc : w.heap[c]? = some (.chan n buf false s r false)) (hroom : buf.size < n) (hP : w.cell? ⟨PB, 0, none⟩ = some (.slice (some ⟨pb, off, none⟩) n cp))
    (hv : ∀ j, j < 6 → w.cell? ⟨pb, off + (to * 6 + j), none⟩ = some ((flA v to).getD j undef)) (hAm : AB ≠ mb) (hPm : PB ≠ mb) (hpm : pb ≠ mb) (hcm : c ≠ mb) :
    Calls Try.prog 53 #[.int .i64 to, .pointer (some ⟨MB, 0, none⟩), .pointer (some ⟨AB, 0, none⟩), .pointer (some ⟨PB, 0, none⟩)] w fun e w' => e = .returned (.tuple #[]) ∧ w' = ((w.setCell ⟨mb, to, none⟩ (.bool true)).drew).setChan c n (buf.push (flV v to)) false (s + 1) r false := by
  have i1 : (0 : Int) ≤ (to : Int) := by omega
  have i2 : (to : Int) < (n : Int) := by omega
  go_enter Try.func53, Try.ntmps53
  go_wp2
  have e0 : ∀ b' o, b' ≠ mb → ((w.setCell ⟨mb, to, none⟩ (.bool true)).drew).cell? ⟨b', o, none⟩ = w.cell? ⟨b', o, none⟩ := fun b' o h => World.cell?_setCell_other w _ _ _ (by intro e; injection e; omega)
  have kA := (e0 AB 0 hAm).trans hA
  have kP := (e0 PB 0 hPm).trans hP
  have kc : ((w.setCell ⟨mb, to, none⟩ (.bool true)).drew).heap[c]? = some (.chan n buf false s r false) := (Below.heap_setCell _ _ _ _ hcm).trans hc
  have v0 : ((w.setCell ⟨mb, to, none⟩ (.bool true)).drew).cell? ⟨pb, off + to * 6, none⟩ = some (.int .u16 v.c) := (e0 pb _ hpm).trans (hv 0 (by decide))
  have v1 : ((w.setCell ⟨mb, to, none⟩ (.bool true)).drew).cell? ⟨pb, off + to * 6 + 1, none⟩ = some (.int .u8 v.t) := by rw [Nat.add_assoc]; exact (e0 pb _ hpm).trans (hv 1 (by decide))
  have v2 : ((w.setCell ⟨mb, to, none⟩ (.bool true)).drew).cell? ⟨pb, off + to * 6 + 2, none⟩ = some (.int .u8 v.f) := by rw [Nat.add_assoc]; exact (e0 pb _ hpm).trans (hv 2 (by decide))
  have v3 : ((w.setCell ⟨mb, to, none⟩ (.bool true)).drew).cell? ⟨pb, off + to * 6 + 3, none⟩ = some (.int .u32 v.k) := by rw [Nat.add_assoc]; exact (e0 pb _ hpm).trans (hv 3 (by decide))
  have v4 : ((w.setCell ⟨mb, to, none⟩ (.bool true)).drew).cell? ⟨pb, off + to * 6 + 4, none⟩ = some (.int .i64 (kd v)) := by rw [Nat.add_assoc]; exact (e0 pb _ hpm).trans (hv 4 (by decide))
  have v5 : ((w.setCell ⟨mb, to, none⟩ (.bool true)).drew).cell? ⟨pb, off + to * 6 + 5, none⟩ = some (.int .i64 to) := by rw [Nat.add_assoc]; exact (e0 pb _ hpm).trans (hv 5 (by decide))
  have HC := Lib.hid kc
  clear kc hc e0 hA hP hv hm ht hf hcm
  refine wp_region_list [[0, 1, 2, 3, 4, 5], [0, 2, 1, 3, 4, 5], [1, 0, 2, 3, 4, 5], [1, 2, 0, 3, 4, 5], [1, 2, 3, 0, 4, 5], [1, 2, 3, 4, 0, 5], [2, 0, 1, 3, 4, 5], [2, 1, 0, 3, 4, 5], [2, 1, 3, 0, 4, 5], [2, 1, 3, 4, 0, 5]] (by kernel_rfl) (by kernel_rfl) ?_
  generalize hW1 : (w.setCell ⟨mb, to, none⟩ (.bool true)).drew = W1 at kA kP v0 v1 v2 v3 v4 v5 HC ⊢
  have HW1 := Lib.hid hW1
  clear hW1
  simp only [List.forall_mem_cons]
  refine ⟨?_, ?_, ?_, ?_, ?_, ?_, ?_, ?_, ?_, ?_, fun _ h => by cases h⟩
  all_goals
    iterate 5 (refine Rg.value_k rfl rfl fun K hK => ?_; go_simp; refine hK _ _ ?_; clear hK K)
    refine Rg.send (c := c) (v := flV v to) (z := .tuple #[]) rfl rfl ?_ HC.out hroom ?_
    · simp [go_sem, execOp, scase, Act.eval]
    · refine Rg.nil ?_
      go_end0
      exact ⟨rfl, by rw [HW1.out]⟩
end Go.Proofs.Ytmndolojfdekdaa
