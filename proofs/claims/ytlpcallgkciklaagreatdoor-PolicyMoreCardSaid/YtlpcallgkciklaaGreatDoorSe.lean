/-
  systab.Find, numberOf, isABI and Number of any table.
-/
import Derived.Test.YtlpcallgkciklaaGreatDoorSd
import Derived.Deep.Cut
namespace Go.Proofs.YtlpcallgkciklaaGreatDoor
open Go.RowKit
set_option linter.unusedVariables false

set_option maxHeartbeats 1000000 in
theorem find1_any (n : Int) (r : SR) (s : ByteArray) (CB : Nat) (w : World) (h : w.cell? ⟨CB, 0, none⟩ = some (.string s)) :
    Calls Tryz.prog 84 #[.int .i64 n, .agg (srow r), .pointer (some ⟨CB, 0, none⟩)] w fun e w' => e = .returned (.bool (r.nm.toList == s.toList)) ∧ Below w.heap.size w w' := by
  have hB : Below w.heap.size w (w.alloc (.cells #[.string r.nm, .int .i64 r.n0, .int .i64 r.n1, .int .i64 r.n2, .int .i64 r.n3, .int .i64 r.n4, .int .i64 r.mx, .int .i64 r.sb] 83)) := (Below.refl _ _).alloc (Nat.le_refl _) _
  have l := World.block_lt_of_cell? _ _ h
  have k := (hB.cell (p := ⟨CB, 0, none⟩) l).trans h
  have c0 := (RowC.new w #[.string r.nm, .int .i64 r.n0, .int .i64 r.n1, .int .i64 r.n2, .int .i64 r.n3, .int .i64 r.n4, .int .i64 r.mx, .int .i64 r.sb] 83 _ rfl).cell 0 (.string r.nm) rfl
  have HB := Lib.hid hB
  clear hB l h
  go_enter Tryz.func84, Tryz.ntmps84
  go_wp2
  go_ret
  exact ⟨rfl, HB.out⟩
abbrev isN (T : Nat → SR) (s : ByteArray) (k : Nat) : Bool := (T k).nm.toList == s.toList
set_option maxRecDepth 100000 in
set_option maxHeartbeats 8000000 in
theorem Find_any (A : Option Addr) (n cap : Nat) (T : Nat → SR) (s : ByteArray) (w : World) (hn : n ≤ 1000000) (ht : TbA w A n T) :
    Calls Tryz.prog 53 #[.slice A n cap, .string s] w (FindT (isN T s) T n w) := by
  have r0 : RowC ((w.alloc (.cells #[.string s] 9)).alloc (.cells sr0 83)) w.heap.size #[.string s] 9 := (RowC.new _ _ _ _ rfl).alloc _
  have r1 : RowC ((w.alloc (.cells #[.string s] 9)).alloc (.cells sr0 83)) (w.heap.size + 1) sr0 83 := RowC.new _ _ _ _ (by simp)
  have hb : Below w.heap.size w ((w.alloc (.cells #[.string s] 9)).alloc (.cells sr0 83)) := ((Below.refl _ _).alloc (Nat.le_refl _) _).alloc (by simp) _
  have HF := Lib.hid (find_name A n cap T w.heap.size (isN T s) _ hn (ht.below hb (Nat.le_refl _)) fun wr hwr k hk => find1_any _ (T k) s w.heap.size wr ((r0.below hwr r0.lt).cell 0 (.string s) rfl))
  have R1 := Lib.hid r1
  have HB := Lib.hid hb
  clear r0 r1 hb ht
  go_enter Tryz.func53, Tryz.ntmps53
  go_wp2_with fail
  refine HF.out.mono ?_
  rintro e w1 ⟨h, hB1⟩
  have hs := HB.out.size
  have HR1 := Lib.hid (R1.out.below hB1 R1.out.lt)
  have HBE := Lib.hid (HB.out.trans (hB1.mono hs))
  clear hB1 hs
  rcases h with ⟨j, hj, hp, hf, rfl⟩ | ⟨hno, rfl⟩
  · obtain ⟨r, hr⟩ : ∃ r, T j = r := ⟨_, rfl⟩
    have HH := Lib.hid (And.intro hj (And.intro hp (And.intro hf hr)))
    rw [hr]
    clear hj hp hf hr
    go_wp2_with (refine wpList_store_row (by rfl) 83 _ _ (by rfl) (w.heap.size + 1) #[.string r.nm, .int .i64 r.n0, .int .i64 r.n1, .int .i64 r.n2, .int .i64 r.n3, .int .i64 r.n4, .int .i64 r.mx, .int .i64 r.sb] (by rfl) (by rfl) _ _ HR1.out (show _ = some 8 from infoSR) (by rfl) (by simp [Value.oneCell']) ?_)
    refine bodyPost_ret (results_ctS Tryz.results53 _ _ (w.heap.size + 1) _ #[.string r.nm, .int .i64 r.n0, .int .i64 r.n1, .int .i64 r.n2, .int .i64 r.n3, .int .i64 r.n4, .int .i64 r.mx, .int .i64 r.sb] (0, 0) _ (.int .i64 j) (.bool true) (by rfl) (by rfl) (by rfl) (setRow_heap _ _ _ _ _ _ HR1.out) Tryz.underlying83 (by rfl) (show _ = some 8 from infoSR)) rfl ?_
    exact ⟨.inl ⟨j, HH.out.1, HH.out.2.1, HH.out.2.2.1, by rw [HH.out.2.2.2]⟩, below_setRow HBE.out (by omega) _⟩
  · have HH := Lib.hid hno
    clear hno
    go_wp2_with (refine wpList_store_row (by rfl) 83 _ _ (by rfl) (w.heap.size + 1) sr0 (by rfl) (by rfl) _ _ HR1.out (show _ = some sr0.size from infoSR) (by rfl) (by simp [Value.oneCell']) ?_)
    refine bodyPost_ret (results_ctS Tryz.results53 _ _ (w.heap.size + 1) _ sr0 (0, 0) _ (.int .i64 0) (.bool false) (by rfl) (by rfl) (by rfl) (setRow_heap _ _ _ _ _ _ HR1.out) Tryz.underlying83 (by rfl) (show _ = some sr0.size from infoSR)) rfl ?_
    exact ⟨.inr ⟨HH.out, rfl⟩, below_setRow HBE.out (by omega) _⟩
/-- A row's number in an ABI. -/
def numI (r : SR) : Nat → Int
  | 0 => r.n0
  | 1 => r.n1
  | 2 => r.n2
  | 3 => r.n3
  | _ => r.n4
def numAt (r : SR) (k a : Nat) : Int := if numI r a = -1 then -1 - (k : Int) else numI r a
theorem srow_num (r : SR) (a : Nat) (ha : a < 5) : (#[.string r.nm, .int .i64 r.n0, .int .i64 r.n1, .int .i64 r.n2, .int .i64 r.n3, .int .i64 r.n4, .int .i64 r.mx, .int .i64 r.sb] : Array Value)[1 + a]? = some (.int .i64 (numI r a)) := by
  have h : a = 0 ∨ a = 1 ∨ a = 2 ∨ a = 3 ∨ a = 4 := by omega
  rcases h with rfl | rfl | rfl | rfl | rfl <;> rfl
end Go.Proofs.YtlpcallgkciklaaGreatDoor
