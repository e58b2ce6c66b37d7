/-
  systab.Find, numberOf, isABI and Number of any table.
-/
import Derived.Test.YtlninlempefjcaaDoorSd
import Derived.Deep.Cut
namespace Go.Proofs.YtlninlempefjcaaDoor
open Go.RowKit
set_option linter.unusedVariables false

set_option maxHeartbeats 1000000 in
theorem find1_any (n : Int) (r : SR) (s : ByteArray) (CB : Nat) (w : World) (h : w.cell? ⟨CB, 0, none⟩ = some (.string s)) :
    Calls Tryd.prog 30 #[.int .i64 n, .agg (srow r), .pointer (some ⟨CB, 0, none⟩)] w fun e w' => e = .returned (.bool (r.nm.toList == s.toList)) ∧ Below w.heap.size w w' := by
  have hB : Below w.heap.size w (w.alloc (.cells #[.string r.nm, .int .i64 r.n0, .int .i64 r.n1, .int .i64 r.n2, .int .i64 r.n3, .int .i64 r.n4, .int .i64 r.mx, .int .i64 r.sb] 36)) := (Below.refl _ _).alloc (Nat.le_refl _) _
  have l := World.block_lt_of_cell? _ _ h
  have k := (hB.cell (p := ⟨CB, 0, none⟩) l).trans h
  have c0 := (RowC.new w #[.string r.nm, .int .i64 r.n0, .int .i64 r.n1, .int .i64 r.n2, .int .i64 r.n3, .int .i64 r.n4, .int .i64 r.mx, .int .i64 r.sb] 36 _ rfl).cell 0 (.string r.nm) rfl
  have HB := Lib.hid hB
  clear hB l h
  go_enter Tryd.func30, Tryd.ntmps30
  go_wp2
  go_ret
  exact ⟨rfl, HB.out⟩
abbrev isN (T : Nat → SR) (s : ByteArray) (k : Nat) : Bool := (T k).nm.toList == s.toList
set_option maxRecDepth 100000 in
set_option maxHeartbeats 8000000 in
theorem Find_any (A : Option Addr) (n cap : Nat) (T : Nat → SR) (s : ByteArray) (w : World) (hn : n ≤ 1000000) (ht : TbA w A n T) :
    Calls Tryd.prog 19 #[.slice A n cap, .string s] w (FindT (isN T s) T n w) := by
  have r0 : RowC ((w.alloc (.cells #[.string s] 9)).alloc (.cells sr0 36)) w.heap.size #[.string s] 9 := (RowC.new _ _ _ _ rfl).alloc _
  have r1 : RowC ((w.alloc (.cells #[.string s] 9)).alloc (.cells sr0 36)) (w.heap.size + 1) sr0 36 := RowC.new _ _ _ _ (by simp)
  have hb : Below w.heap.size w ((w.alloc (.cells #[.string s] 9)).alloc (.cells sr0 36)) := ((Below.refl _ _).alloc (Nat.le_refl _) _).alloc (by simp) _
  have HF := Lib.hid (find_name A n cap T w.heap.size (isN T s) _ hn (ht.below hb (Nat.le_refl _)) fun wr hwr k hk => find1_any _ (T k) s w.heap.size wr ((r0.below hwr r0.lt).cell 0 (.string s) rfl))
  have R1 := Lib.hid r1
  have HB := Lib.hid hb
  clear r0 r1 hb ht
  go_enter Tryd.func19, Tryd.ntmps19
  go_wp2_with fail
  refine HF.out.mono ?_
  rintro e w1 ⟨h, hB1⟩
  have hs := HB.out.size
  have HR1 := Lib.hid (R1.out.below hB1 R1.out.lt)
  have HBE := Lib.hid (HB.out.trans (hB1.mono hs))
  clear hB1 hs
  rcases h with ⟨j, hj, hp, hf, rfl⟩ | ⟨hno, rfl⟩
  · obtain ⟨r, hr⟩ : ∃ r, T j = r := ⟨_, rfl⟩
    have HH := Lib.hid (And.intro hj (And.intro hp (And.intro hf hr)))
    rw [hr]
    clear hj hp hf hr
    go_wp2_with (refine wpList_store_row (by rfl) 36 _ _ (by rfl) (w.heap.size + 1) #[.string r.nm, .int .i64 r.n0, .int .i64 r.n1, .int .i64 r.n2, .int .i64 r.n3, .int .i64 r.n4, .int .i64 r.mx, .int .i64 r.sb] (by rfl) (by rfl) _ _ HR1.out (show _ = some 8 from infoSR) (by rfl) (by simp [Value.oneCell']) ?_)
    refine bodyPost_ret (results_ctS Tryd.results19 _ _ (w.heap.size + 1) _ #[.string r.nm, .int .i64 r.n0, .int .i64 r.n1, .int .i64 r.n2, .int .i64 r.n3, .int .i64 r.n4, .int .i64 r.mx, .int .i64 r.sb] (0, 0) _ (.int .i64 j) (.bool true) (by rfl) (by rfl) (by rfl) (setRow_heap _ _ _ _ _ _ HR1.out) Tryd.underlying36 (by rfl) (show _ = some 8 from infoSR)) rfl ?_
    exact ⟨.inl ⟨j, HH.out.1, HH.out.2.1, HH.out.2.2.1, by rw [HH.out.2.2.2]⟩, below_setRow HBE.out (by omega) _⟩
  · have HH := Lib.hid hno
    clear hno
    go_wp2_with (refine wpList_store_row (by rfl) 36 _ _ (by rfl) (w.heap.size + 1) sr0 (by rfl) (by rfl) _ _ HR1.out (show _ = some sr0.size from infoSR) (by rfl) (by simp [Value.oneCell']) ?_)
    refine bodyPost_ret (results_ctS Tryd.results19 _ _ (w.heap.size + 1) _ sr0 (0, 0) _ (.int .i64 0) (.bool false) (by rfl) (by rfl) (by rfl) (setRow_heap _ _ _ _ _ _ HR1.out) Tryd.underlying36 (by rfl) (show _ = some sr0.size from infoSR)) rfl ?_
    exact ⟨.inr ⟨HH.out, rfl⟩, below_setRow HBE.out (by omega) _⟩
/-- A row's number in an ABI. -/
def numI (r : SR) : Nat → Int
  | 0 => r.n0
  | 1 => r.n1
  | 2 => r.n2
  | 3 => r.n3
  | _ => r.n4
def numAt (r : SR) (k a : Nat) : Int := if numI r a = -1 then -1 - (k : Int) else numI r a
theorem srow_num (r : SR) (a : Nat) (ha : a < 5) : (#[.string r.nm, .int .i64 r.n0, .int .i64 r.n1, .int .i64 r.n2, .int .i64 r.n3, .int .i64 r.n4, .int .i64 r.mx, .int .i64 r.sb] : Array Value)[1 + a]? = some (.int .i64 (numI r a)) := by
  have h : a = 0 ∨ a = 1 ∨ a = 2 ∨ a = 3 ∨ a = 4 := by omega
  rcases h with rfl | rfl | rfl | rfl | rfl <;> rfl
set_option maxRecDepth 100000 in
set_option maxHeartbeats 4000000 in
theorem numberOf_any (r : SR) (k a : Nat) (ha : a < 5) (hk : k ≤ 1000000) (w : World) :
    Calls Tryd.prog 26 #[.agg (srow r), .int .i64 k, .int .i64 a] w fun e w' => e = .returned (.int .i64 (numAt r k a)) ∧ Below w.heap.size w w' := by
  have hB : Below w.heap.size w (w.alloc (.cells #[.string r.nm, .int .i64 r.n0, .int .i64 r.n1, .int .i64 r.n2, .int .i64 r.n3, .int .i64 r.n4, .int .i64 r.mx, .int .i64 r.sb] 36)) := (Below.refl _ _).alloc (Nat.le_refl _) _
  have c0 := (RowC.new w #[.string r.nm, .int .i64 r.n0, .int .i64 r.n1, .int .i64 r.n2, .int .i64 r.n3, .int .i64 r.n4, .int .i64 r.mx, .int .i64 r.sb] 36 _ rfl).cell (1 + a) _ (srow_num r a ha)
  have HB := Lib.hid hB
  have i1 : (0 : Int) ≤ (a : Int) := by omega
  have i2 : (a : Int) < 5 := by omega
  have v1 : IntKind.i64.wrap (-1 - (k : Int)) = -1 - (k : Int) := by rw [IntKind.wrap_i64]; omega
  clear hB
  obtain ⟨x, hx⟩ : ∃ x, numI r a = x := ⟨_, rfl⟩
  have HX := Lib.hid hx
  rw [hx] at c0
  clear hx
  by_cases h : x = -1
  · have q : (x != -1) = false := by simp [h]
    have HR : Hid (numAt r k a = -1 - (k : Int)) := Lib.hid (by rw [numAt, if_pos (HX.out.trans h)])
    go_enter Tryd.func26, Tryd.ntmps26
    go_wp2
    go_ret
    exact ⟨by rw [HR.out]; first | rfl | simp, HB.out⟩
  · have q : (x != -1) = true := by simp [h]
    have HR : Hid (numAt r k a = x) := Lib.hid (by rw [numAt, if_neg (by rw [HX.out]; exact h), HX.out])
    go_enter Tryd.func26, Tryd.ntmps26
    go_wp2
    go_ret
    exact ⟨by rw [HR.out]; first | rfl | simp, HB.out⟩
set_option maxHeartbeats 1000000 in
theorem isABI_ok (a : Nat) (ha : a < 5) (w : World) : Calls Tryd.prog 25 #[.int .i64 a] w fun e w' => e = .returned (.bool true) ∧ w = w' := by
  have i1 : (a : Int) ≥ 0 := by omega
  have i2 : (a : Int) < 5 := by omega
  have q1 : decide ((a : Int) ≥ 0) = true := decide_eq_true i1
  have q2 : decide ((a : Int) < 5) = true := decide_eq_true i2
  go_enter Tryd.func25, Tryd.ntmps25
  go_wp2
  go_ret
  exact ⟨rfl, rfl⟩
end Go.Proofs.YtlninlempefjcaaDoor
