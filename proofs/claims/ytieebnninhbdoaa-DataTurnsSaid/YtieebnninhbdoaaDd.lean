/-
  The contracts of data.Low, High, of the law's own awake of layer 5, and of data.Read.
-/
import Derived.Test.YtieebnninhbdoaaDc
import Derived.Test.YtieebnninhbdoaaWd
namespace Go.Proofs.Ytieebnninhbdoaa
open Go.RowKit

/-- Where a half of an argument stands, or an error. -/
def halfF (k : Int) (second : Bool) : Int × Int := if k < 0 ∨ 6 ≤ k then (0, 16) else (16 + 8 * k + (if second then 4 else 0), 0)
set_option maxHeartbeats 1000000 in
theorem half_any (k : Int) (second : Bool) (w : World) :
    Calls Try.prog 45 #[.int .i64 k, .bool second] w fun e w' => e = .returned (.tuple #[.int .i64 (halfF k second).1, .int .i64 (halfF k second).2]) ∧ w = w' := by
  by_cases h0 : k < 0
  · have hh : halfF k second = (0, 16) := by unfold halfF; rw [if_pos (.inl h0)]
    rw [hh]
    have t0 : decide (k < 0) = true := by simpa using h0
    clear hh
    go_enter Try.func45, Try.ntmps45
    go_wp2
    go_ret2
    exact ⟨rfl, rfl⟩
  · by_cases h1 : 6 ≤ k
    · have hh : halfF k second = (0, 16) := by unfold halfF; rw [if_pos (.inr h1)]
      rw [hh]
      clear hh
      go_enter Try.func45, Try.ntmps45
      go_wp2
      go_ret2
      exact ⟨rfl, rfl⟩
    · have hh : halfF k second = (16 + 8 * k + (if second then 4 else 0), 0) := by unfold halfF; rw [if_neg (by omega)]
      rw [hh]
      clear hh
      have i2 : k < 6 := by omega
      have i3 : 0 ≤ k := by omega
      cases second
      all_goals
        go_enter Try.func45, Try.ntmps45
        go_wp2_with (go_at_call 31; refine (argAt_any _ _ i3 i2).mono ?_; rintro e w' ⟨rfl, rfl⟩)
        go_ret2
        exact ⟨ret_tup2 (by simp) rfl, rfl⟩
theorem low_any (k : Int) (big : Bool) (w : World) :
    Calls Try.prog 32 #[.int .i64 k, .bool big] w fun e w' => e = .returned (.tuple #[.int .i64 (halfF k big).1, .int .i64 (halfF k big).2]) ∧ w = w' := by
  go_enter Try.func32, Try.ntmps32
  go_wp2_with (go_at_call 45; refine (half_any _ _ _).mono ?_; rintro e w' ⟨rfl, rfl⟩)
  go_ret2
  exact ⟨rfl, rfl⟩
theorem high_any (k : Int) (big : Bool) (w : World) :
    Calls Try.prog 33 #[.int .i64 k, .bool big] w fun e w' => e = .returned (.tuple #[.int .i64 (halfF k (!big)).1, .int .i64 (halfF k (!big)).2]) ∧ w = w' := by
  go_enter Try.func33, Try.ntmps33
  go_wp2_with (go_at_call 45; refine (half_any _ _ _).mono ?_; rintro e w' ⟨rfl, rfl⟩)
  go_ret2
  exact ⟨rfl, rfl⟩
set_option maxHeartbeats 1000000 in
theorem awake5_any (w : World) : Calls Try.prog 20 #[] w fun e w' => e = .returned (.bool true) ∧ w = w' := by
  have e1 : halfF 1 false = (24, 0) := by decide
  have e2 : halfF 1 (!false) = (28, 0) := by decide
  have e3 : halfF 1 true = (28, 0) := by decide
  have E1 := Lib.hid e1
  have E2 := Lib.hid e2
  have E3 := Lib.hid e3
  clear e1 e2 e3
  go_enter Try.func20, Try.ntmps20
  go_wp2_with fail
  refine (low_any _ _ _).mono ?_
  rw [E1.out]
  rintro e w' ⟨rfl, rfl⟩
  go_wp2_with fail
  refine (high_any _ _ _).mono ?_
  rw [E2.out]
  rintro e w' ⟨rfl, rfl⟩
  go_wp2_with fail
  refine (low_any _ _ _).mono ?_
  rw [E3.out]
  rintro e w' ⟨rfl, rfl⟩
  go_wp2
  go_ret
  exact ⟨rfl, rfl⟩

/-- The record that 64 bytes say. -/
def recR (f : Nat → Nat) (big : Bool) : RV := ⟨num (fun i => f (pln big 0 4 i)) 4, num (fun i => f (pln big 4 4 i)) 4, num (fun i => f (pln big 8 8 i)) 8, fun k => if k < 6 then num (fun i => f (pln big (16 + 8 * k) 8 i)) 8 else 0⟩
/-- The block b holds a record. -/
def RcB (w : World) (b : Nat) (T : TypeId) (r : RV) : Prop := w.heap[b]? = some (.cells (rcells r) T)
section
variable {w w' : World} {b : Nat} {T : TypeId} {r r' : RV}
theorem RcB.lt (h : RcB w b T r) : b < w.heap.size := (Array.getElem?_eq_some_iff.1 h).1
theorem RcB.below {N : Nat} (h : RcB w b T r) (hb : Below N w w') (hB : b < N) : RcB w' b T r := (hb.block b hB).trans h
theorem RcB.cell (h : RcB w b T r) (j : Nat) (v : Value) (hv : (rcells r)[j]? = some v) : w.cell? ⟨b, j, none⟩ = some v := by
  rw [cell_of_row w b j _ _ (0, 0) h, hv]
theorem RcB.frozen (h : RcB w b T r) (j : Nat) : w.frozen? ⟨b, j, none⟩ = false := by
  have h' : w.heap[b]? = some (.cells (rcells r) T) := h
  simp [World.frozen?, h']
theorem rcells_congr {r r' : RV} (h1 : r.n = r'.n) (h2 : r.a = r'.a) (h3 : r.p = r'.p) (h4 : ∀ i, i < 6 → r.q i = r'.q i) : rcells r = rcells r' := by
  unfold rcells
  rw [h1, h2, h3, h4 0 (by decide), h4 1 (by decide), h4 2 (by decide), h4 3 (by decide), h4 4 (by decide), h4 5 (by decide)]
theorem rcells_set (r : RV) (k x : Nat) (hk : k < 6) : (rcells r).setIfInBounds (3 + k) (.int .u64 x) = rcells ⟨r.n, r.a, r.p, fun i => if i = k then x else r.q i⟩ := by
  match k, hk with
  | 0, _ => simp [rcells]
  | 1, _ => simp [rcells]
  | 2, _ => simp [rcells]
  | 3, _ => simp [rcells]
  | 4, _ => simp [rcells]
  | 5, _ => simp [rcells]
theorem RcB.set (h : RcB w b T r) (k x : Nat) (hk : k < 6) : RcB (w.setCell ⟨b, 3 + k, none⟩ (.int .u64 x)) b T ⟨r.n, r.a, r.p, fun i => if i = k then x else r.q i⟩ := by
  unfold RcB
  rw [setCell_eq_setRow w b (3 + k) _ _ (0, 0) _ h, rcells_set r k x hk]
  exact setRow_heap w b _ _ _ _ h
end
theorem rcells_size (r : RV) : (rcells r).size = 9 := rfl
theorem rcells_one (r : RV) : (rcells r).all (·.oneCell') = true := by simp [rcells, Value.oneCell']
theorem size_rec (r : RV) : (Try.prog.info? 51).map (·.size) = some (rcells r).size := by
  rw [rcells_size]; kernel_rfl
theorem arg_cell (r : RV) (k : Nat) (hk : k < 6) : (rcells r)[3 + k]? = some (.int .u64 (r.q k)) := by
  match k, hk with
  | 0, _ => rfl
  | 1, _ => rfl
  | 2, _ => rfl
  | 3, _ => rfl
  | 4, _ => rfl
  | 5, _ => rfl
/-- Two results, the first of which lies in a block. -/
theorem results_cell_row2 {P : Program} {fn : Func} {p q : Tmp} {ty : TypeId} (h : fn.results = #[.cell p ty, .tmp q]) (tmps : Array Value) (w : World) (g : Nat) (t : TypeId) (cs : Array Value) (fr : Nat × Nat) (d : TypeDesc) (v : Value)
    (hp : tmps.getD p undef = .pointer (some ⟨g, 0, none⟩)) (hq : tmps.getD q undef = v) (hg : w.heap[g]? = some (.cells cs t fr))
    (hu : P.underlying ty = some d) (hd : (match d with | .struct _ | .array _ _ => true | _ => false) = true) (hi : (P.info? ty).map (·.size) = some cs.size) :
    (results fn tmps).run P w = .ok (.tuple #[.agg cs, v]) w := by
  have hp' : tmps[p]?.getD undef = .pointer (some ⟨g, 0, none⟩) := by simpa using hp
  have hq' : tmps[q]?.getD undef = v := by simpa using hq
  simp [results, h, hp', hq', asAddr, run_loadVar_row w g t ty cs fr d hg hu hd hi, Result.andThen]

def zrec : RV := ⟨0, 0, 0, fun _ => 0⟩
end Go.Proofs.Ytieebnninhbdoaa
