/-
  The contracts of data.Low, High, of the law's own awake of layer 5, and of data.Read.
-/
import Derived.Test.YtpjhcaabjgbkjaaDc
import Derived.Test.YtpjhcaabjgbkjaaWd
namespace Go.Proofs.Ytpjhcaabjgbkjaa
open Go.RowKit

/-- Where a half of an argument stands, or an error. -/
def halfF (k : Int) (second : Bool) : Int × Int := if k < 0 ∨ 6 ≤ k then (0, 16) else (16 + 8 * k + (if second then 4 else 0), 0)
set_option maxHeartbeats 1000000 in
theorem half_any (k : Int) (second : Bool) (w : World) :
    Calls Try.prog 40 #[.int .i64 k, .bool second] w fun e w' => e = .returned (.tuple #[.int .i64 (halfF k second).1, .int .i64 (halfF k second).2]) ∧ w = w' := by
  by_cases h0 : k < 0
  · have hh : halfF k second = (0, 16) := by unfold halfF; rw [if_pos (.inl h0)]
    rw [hh]
    have t0 : decide (k < 0) = true := by simpa using h0
    clear hh
    go_enter Try.func40, Try.ntmps40
    go_wp2
    go_ret2
    exact ⟨rfl, rfl⟩
  · by_cases h1 : 6 ≤ k
    · have hh : halfF k second = (0, 16) := by unfold halfF; rw [if_pos (.inr h1)]
      rw [hh]
      clear hh
      go_enter Try.func40, Try.ntmps40
      go_wp2
      go_ret2
      exact ⟨rfl, rfl⟩
    · have hh : halfF k second = (16 + 8 * k + (if second then 4 else 0), 0) := by unfold halfF; rw [if_neg (by omega)]
      rw [hh]
      clear hh
      have i2 : k < 6 := by omega
      have i3 : 0 ≤ k := by omega
      cases second
      all_goals
        go_enter Try.func40, Try.ntmps40
        go_wp2_with (go_at_call 37; refine (argAt_any _ _ i3 i2).mono ?_; rintro e w' ⟨rfl, rfl⟩)
        go_ret2
        exact ⟨ret_tup2 (by simp) rfl, rfl⟩
theorem low_any (k : Int) (big : Bool) (w : World) :
    Calls Try.prog 21 #[.int .i64 k, .bool big] w fun e w' => e = .returned (.tuple #[.int .i64 (halfF k big).1, .int .i64 (halfF k big).2]) ∧ w = w' := by
  go_enter Try.func21, Try.ntmps21
  go_wp2_with (go_at_call 40; refine (half_any _ _ _).mono ?_; rintro e w' ⟨rfl, rfl⟩)
  go_ret2
  exact ⟨rfl, rfl⟩
theorem high_any (k : Int) (big : Bool) (w : World) :
    Calls Try.prog 22 #[.int .i64 k, .bool big] w fun e w' => e = .returned (.tuple #[.int .i64 (halfF k (!big)).1, .int .i64 (halfF k (!big)).2]) ∧ w = w' := by
  go_enter Try.func22, Try.ntmps22
  go_wp2_with (go_at_call 40; refine (half_any _ _ _).mono ?_; rintro e w' ⟨rfl, rfl⟩)
  go_ret2
  exact ⟨rfl, rfl⟩
set_option maxHeartbeats 1000000 in
theorem awake5_any (w : World) : Calls Try.prog 19 #[] w fun e w' => e = .returned (.bool true) ∧ w = w' := by
  have e1 : halfF 1 false = (24, 0) := by decide
  have e2 : halfF 1 (!false) = (28, 0) := by decide
  have e3 : halfF 1 true = (28, 0) := by decide
  have E1 := Lib.hid e1
  have E2 := Lib.hid e2
  have E3 := Lib.hid e3
  clear e1 e2 e3
  go_enter Try.func19, Try.ntmps19
  go_wp2_with fail
  refine (low_any _ _ _).mono ?_
  rw [E1.out]
  rintro e w' ⟨rfl, rfl⟩
  go_wp2_with fail
  refine (high_any _ _ _).mono ?_
  rw [E2.out]
  rintro e w' ⟨rfl, rfl⟩
  go_wp2_with fail
  refine (low_any _ _ _).mono ?_
  rw [E3.out]
  rintro e w' ⟨rfl, rfl⟩
  go_wp2
  go_ret
  exact ⟨rfl, rfl⟩

theorem dget_any (A : Option Addr) (c p wd hs hb : Nat) (big : Bool) (f : Nat → Nat) (w : World) (hw : wd = 1 ∨ wd = 2 ∨ wd = 4 ∨ wd = 8) (hp : p + wd ≤ 64) (hby : Byt w w.heap.size A 64 c f)
    (h1 : w.cell? ⟨hs, 0, none⟩ = some (.slice A 64 c)) (h2 : w.cell? ⟨hb, 0, none⟩ = some (.bool big)) (p' wd' : Int) (ep : p' = p) (ew : wd' = wd) :
    Calls Try.prog 39 #[.int .i64 p', .int .i64 wd', .pointer (some ⟨hs, 0, none⟩), .pointer (some ⟨hb, 0, none⟩)] w fun e w' =>
      e = .returned (.int .u64 ((num (fun i => f (pln big p wd i)) wd : Nat) : Int)) ∧ Below w.heap.size w w' := by
  subst ep ew
  have HP := Lib.hid (get_ok big A 64 c p wd f w (by decide) hw hp hby)
  clear hw hby
  go_enter Try.func39, Try.ntmps39
  go_wp2_with fail
  refine (HP.out).mono ?_
  rintro e w1 ⟨rfl, hB⟩
  go_wp2
  go_ret
  exact ⟨rfl, hB⟩

/-- The record that 64 bytes say. -/
def recR (f : Nat → Nat) (big : Bool) : RV := ⟨num (fun i => f (pln big 0 4 i)) 4, num (fun i => f (pln big 4 4 i)) 4, num (fun i => f (pln big 8 8 i)) 8, fun k => if k < 6 then num (fun i => f (pln big (16 + 8 * k) 8 i)) 8 else 0⟩
/-- The block b holds a record. -/
def RcB (w : World) (b : Nat) (T : TypeId) (r : RV) : Prop := w.heap[b]? = some (.cells (rcells r) T)
section
variable {w w' : World} {b : Nat} {T : TypeId} {r r' : RV}
theorem RcB.lt (h : RcB w b T r) : b < w.heap.size := (Array.getElem?_eq_some_iff.1 h).1
theorem RcB.below {N : Nat} (h : RcB w b T r) (hb : Below N w w') (hB : b < N) : RcB w' b T r := (hb.block b hB).trans h
theorem RcB.cell (h : RcB w b T r) (j : Nat) (v : Value) (hv : (rcells r)[j]? = some v) : w.cell? ⟨b, j, none⟩ = some v := by
  rw [cell_of_row w b j _ _ (0, 0) h, hv]
theorem RcB.frozen (h : RcB w b T r) (j : Nat) : w.frozen? ⟨b, j, none⟩ = false := by
  have h' : w.heap[b]? = some (.cells (rcells r) T) := h
  simp [World.frozen?, h']
theorem rcells_congr {r r' : RV} (h1 : r.n = r'.n) (h2 : r.a = r'.a) (h3 : r.p = r'.p) (h4 : ∀ i, i < 6 → r.q i = r'.q i) : rcells r = rcells r' := by
  unfold rcells
  rw [h1, h2, h3, h4 0 (by decide), h4 1 (by decide), h4 2 (by decide), h4 3 (by decide), h4 4 (by decide), h4 5 (by decide)]
theorem rcells_set (r : RV) (k x : Nat) (hk : k < 6) : (rcells r).setIfInBounds (3 + k) (.int .u64 x) = rcells ⟨r.n, r.a, r.p, fun i => if i = k then x else r.q i⟩ := by
  match k, hk with
  | 0, _ => simp [rcells]
  | 1, _ => simp [rcells]
  | 2, _ => simp [rcells]
  | 3, _ => simp [rcells]
  | 4, _ => simp [rcells]
  | 5, _ => simp [rcells]
theorem RcB.set (h : RcB w b T r) (k x : Nat) (hk : k < 6) : RcB (w.setCell ⟨b, 3 + k, none⟩ (.int .u64 x)) b T ⟨r.n, r.a, r.p, fun i => if i = k then x else r.q i⟩ := by
  unfold RcB
  rw [setCell_eq_setRow w b (3 + k) _ _ (0, 0) _ h, rcells_set r k x hk]
  exact setRow_heap w b _ _ _ _ h
end
theorem rcells_size (r : RV) : (rcells r).size = 9 := rfl
theorem rcells_one (r : RV) : (rcells r).all (·.oneCell') = true := by simp [rcells, Value.oneCell']
theorem size_rec (r : RV) : (Try.prog.info? 29).map (·.size) = some (rcells r).size := by
  rw [rcells_size]; kernel_rfl
theorem arg_cell (r : RV) (k : Nat) (hk : k < 6) : (rcells r)[3 + k]? = some (.int .u64 (r.q k)) := by
  match k, hk with
  | 0, _ => rfl
  | 1, _ => rfl
  | 2, _ => rfl
  | 3, _ => rfl
  | 4, _ => rfl
  | 5, _ => rfl
/-- Two results, the first of which lies in a block. -/
theorem results_cell_row2 {P : Program} {fn : Func} {p q : Tmp} {ty : TypeId} (h : fn.results = #[.cell p ty, .tmp q]) (tmps : Array Value) (w : World) (g : Nat) (t : TypeId) (cs : Array Value) (fr : Nat × Nat) (d : TypeDesc) (v : Value)
    (hp : tmps.getD p undef = .pointer (some ⟨g, 0, none⟩)) (hq : tmps.getD q undef = v) (hg : w.heap[g]? = some (.cells cs t fr))
    (hu : P.underlying ty = some d) (hd : (match d with | .struct _ | .array _ _ => true | _ => false) = true) (hi : (P.info? ty).map (·.size) = some cs.size) :
    (results fn tmps).run P w = .ok (.tuple #[.agg cs, v]) w := by
  have hp' : tmps[p]?.getD undef = .pointer (some ⟨g, 0, none⟩) := by simpa using hp
  have hq' : tmps[q]?.getD undef = v := by simpa using hq
  simp [results, h, hp', hq', asAddr, run_loadVar_row w g t ty cs fr d hg hu hd hi, Result.andThen]

def zrec : RV := ⟨0, 0, 0, fun _ => 0⟩
set_option maxRecDepth 100000 in
set_option maxHeartbeats 4000000 in
theorem read5_err (A : Option Addr) (n c : Nat) (big : Bool) (w : World) (hn : n ≤ 1000000) (h : n ≠ 64) :
    Calls Try.prog 20 #[.slice A n c, .bool big] w fun e w' => e = .returned (.tuple #[.agg (rcells zrec), .int .i64 (if n < 64 then 2 else 3)]) ∧ Below w.heap.size w w' := by
  by_cases h1 : n < 64
  · rw [if_pos h1]
    have hb : Below w.heap.size w (((w.alloc (.cells #[.slice A n c] 31)).alloc (.cells #[.bool big] 4)).alloc (.cells #[.int .u32 0, .int .u32 0, .int .u64 0, .int .u64 0, .int .u64 0, .int .u64 0, .int .u64 0, .int .u64 0, .int .u64 0] 29)) := (((Below.refl _ w).alloc (Nat.le_refl _) _).alloc (by simp) _).alloc (by simp; omega) _
    go_enter Try.func20, Try.ntmps20
    go_wp2
    refine bodyPost_ret (v := .tuple #[.agg (rcells zrec), .int .i64 2]) (by simp [results, Try.results20, go_sem, rcells, zrec]) rfl ⟨rfl, ?_⟩
    exact hb
  · rw [if_neg h1]
    have hb : Below w.heap.size w (((w.alloc (.cells #[.slice A n c] 31)).alloc (.cells #[.bool big] 4)).alloc (.cells #[.int .u32 0, .int .u32 0, .int .u64 0, .int .u64 0, .int .u64 0, .int .u64 0, .int .u64 0, .int .u64 0, .int .u64 0] 29)) := (((Below.refl _ w).alloc (Nat.le_refl _) _).alloc (by simp) _).alloc (by simp; omega) _
    have i2 : 64 < n := by omega
    go_enter Try.func20, Try.ntmps20
    go_wp2
    refine bodyPost_ret (v := .tuple #[.agg (rcells zrec), .int .i64 3]) (by simp [results, Try.results20, go_sem, rcells, zrec]) rfl ⟨rfl, ?_⟩
    exact hb

set_option maxRecDepth 100000 in
set_option maxHeartbeats 4000000 in
theorem read5_ok (A : Option Addr) (c : Nat) (big : Bool) (f : Nat → Nat) (w : World) (hby : Byt w w.heap.size A 64 c f) :
    Calls Try.prog 20 #[.slice A 64 c, .bool big] w fun e w' => e = .returned (.tuple #[.agg (rcells (recR f big)), .int .i64 0]) ∧ Below w.heap.size w w' := by
  have hmf : ∀ (fn : Fn) (first cap : Array Value) (w : World), (Instr.makeFunc fn first cap).run Try.prog w = .ok (.func fn first cap) w := fun _ _ _ _ => rfl
  have HY := Lib.hid hby
  have hb : Below w.heap.size w (((w.alloc (.cells #[.slice A 64 c] 31)).alloc (.cells #[.bool big] 4)).alloc (.cells #[.int .u32 0, .int .u32 0, .int .u64 0, .int .u64 0, .int .u64 0, .int .u64 0, .int .u64 0, .int .u64 0, .int .u64 0] 29)) := (((Below.refl _ w).alloc (Nat.le_refl _) _).alloc (by simp) _).alloc (by simp; omega) _
  clear hby
  go_enter Try.func20, Try.ntmps20
  go_wp2_with fail
  have g0 : (((w.alloc (.cells #[.slice A 64 c] 31)).alloc (.cells #[.bool big] 4)).alloc (.cells (rcells zrec) 29)).cell? ⟨w.heap.size, 0, none⟩ = some (.slice A 64 c) := cell_alloc_l _ (cell_alloc_l _ (cell_new_l w _ _).1)
  have g1 : (((w.alloc (.cells #[.slice A 64 c] 31)).alloc (.cells #[.bool big] 4)).alloc (.cells (rcells zrec) 29)).cell? ⟨w.heap.size + 1, 0, none⟩ = some (.bool big) := by
    have := (cell_new_l (w.alloc (.cells #[.slice A 64 c] 31)) (.bool big) 4).1
    rw [World.size_alloc] at this
    exact cell_alloc_l _ this
  have g2 : RcB (((w.alloc (.cells #[.slice A 64 c] 31)).alloc (.cells #[.bool big] 4)).alloc (.cells (rcells zrec) 29)) (w.heap.size + 1 + 1) 29 zrec := by
    have := heap_alloc_last ((w.alloc (.cells #[.slice A 64 c] 31)).alloc (.cells #[.bool big] 4)) (.cells (rcells zrec) 29)
    simp only [World.size_alloc] at this
    exact this
  have hs : (((w.alloc (.cells #[.slice A 64 c] 31)).alloc (.cells #[.bool big] 4)).alloc (.cells (rcells zrec) 29)).heap.size = w.heap.size + 1 + 1 + 1 := by simp
  change Below w.heap.size w (((w.alloc (.cells #[.slice A 64 c] 31)).alloc (.cells #[.bool big] 4)).alloc (.cells (rcells zrec) 29)) at hb
  change Calls Try.prog _ _ (((w.alloc (.cells #[.slice A 64 c] 31)).alloc (.cells #[.bool big] 4)).alloc (.cells (rcells zrec) 29)) _
  generalize hW1 : (((w.alloc (.cells #[.slice A 64 c] 31)).alloc (.cells #[.bool big] 4)).alloc (.cells (rcells zrec) 29)) = W1 at *
  clear hW1
  have keep : Hid (∀ (W : World), Below (w.heap.size + 1 + 1 + 1) W1 W → W.cell? ⟨w.heap.size, 0, none⟩ = some (.slice A 64 c) ∧ W.cell? ⟨w.heap.size + 1, 0, none⟩ = some (.bool big) ∧ RcB W (w.heap.size + 1 + 1) 29 zrec ∧ Byt W W.heap.size A 64 c f ∧ w.heap.size + 1 + 1 + 1 ≤ W.heap.size) := Lib.hid fun W hW =>
    ⟨(hW.cell (p := ⟨w.heap.size, 0, none⟩) (by show w.heap.size < _; omega)).trans g0, (hW.cell (p := ⟨w.heap.size + 1, 0, none⟩) (by show w.heap.size + 1 < _; omega)).trans g1, g2.below hW (by omega),
      ((HY.out.below hb).below (hW.mono (by omega))).more (by have := hW.size; omega), by have := hW.size; omega⟩
  have KR := Lib.hid (keep.out W1 (Below.refl _ _))
  clear g0 g1 g2
  have hlt4 : ∀ p, p + 4 ≤ 64 → num (fun i => f (pln big p 4 i)) 4 < 4294967296 := fun p hp => num_lt _ 4 (fun i hi => HY.out.lt (pln_lt big p 4 i 64 hi hp))
  have hlt8 : ∀ p, p + 8 ≤ 64 → num (fun i => f (pln big p 8 i)) 8 < 18446744073709551616 := fun p hp => num_lt8 _ 8 (by decide) (fun i hi => HY.out.lt (pln_lt big p 8 i 64 hi hp))
  have y0 := hlt4 0 (by decide)
  have y1 := hlt4 4 (by decide)
  have y2 := hlt8 8 (by decide)
  have HL8 := Lib.hid hlt8
  clear hlt4 hlt8
  obtain ⟨x0, ex0⟩ : ∃ x, num (fun i => f (pln big 0 4 i)) 4 = x := ⟨_, rfl⟩
  obtain ⟨x1, ex1⟩ : ∃ x, num (fun i => f (pln big 4 4 i)) 4 = x := ⟨_, rfl⟩
  obtain ⟨x2, ex2⟩ : ∃ x, num (fun i => f (pln big 8 8 i)) 8 = x := ⟨_, rfl⟩
  rw [ex0] at y0
  rw [ex1] at y1
  rw [ex2] at y2
  have E0 := Lib.hid ex0
  have E1 := Lib.hid ex1
  have E2 := Lib.hid ex2
  have v0 : IntKind.u32.wrap (x0 : Int) = (x0 : Int) := IntWalk.u32_in _ (by omega)
  have v1 : IntKind.u32.wrap (x1 : Int) = (x1 : Int) := IntWalk.u32_in _ (by omega)
  clear ex0 ex1 ex2
  refine (dget_any A c 0 4 w.heap.size (w.heap.size + 1) big f W1 (by decide) (by decide) KR.out.2.2.2.1 KR.out.1 KR.out.2.1 _ _ (by rfl) (by rfl)).mono ?_
  rw [E0.out]
  rintro e w1 ⟨rfl, hB1⟩
  rw [hs] at hB1
  have K1 := Lib.hid (keep.out w1 hB1)
  go_wp2_with fail
  refine (dget_any A c 4 4 w.heap.size (w.heap.size + 1) big f w1 (by decide) (by decide) K1.out.2.2.2.1 K1.out.1 K1.out.2.1 _ _ (by rfl) (by rfl)).mono ?_
  rw [E1.out]
  rintro e w2 ⟨rfl, hB2⟩
  have hB2' := hB1.trans (hB2.mono K1.out.2.2.2.2)
  have K2 := Lib.hid (keep.out w2 hB2')
  clear hB1 hB2
  go_wp2_with fail
  refine (dget_any A c 8 8 w.heap.size (w.heap.size + 1) big f w2 (by decide) (by decide) K2.out.2.2.2.1 K2.out.1 K2.out.2.1 _ _ (by rfl) (by rfl)).mono ?_
  rw [E2.out]
  rintro e w3 ⟨rfl, hB3⟩
  have hB3' := hB2'.trans (hB3.mono K2.out.2.2.2.2)
  have K3 := Lib.hid (keep.out w3 hB3')
  clear hB2' hB3
  go_wp2_with fail
  have hrc0 : RcB (w3.alloc (.cells #[.int .u32 x0, .int .u32 x1, .int .u64 x2, .int .u64 0, .int .u64 0, .int .u64 0, .int .u64 0, .int .u64 0, .int .u64 0] 29)) w3.heap.size 29 ⟨x0, x1, x2, fun j => if j < 0 then num (fun i => f (pln big (16 + 8 * j) 8 i)) 8 else 0⟩ := heap_alloc_last w3 _
  have hB4 : Below (w.heap.size + 1 + 1 + 1) W1 (w3.alloc (.cells #[.int .u32 x0, .int .u32 x1, .int .u64 x2, .int .u64 0, .int .u64 0, .int .u64 0, .int .u64 0, .int .u64 0, .int .u64 0] 29)) := hB3'.alloc K3.out.2.2.2.2 _
  have hw3 := K3.out.2.2.2.2
  clear KR K1 K2 K3 hB3' v0 v1
  go_loopw [27] (fun i wr => ∃ k : Nat, k ≤ 6 ∧ i = .int .i64 k ∧ RcB wr w3.heap.size 29 ⟨x0, x1, x2, fun j => if j < k then num (fun i => f (pln big (16 + 8 * j) 8 i)) 8 else 0⟩ ∧ Below (w.heap.size + 1 + 1 + 1) W1 wr)
    (fun i _ => 6 - (intOf i).toNat)
  case atStart => exact ⟨0, by omega, rfl, hrc0, hB4⟩
  case round =>
    clear hrc0 hB4
    obtain ⟨k, hk, rfl, hrc, hB⟩ := hrel
    have HRC := Lib.hid hrc
    have KW := Lib.hid (keep.out wr hB)
    have hlt3 := hrc.lt
    clear hrc
    by_cases hlt : k < 6
    · have i2 : (k : Int) < 6 := by omega
      have i3 : (0 : Int) ≤ (k : Int) := by omega
      have hx := HL8.out (16 + 8 * k) (by omega)
      obtain ⟨x, ex⟩ : ∃ x, num (fun i => f (pln big (16 + 8 * k) 8 i)) 8 = x := ⟨_, rfl⟩
      rw [ex] at hx
      have EX := Lib.hid ex
      clear ex
      go_wp2_with (first
        | (go_at_call 37
           refine (argAt_any _ _ i3 i2).mono ?_
           rintro e w' ⟨rfl, rfl⟩)
        | (go_at_call 39
           refine (dget_any A c (16 + 8 * k) 8 w.heap.size (w.heap.size + 1) big f wr (by decide) (by omega) KW.out.2.2.2.1 KW.out.1 KW.out.2.1 _ _ (by omega) (by omega)).mono ?_
           rw [EX.out]
           rintro e w5 ⟨rfl, hB5⟩
           have hrc5 := HRC.out.below hB5 hlt3
           have q1 := hrc5.cell (3 + k) _ (arg_cell _ k hlt)
           have q2 := hrc5.frozen (3 + k)
           have HR5 := Lib.hid hrc5
           clear hrc5))
      have hs5 := HR5.out.set k x hlt
      refine ⟨⟨k + 1, by omega, by go_num, ?_, (hB.trans (hB5.mono KW.out.2.2.2.2)).setCell (p := ⟨w3.heap.size, 3 + k, none⟩) hw3 _⟩, by simp [intOf]; omega⟩
      unfold RcB at hs5 ⊢
      rw [hs5]
      congr 2
      refine rcells_congr rfl rfl rfl fun i _ => ?_
      show (if i = k then x else if i < k then _ else 0) = if i < k + 1 then _ else 0
      by_cases h : i = k
      · subst h; rw [if_pos rfl, if_pos (by omega), EX.out]
      · rw [if_neg h]
        by_cases h' : i < k
        · rw [if_pos h', if_pos (by omega)]
        · rw [if_neg h', if_neg (by omega)]
    · obtain rfl : k = 6 := by omega
      have hs1 := size_rec (recR f big)
      have hs2 := rcells_size zrec
      have hs3 := rcells_size (recR f big)
      have h1c := rcells_one (recR f big)
      have e : rcells ⟨x0, x1, x2, fun j => if j < 6 then num (fun i => f (pln big (16 + 8 * j) 8 i)) 8 else 0⟩ = rcells (recR f big) := rcells_congr E0.out.symm E1.out.symm E2.out.symm (fun i _ => rfl)
      have ha : wr.heap[w3.heap.size]? = some (.cells (rcells (recR f big)) 29) := by rw [← e]; exact HRC.out
      have h0 : wr.heap[w.heap.size + 1 + 1]? = some (.cells (rcells zrec) 29) := KW.out.2.2.1
      have h3' : (wr.setRow (w.heap.size + 1 + 1) (rcells (recR f big))).heap[w.heap.size + 1 + 1]? = some (.cells (rcells (recR f big)) 29) := setRow_heap wr _ _ _ _ _ h0
      obtain ⟨D, hD⟩ : ∃ D, rcells (recR f big) = D := ⟨_, rfl⟩
      obtain ⟨Z0, hZ0⟩ : ∃ D, rcells zrec = D := ⟨_, rfl⟩
      rw [hD] at ha hs1 hs3 h1c h3'
      rw [hZ0] at h0 hs2
      have hfin := below_row (hb.trans (hB.mono (show w.heap.size ≤ _ by omega))) (show w.heap.size ≤ w.heap.size + 1 + 1 by omega) D
      have HD := Lib.hid hD
      have H1 := Lib.hid ha
      have H2 := Lib.hid h0
      have H3 := Lib.hid h3'
      have S1 := Lib.hid hs1
      have S2 := Lib.hid (hs2.trans hs3.symm)
      clear ha h0 hD hZ0 h3' hs1 hs2 hs3 hlt e
      go_wp2_with (first
        | (refine wpList_load_row (by rfl) 29 _ (by rfl) w3.heap.size (by rfl) _ D (0, 0) _ H1.out Try.underlying29 (by rfl) S1.out ?_)
        | (refine wpList_store_row (by rfl) 29 _ _ (by rfl) (w.heap.size + 1 + 1) D (by rfl) (by rfl) _ Z0 H2.out S1.out S2.out h1c ?_))
      exact bodyPost_ret (results_cell_row2 Try.results20 _ _ (w.heap.size + 1 + 1) _ D (0, 0) _ (.int .i64 0) (by rfl) (by rfl) H3.out Try.underlying29 (by rfl) S1.out) rfl ⟨by rw [HD.out], hfin⟩
end Go.Proofs.Ytpjhcaabjgbkjaa
