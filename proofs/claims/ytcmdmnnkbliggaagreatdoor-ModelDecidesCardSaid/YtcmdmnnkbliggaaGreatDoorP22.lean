/-
  How a record, six numbers, and a record with a table are opened.
-/
import Derived.Test.YtcmdmnnkbliggaaGreatDoorP9
import Derived.ChangeShapes
import Derived.WideShapes
import Derived.Test.YtcmdmnnkbliggaaGreatDoorSjp
import Derived.Test.YtcmdmnnkbliggaaGreatDoorP20
import Derived.Deep.RegionHeld3
import Derived.Deep.CutRange
namespace Go.Proofs.YtcmdmnnkbliggaaGreatDoor
open Go.ChangeShapes Go.WideShapes Go.RowKit Go.Deep
set_option linter.unusedVariables false
set_option maxRecDepth 100000

structure RecV where
  n : Nat
  a : Nat
  p : Nat
  q : Nat → Nat
def RecV.ok (r : RecV) : Prop := r.n < 4294967296 ∧ r.a < 4294967296 ∧ r.p < 18446744073709551616 ∧ ∀ i, r.q i < 18446744073709551616
def rcells (r : RecV) : Array Value := #[.int .u32 r.n, .int .u32 r.a, .int .u64 r.p, .int .u64 (r.q 0), .int .u64 (r.q 1), .int .u64 (r.q 2), .int .u64 (r.q 3), .int .u64 (r.q 4), .int .u64 (r.q 5)]
section
variable {H : Type} {enc : TypeId × Value → H}
theorem arr_ints {P : Program} {w : World} {base : Nat} {spare : Nat → Bool} {held : Bool} {k : IntKind} {t e : TypeId} {n fuel : Nat} {cs : List Value} {x : DataW H × List MemPlace} (ht : P.underlying t = some (.array n e)) (he : P.underlying e = some (.int k)) (hc1 : P.cellsOf e = 1)
    (h : DataW.trod enc P w base spare held fuel t cs = some x) : ∀ i, i < n → ∃ z : Int, cs[i]? = some (.int k z) ∧ (Lit.int k z).wf = true := by
  obtain ⟨xs, m, _, _, _, hxl, hat⟩ := DataW.trod_array ht h
  intro i hi
  have hx := hat i hi
  rw [hc1] at hx
  have hxs : xs[i]? = some (xs[i]'(by omega)) := List.getElem?_eq_getElem (by omega)
  rw [hxs] at hx
  obtain ⟨z, hz, _, hw⟩ := DataW.trod_int he hx
  refine ⟨z, ?_, hw⟩
  have hh := congrArg List.head? hz
  simp only [List.head?_take, Nat.mul_one, List.head?_cons] at hh
  rw [if_neg (by decide), List.head?_drop] at hh
  exact hh
set_option maxRecDepth 100000 in
theorem open_rec {r : Reach} {w : World} {b0 base : Nat} {spare : Nat → Bool} {held : Bool} {v : Value} {d : DataW H} {p : List MemPlace} (hv : Value.okWide Tryz.prog w r b0 74 v) (h : DataW.Trod enc Tryz.prog w base spare held 74 v d p) :
    ∃ g : RecV, v = .agg (rcells g) ∧ g.ok := by
  have hC : Tryz.prog.cellsOf 74 = 9 := by kernel_rfl
  obtain ⟨cs, rfl, hsz⟩ := okWide_struct Tryz.underlying74 hv
  obtain ⟨l⟩ := cs
  match l, hsz.trans hC with
  | [c0, c1, c2, c3, c4, c5, c6, c7, c8], _ =>
    obtain ⟨fuel, hf⟩ := h
    obtain ⟨xs, n, _, _, _, hlen, hg⟩ := DataW.trod_struct Tryz.underlying74 hf
    have k0 : Tryz.prog.cellsOf 72 = 1 := by kernel_rfl
    have k1 : Tryz.prog.cellsOf 59 = 1 := by kernel_rfl
    have k2 : Tryz.prog.cellsOf 66 = 6 := by kernel_rfl
    have hx : ∀ j, j < 4 → ∃ y, xs[j]? = some y := fun j hj => ⟨xs[j]'(by rw [hlen]; exact hj), List.getElem?_eq_getElem _⟩
    obtain ⟨y0, z0⟩ := hx 0 (by decide)
    obtain ⟨y1, z1⟩ := hx 1 (by decide)
    obtain ⟨y2, z2⟩ := hx 2 (by decide)
    obtain ⟨y3, z3⟩ := hx 3 (by decide)
    have g0 : DataW.trod enc Tryz.prog w base spare held n 72 [c0] = some y0 := by
      have h : DataW.trod enc Tryz.prog w base spare held n 72 (([c0, c1, c2, c3, c4, c5, c6, c7, c8].drop 0).take (Tryz.prog.cellsOf 72)) = xs[0]? := hg 0 _ rfl
      rw [k0, z0] at h
      exact h
    have g1 : DataW.trod enc Tryz.prog w base spare held n 72 [c1] = some y1 := by
      have h : DataW.trod enc Tryz.prog w base spare held n 72 (([c0, c1, c2, c3, c4, c5, c6, c7, c8].drop 1).take (Tryz.prog.cellsOf 72)) = xs[1]? := hg 1 _ rfl
      rw [k0, z1] at h
      exact h
    have g2 : DataW.trod enc Tryz.prog w base spare held n 59 [c2] = some y2 := by
      have h : DataW.trod enc Tryz.prog w base spare held n 59 (([c0, c1, c2, c3, c4, c5, c6, c7, c8].drop 2).take (Tryz.prog.cellsOf 59)) = xs[2]? := hg 2 _ rfl
      rw [k1, z2] at h
      exact h
    have g3 : DataW.trod enc Tryz.prog w base spare held n 66 [c3, c4, c5, c6, c7, c8] = some y3 := by
      have h : DataW.trod enc Tryz.prog w base spare held n 66 (([c0, c1, c2, c3, c4, c5, c6, c7, c8].drop 3).take (Tryz.prog.cellsOf 66)) = xs[3]? := hg 3 _ rfl
      rw [k2, z3] at h
      exact h
    obtain ⟨n0, e0, _, w0⟩ := DataW.trod_int Tryz.underlying72 g0
    obtain ⟨n1, e1, _, w1⟩ := DataW.trod_int Tryz.underlying72 g1
    obtain ⟨n2, e2, _, w2⟩ := DataW.trod_int Tryz.underlying59 g2
    have hq := arr_ints Tryz.underlying66 Tryz.underlying59 k1 g3
    obtain ⟨n3, e3, w3⟩ := hq 0 (by decide)
    obtain ⟨n4, e4, w4⟩ := hq 1 (by decide)
    obtain ⟨n5, e5, w5⟩ := hq 2 (by decide)
    obtain ⟨n6, e6, w6⟩ := hq 3 (by decide)
    obtain ⟨n7, e7, w7⟩ := hq 4 (by decide)
    obtain ⟨n8, e8, w8⟩ := hq 5 (by decide)
    simp only [List.cons.injEq, and_true] at e0 e1 e2
    simp only [List.getElem?_cons_zero, List.getElem?_cons_succ, Option.some.injEq] at e3 e4 e5 e6 e7 e8
    subst e0 e1 e2 e3 e4 e5 e6 e7 e8
    simp [Lit.wf, IntKind.min, IntKind.max, IntKind.signed, IntKind.bits] at w0 w1 w2 w3 w4 w5 w6 w7 w8
    obtain ⟨x0, rfl⟩ := Int.eq_ofNat_of_zero_le w0.1
    obtain ⟨x1, rfl⟩ := Int.eq_ofNat_of_zero_le w1.1
    obtain ⟨x2, rfl⟩ := Int.eq_ofNat_of_zero_le w2.1
    obtain ⟨x3, rfl⟩ := Int.eq_ofNat_of_zero_le w3.1
    obtain ⟨x4, rfl⟩ := Int.eq_ofNat_of_zero_le w4.1
    obtain ⟨x5, rfl⟩ := Int.eq_ofNat_of_zero_le w5.1
    obtain ⟨x6, rfl⟩ := Int.eq_ofNat_of_zero_le w6.1
    obtain ⟨x7, rfl⟩ := Int.eq_ofNat_of_zero_le w7.1
    obtain ⟨x8, rfl⟩ := Int.eq_ofNat_of_zero_le w8.1
    refine ⟨⟨x0, x1, x2, fun i => if i = 0 then x3 else if i = 1 then x4 else if i = 2 then x5 else if i = 3 then x6 else if i = 4 then x7 else if i = 5 then x8 else 0⟩, rfl, by show x0 < _; omega, by show x1 < _; omega, by show x2 < _; omega, fun i => ?_⟩
    dsimp only
    repeat' split
    all_goals omega
theorem open_arr6 {r : Reach} {w : World} {b0 base : Nat} {spare : Nat → Bool} {held : Bool} {v : Value} {d : DataW H} {p : List MemPlace} (hv : Value.okWide Tryz.prog w r b0 66 v) (h : DataW.Trod enc Tryz.prog w base spare held 66 v d p) :
    ∃ f : Nat → Nat, v = .agg #[.int .u64 (f 0), .int .u64 (f 1), .int .u64 (f 2), .int .u64 (f 3), .int .u64 (f 4), .int .u64 (f 5)] ∧ ∀ i, i < 6 → f i < 18446744073709551616 := by
  obtain ⟨fuel, hf⟩ := h
  obtain ⟨xs, m, _, _, hlen, hxl, hat⟩ := DataW.trod_array Tryz.underlying66 hf
  have hC : Tryz.prog.cellsOf 66 = 6 := by kernel_rfl
  have hc1 : Tryz.prog.cellsOf 59 = 1 := by kernel_rfl
  rw [hC] at hlen
  obtain ⟨cs, rfl, hsz⟩ : ∃ cs, v = .agg cs ∧ cs.size = 6 := by
    simp only [Value.okWide, Tryz.underlying66] at hv
    obtain ⟨cs, h1, h2, _⟩ := hv
    exact ⟨cs, h1, h2.trans hC⟩
  obtain ⟨l⟩ := cs
  match l, hsz with
  | [c0, c1, c2, c3, c4, c5], _ =>
    have hk : ∀ i : Nat, i < 6 → ∃ n : Nat, ([c0, c1, c2, c3, c4, c5] : List Value)[i]? = some (.int .u64 n) ∧ n < 18446744073709551616 := fun i hi => by
      have hx := hat i hi
      rw [hc1] at hx
      have hxs : xs[i]? = some (xs[i]'(by omega)) := List.getElem?_eq_getElem (by omega)
      rw [hxs] at hx
      obtain ⟨z, hz, _, hw⟩ := DataW.trod_int Tryz.underlying59 hx
      simp [Lit.wf, IntKind.min, IntKind.max, IntKind.signed, IntKind.bits] at hw
      refine ⟨z.toNat, ?_, by omega⟩
      have hh := congrArg List.head? hz
      simp only [List.head?_take, Nat.mul_one, List.head?_cons] at hh
      rw [if_neg (by decide), List.head?_drop] at hh
      rw [Int.toNat_of_nonneg hw.1]
      exact hh
    obtain ⟨n0, e0, l0⟩ := hk 0 (by decide)
    obtain ⟨n1, e1, l1⟩ := hk 1 (by decide)
    obtain ⟨n2, e2, l2⟩ := hk 2 (by decide)
    obtain ⟨n3, e3, l3⟩ := hk 3 (by decide)
    obtain ⟨n4, e4, l4⟩ := hk 4 (by decide)
    obtain ⟨n5, e5, l5⟩ := hk 5 (by decide)
    simp only [List.getElem?_cons_zero, List.getElem?_cons_succ, Option.some.injEq] at e0 e1 e2 e3 e4 e5
    subst e0 e1 e2 e3 e4 e5
    refine ⟨fun i => [n0, n1, n2, n3, n4, n5].getD i 0, rfl, fun i hi => ?_⟩
    match i, hi with
    | 0, _ => exact l0
    | 1, _ => exact l1
    | 2, _ => exact l2
    | 3, _ => exact l3
    | 4, _ => exact l4
    | 5, _ => exact l5
theorem rec_cells {w : World} {base : Nat} {spare : Nat → Bool} {held : Bool} {q : Nat} {cs : List Value} {y : DataW H × List MemPlace} (h : DataW.trod enc Tryz.prog w base spare held q 74 cs = some y) : ∃ g : RecV, cs = (rcells g).toList ∧ g.ok := by
  have hC : Tryz.prog.cellsOf 74 = 9 := by kernel_rfl
  obtain ⟨xs, n, _, _, hl, hlen, hg⟩ := DataW.trod_struct Tryz.underlying74 h
  rw [hC] at hl
  match cs, hl with
  | [c0, c1, c2, c3, c4, c5, c6, c7, c8], _ =>
    have k0 : Tryz.prog.cellsOf 72 = 1 := by kernel_rfl
    have k1 : Tryz.prog.cellsOf 59 = 1 := by kernel_rfl
    have k2 : Tryz.prog.cellsOf 66 = 6 := by kernel_rfl
    have hx : ∀ j, j < 4 → ∃ y, xs[j]? = some y := fun j hj => ⟨xs[j]'(by rw [hlen]; exact hj), List.getElem?_eq_getElem _⟩
    obtain ⟨y0, z0⟩ := hx 0 (by decide)
    obtain ⟨y1, z1⟩ := hx 1 (by decide)
    obtain ⟨y2, z2⟩ := hx 2 (by decide)
    obtain ⟨y3, z3⟩ := hx 3 (by decide)
    have g0 : DataW.trod enc Tryz.prog w base spare held n 72 [c0] = some y0 := by
      have h : DataW.trod enc Tryz.prog w base spare held n 72 (([c0, c1, c2, c3, c4, c5, c6, c7, c8].drop 0).take (Tryz.prog.cellsOf 72)) = xs[0]? := hg 0 _ rfl
      rw [k0, z0] at h
      exact h
    have g1 : DataW.trod enc Tryz.prog w base spare held n 72 [c1] = some y1 := by
      have h : DataW.trod enc Tryz.prog w base spare held n 72 (([c0, c1, c2, c3, c4, c5, c6, c7, c8].drop 1).take (Tryz.prog.cellsOf 72)) = xs[1]? := hg 1 _ rfl
      rw [k0, z1] at h
      exact h
    have g2 : DataW.trod enc Tryz.prog w base spare held n 59 [c2] = some y2 := by
      have h : DataW.trod enc Tryz.prog w base spare held n 59 (([c0, c1, c2, c3, c4, c5, c6, c7, c8].drop 2).take (Tryz.prog.cellsOf 59)) = xs[2]? := hg 2 _ rfl
      rw [k1, z2] at h
      exact h
    have g3 : DataW.trod enc Tryz.prog w base spare held n 66 [c3, c4, c5, c6, c7, c8] = some y3 := by
      have h : DataW.trod enc Tryz.prog w base spare held n 66 (([c0, c1, c2, c3, c4, c5, c6, c7, c8].drop 3).take (Tryz.prog.cellsOf 66)) = xs[3]? := hg 3 _ rfl
      rw [k2, z3] at h
      exact h
    obtain ⟨n0, e0, _, w0⟩ := DataW.trod_int Tryz.underlying72 g0
    obtain ⟨n1, e1, _, w1⟩ := DataW.trod_int Tryz.underlying72 g1
    obtain ⟨n2, e2, _, w2⟩ := DataW.trod_int Tryz.underlying59 g2
    have hq := arr_ints Tryz.underlying66 Tryz.underlying59 k1 g3
    obtain ⟨n3, e3, w3⟩ := hq 0 (by decide)
    obtain ⟨n4, e4, w4⟩ := hq 1 (by decide)
    obtain ⟨n5, e5, w5⟩ := hq 2 (by decide)
    obtain ⟨n6, e6, w6⟩ := hq 3 (by decide)
    obtain ⟨n7, e7, w7⟩ := hq 4 (by decide)
    obtain ⟨n8, e8, w8⟩ := hq 5 (by decide)
    simp only [List.cons.injEq, and_true] at e0 e1 e2
    simp only [List.getElem?_cons_zero, List.getElem?_cons_succ, Option.some.injEq] at e3 e4 e5 e6 e7 e8
    subst e0 e1 e2 e3 e4 e5 e6 e7 e8
    simp [Lit.wf, IntKind.min, IntKind.max, IntKind.signed, IntKind.bits] at w0 w1 w2 w3 w4 w5 w6 w7 w8
    obtain ⟨x0, rfl⟩ := Int.eq_ofNat_of_zero_le w0.1
    obtain ⟨x1, rfl⟩ := Int.eq_ofNat_of_zero_le w1.1
    obtain ⟨x2, rfl⟩ := Int.eq_ofNat_of_zero_le w2.1
    obtain ⟨x3, rfl⟩ := Int.eq_ofNat_of_zero_le w3.1
    obtain ⟨x4, rfl⟩ := Int.eq_ofNat_of_zero_le w4.1
    obtain ⟨x5, rfl⟩ := Int.eq_ofNat_of_zero_le w5.1
    obtain ⟨x6, rfl⟩ := Int.eq_ofNat_of_zero_le w6.1
    obtain ⟨x7, rfl⟩ := Int.eq_ofNat_of_zero_le w7.1
    obtain ⟨x8, rfl⟩ := Int.eq_ofNat_of_zero_le w8.1
    refine ⟨⟨x0, x1, x2, fun i => if i = 0 then x3 else if i = 1 then x4 else if i = 2 then x5 else if i = 3 then x6 else if i = 4 then x7 else if i = 5 then x8 else 0⟩, rfl, by show x0 < _; omega, by show x1 < _; omega, by show x2 < _; omega, fun i => ?_⟩
    dsimp only
    repeat' split
    all_goals omega
end
end Go.Proofs.YtcmdmnnkbliggaaGreatDoor

/-
  Which call a record is: layer 12's functions.
-/
namespace Go.Proofs.YtcmdmnnkbliggaaGreatDoor
open Go.RowKit
set_option linter.unusedVariables false

/-- The name that a look gives, or none. -/
def NameOf (P : Nat → Bool) (T : Nat → SR) (n : Nat) (nm : ByteArray) : Prop :=
  (∃ j, j < n ∧ P j = true ∧ (∀ i, i < j → P i = false) ∧ nm = (T j).nm) ∨ ((∀ i, i < n → P i = false) ∧ nm = ⟨#[]⟩)
theorem NameOf.uniq {P : Nat → Bool} {T : Nat → SR} {n : Nat} {a b : ByteArray} (h : NameOf P T n a) (h' : NameOf P T n b) : a = b := by
  rcases h with ⟨j, h1, h2, h3, rfl⟩ | ⟨h1, rfl⟩ <;> rcases h' with ⟨k, k1, k2, k3, rfl⟩ | ⟨k1, rfl⟩
  · have e : j = k := by
      rcases Nat.lt_trichotomy j k with h | h | h
      · rw [k3 j h] at h2; cases h2
      · exact h
      · rw [h3 k h] at k2; cases k2
    rw [e]
  · rw [k1 j h1] at h2; cases h2
  · rw [h1 k k1] at k2; cases k2
  · rfl
theorem Name_nm (A : Option Addr) (n cap : Nat) (T : Nat → SR) (a : Nat) (ha : a < 5) (x : Int) (w : World) (hn : n ≤ 1000000) (ht : TbA w A n T) :
    Calls Tryz.prog 129 #[.slice A n cap, .int .i64 (a : Int), .int .i64 x] w fun e w' => ∃ (nm : ByteArray) (er : Int), NameOf (isNum T a x) T n nm ∧ e = .returned (.tuple #[.string nm, .int .i64 er]) ∧ Below w.heap.size w w' := by
  refine (Name_any A n cap T a ha x w hn ht).mono ?_
  rintro e w' ⟨⟨j, h1, h2, h3, rfl⟩ | ⟨h1, rfl⟩, hB⟩
  · exact ⟨_, _, .inl ⟨j, h1, h2, h3, rfl⟩, rfl, hB⟩
  · exact ⟨_, _, .inr ⟨h1, rfl⟩, rfl, hB⟩
theorem Sub_nm (A : Option Addr) (n cap : Nat) (T : Nat → SR) (mx sb : Int) (w : World) (hn : n ≤ 1000000) (ht : TbA w A n T) :
    Calls Tryz.prog 132 #[.slice A n cap, .int .i64 mx, .int .i64 sb] w fun e w' => ∃ (nm : ByteArray) (er : Bool), NameOf (isSub T mx sb) T n nm ∧ e = .returned (.tuple #[.string nm, .bool er]) ∧ Below w.heap.size w w' := by
  refine (Sub_any A n cap T mx sb w hn ht).mono ?_
  rintro e w' ⟨⟨j, h1, h2, h3, rfl⟩ | ⟨h1, rfl⟩, hB⟩
  · exact ⟨_, _, .inl ⟨j, h1, h2, h3, rfl⟩, rfl, hB⟩
  · exact ⟨_, _, .inr ⟨h1, rfl⟩, rfl, hB⟩
def kindF (n : Nat) : Nat := if n = 102 then 1 else if n = 117 then 2 else 0
set_option maxHeartbeats 1000000 in
theorem kind_any (n : Nat) (w : World) : Calls Tryz.prog 83 #[.int .u32 n] w fun e w' => e = .returned (.int .i64 (kindF n : Nat)) ∧ w = w' := by
  by_cases h1 : n = 102
  · subst h1
    go_enter Tryz.func83, Tryz.ntmps83
    go_wp2
    go_ret
    exact ⟨rfl, rfl⟩
  by_cases h2 : n = 117
  · subst h2
    go_enter Tryz.func83, Tryz.ntmps83
    go_wp2
    go_ret
    exact ⟨rfl, rfl⟩
  have f1 : ((n : Int) == 102) = false := beq_eq_false_iff_ne.2 (by omega)
  have f2 : ((n : Int) == 117) = false := beq_eq_false_iff_ne.2 (by omega)
  have HE : Hid (kindF n = 0) := Lib.hid (by rw [kindF, if_neg h1, if_neg h2])
  clear h1 h2
  go_enter Tryz.func83, Tryz.ntmps83
  go_wp2
  go_ret
  exact ⟨by rw [HE.out]; rfl, rfl⟩
set_option maxHeartbeats 1000000 in
theorem byNumber_any (A : Option Addr) (n cap : Nat) (a : Int) (w : World) :
    Calls Tryz.prog 82 #[.slice A n cap, .int .i64 a] w fun e w' => e = .returned (.func (.func 128) #[] #[.pointer (some ⟨w.heap.size, 0, none⟩), .pointer (some ⟨w.heap.size + 1, 0, none⟩)]) ∧ (w.alloc (.cells #[.slice A n cap] 48)).alloc (.cells #[.int .i64 a] 3) = w' := by
  go_enter Tryz.func82, Tryz.ntmps82
  go_wp2
  go_ret
  exact ⟨by simp, rfl⟩
set_option maxHeartbeats 1000000 in
theorem byArgument_any (A : Option Addr) (n cap : Nat) (a : Int) (w : World) :
    Calls Tryz.prog 84 #[.slice A n cap, .int .i64 a] w fun e w' => e = .returned (.func (.func 131) #[] #[.pointer (some ⟨w.heap.size, 0, none⟩), .pointer (some ⟨w.heap.size + 1, 0, none⟩)]) ∧ (w.alloc (.cells #[.slice A n cap] 48)).alloc (.cells #[.int .i64 a] 3) = w' := by
  go_enter Tryz.func84, Tryz.ntmps84
  go_wp2
  go_ret
  exact ⟨by simp, rfl⟩
set_option maxRecDepth 100000 in
set_option maxHeartbeats 8000000 in
theorem byNumber1_any (r : RecV) (hrn : r.n < 4294967296) (A : Option Addr) (n cap : Nat) (T : Nat → SR) (a : Nat) (ha : a < 5) (c0 c1 : Nat) (w : World) (hn : n ≤ 1000000) (h0 : w.cell? ⟨c0, 0, none⟩ = some (.slice A n cap)) (h1 : w.cell? ⟨c1, 0, none⟩ = some (.int .i64 a)) (ht : TbA w A n T) :
    Calls Tryz.prog 128 #[.agg (rcells r), .pointer (some ⟨c0, 0, none⟩), .pointer (some ⟨c1, 0, none⟩)] w fun e w' => ∃ nm : ByteArray, NameOf (isNum T a (ownF a r.n : Nat)) T n nm ∧ e = .returned (.string nm) ∧ Below w.heap.size w w' := by
  obtain ⟨U, hU⟩ : ∃ U, w.alloc (.cells #[.int .u32 r.n, .int .u32 r.a, .int .u64 r.p, .int .u64 (r.q 0), .int .u64 (r.q 1), .int .u64 (r.q 2), .int .u64 (r.q 3), .int .u64 (r.q 4), .int .u64 (r.q 5)] 78) = U := ⟨_, rfl⟩
  have ru : RowC U w.heap.size (rcells r) 78 := by rw [← hU]; exact RowC.new _ _ _ _ rfl
  have hbU : Below w.heap.size w U := by rw [← hU]; exact (Below.refl _ _).alloc (Nat.le_refl _) _
  have l0 := World.block_lt_of_cell? _ _ h0
  have l1 := World.block_lt_of_cell? _ _ h1
  have k0 := (hbU.cell (p := ⟨c0, 0, none⟩) l0).trans h0
  have k1 := (hbU.cell (p := ⟨c1, 0, none⟩) l1).trans h1
  have hl0 := World.block_lt_of_cell? _ _ k0
  have hl1 := World.block_lt_of_cell? _ _ k1
  have hlu := ru.lt
  have d0 := ru.cell 0 (.int .u32 r.n) rfl
  have HT := Lib.hid (ht.below hbU (Nat.le_refl _))
  have HBU := Lib.hid hbU
  have HU := Lib.hid hU
  have HO := Lib.hid fun W => own_any a r.n W hrn
  have how : ownF a r.n < 4294967296 := by
    unfold ownF
    repeat' split
    all_goals omega
  obtain ⟨x, hx⟩ : ∃ x, ownF a r.n = x := ⟨_, rfl⟩
  rw [hx] at HO how ⊢
  have HNM := Lib.hid fun W (hW : Below U.heap.size U W) => Name_nm A n cap T a ha (x : Nat) W hn (HT.out.below hW (Nat.le_refl _))
  have v1 : IntKind.i64.wrap (x : Int) = (x : Int) := by rw [IntKind.wrap_i64]; omega
  clear hU hbU ru ht l0 l1 h0 h1 hx HT
  unfold rcells
  go_enter Tryz.func128, Tryz.ntmps128
  go_upto_region 1 with fail
  rw [HU.out]
  have hk0 : Below U.heap.size U U.drew := (Below.refl _ U).drew
  have HS : Hid (∀ W, Below U.heap.size U W → W.cell? ⟨c0, 0, none⟩ = some (.slice A n cap) ∧ W.cell? ⟨c1, 0, none⟩ = some (.int .i64 a) ∧ W.cell? ⟨w.heap.size, 0, none⟩ = some (.int .u32 r.n)) := Lib.hid fun W hW => ⟨(hW.cell (p := ⟨c0, 0, none⟩) hl0).trans k0, (hW.cell (p := ⟨c1, 0, none⟩) hl1).trans k1, (hW.cell (p := ⟨w.heap.size, 0, none⟩) hlu).trans d0⟩
  go_region_held3 (fun w' => w'.cell? ⟨c0, 0, none⟩ = some (.slice A n cap) ∧ w'.cell? ⟨c1, 0, none⟩ = some (.int .i64 a) ∧ w'.cell? ⟨w.heap.size, 0, none⟩ = some (.int .u32 r.n))
    (first | exact HS.out _ hk0 | exact HS.out _ hk1 | exact HS.out _ hk2)
    (first
      | (go_at_call 130; (with_reducible refine (HO.out _).mono ?_); rintro e w2 ⟨rfl, hB2⟩; have hk1 := hk0.trans (hB2.mono hk0.size))
      | (go_at_call 129; (with_reducible refine (HNM.out _ hk1).mono ?_); rintro e w3 ⟨nm, er, hN, rfl, hB3⟩; have hk2 := hk1.trans (hB3.mono hk1.size)))
  all_goals go_wp2
  all_goals go_ret
  all_goals exact ⟨nm, hN, rfl, HBU.out.trans (hk2.mono HBU.out.size)⟩
set_option maxRecDepth 100000 in
set_option maxHeartbeats 8000000 in
theorem byArgument1_any (r : RecV) (hrq : ∀ i, r.q i < 18446744073709551616) (A : Option Addr) (n cap : Nat) (T : Nat → SR) (a : Nat) (c0 c1 : Nat) (w : World) (hn : n ≤ 1000000) (h0 : w.cell? ⟨c0, 0, none⟩ = some (.slice A n cap)) (h1 : w.cell? ⟨c1, 0, none⟩ = some (.int .i64 a)) (ht : TbA w A n T) :
    Calls Tryz.prog 131 #[.agg (rcells r), .pointer (some ⟨c0, 0, none⟩), .pointer (some ⟨c1, 0, none⟩)] w fun e w' => ∃ nm : ByteArray, NameOf (isSub T a (r.q 0 % 4294967296 : Nat)) T n nm ∧ e = .returned (.string nm) ∧ Below w.heap.size w w' := by
  obtain ⟨U, hU⟩ : ∃ U, w.alloc (.cells #[.int .u32 r.n, .int .u32 r.a, .int .u64 r.p, .int .u64 (r.q 0), .int .u64 (r.q 1), .int .u64 (r.q 2), .int .u64 (r.q 3), .int .u64 (r.q 4), .int .u64 (r.q 5)] 78) = U := ⟨_, rfl⟩
  have ru : RowC U w.heap.size (rcells r) 78 := by rw [← hU]; exact RowC.new _ _ _ _ rfl
  have hbU : Below w.heap.size w U := by rw [← hU]; exact (Below.refl _ _).alloc (Nat.le_refl _) _
  have l0 := World.block_lt_of_cell? _ _ h0
  have l1 := World.block_lt_of_cell? _ _ h1
  have k0 := (hbU.cell (p := ⟨c0, 0, none⟩) l0).trans h0
  have k1 := (hbU.cell (p := ⟨c1, 0, none⟩) l1).trans h1
  have hl0 := World.block_lt_of_cell? _ _ k0
  have hl1 := World.block_lt_of_cell? _ _ k1
  have hlu := ru.lt
  have RU := Lib.hid ru
  have HT := Lib.hid (ht.below hbU (Nat.le_refl _))
  have HBU := Lib.hid hbU
  have HU := Lib.hid hU
  have HA : Hid (∀ W, Calls Tryz.prog 112 #[.int .i64 2, .agg #[.int .u32 r.n, .int .u32 r.a, .int .u64 r.p, .int .u64 (r.q 0), .int .u64 (r.q 1), .int .u64 (r.q 2), .int .u64 (r.q 3), .int .u64 (r.q 4), .int .u64 (r.q 5)]] W fun e w' => e = .returned (.agg #[.int .u64 (r.q 0 % 4294967296 : Nat), .int .u64 (r.q 1 % 4294967296 : Nat), .int .u64 (r.q 2 % 4294967296 : Nat), .int .u64 (r.q 3 % 4294967296 : Nat), .int .u64 (r.q 4 % 4294967296 : Nat), .int .u64 (r.q 5 % 4294967296 : Nat)]) ∧ Below W.heap.size W w') := Lib.hid fun W => args_any 2 r.n r.a r.p r.q W fun i _ => hrq i
  have hxl : r.q 0 % 4294967296 < 4294967296 := Nat.mod_lt _ (by decide)
  generalize r.q 0 % 4294967296 = x at *
  generalize r.q 1 % 4294967296 = y1 at *
  generalize r.q 2 % 4294967296 = y2 at *
  generalize r.q 3 % 4294967296 = y3 at *
  generalize r.q 4 % 4294967296 = y4 at *
  generalize r.q 5 % 4294967296 = y5 at *
  have HNM := Lib.hid fun W (hW : Below U.heap.size U W) => Sub_nm A n cap T a (x : Nat) W hn (HT.out.below hW (Nat.le_refl _))
  have v1 : IntKind.i64.wrap (x : Int) = (x : Int) := by rw [IntKind.wrap_i64]; omega
  have HIX : ∀ (y1 y2 y3 y4 y5 : Nat) W, (Instr.index 66 (.agg #[.int .u64 (x : Nat), .int .u64 y1, .int .u64 y2, .int .u64 y3, .int .u64 y4, .int .u64 y5]) (.int .i64 0)).run Tryz.prog W = .ok (.int .u64 x) W := fun y1 y2 y3 y4 y5 W => by
    have := ixS (fun i => if i = 0 then x else if i = 1 then y1 else if i = 2 then y2 else if i = 3 then y3 else if i = 4 then y4 else y5) 0 (by decide) W
    simpa [sixA] using this
  clear hU hbU ru ht l0 l1 h0 h1 HT
  unfold rcells
  go_enter Tryz.func131, Tryz.ntmps131
  go_upto_region 1 with fail
  rw [HU.out]
  have hk0 : Below U.heap.size U U.drew := (Below.refl _ U).drew
  have HS : Hid (∀ W, Below U.heap.size U W → W.cell? ⟨c0, 0, none⟩ = some (.slice A n cap) ∧ W.cell? ⟨c1, 0, none⟩ = some (.int .i64 a) ∧ W.cell? ⟨w.heap.size, 0, none⟩ = some (.int .u32 r.n) ∧ W.cell? ⟨w.heap.size, 1, none⟩ = some (.int .u32 r.a) ∧ W.cell? ⟨w.heap.size, 2, none⟩ = some (.int .u64 r.p) ∧ W.cell? ⟨w.heap.size, 3, none⟩ = some (.int .u64 (r.q 0)) ∧ W.cell? ⟨w.heap.size, 4, none⟩ = some (.int .u64 (r.q 1)) ∧ W.cell? ⟨w.heap.size, 5, none⟩ = some (.int .u64 (r.q 2)) ∧ W.cell? ⟨w.heap.size, 6, none⟩ = some (.int .u64 (r.q 3)) ∧ W.cell? ⟨w.heap.size, 7, none⟩ = some (.int .u64 (r.q 4)) ∧ W.cell? ⟨w.heap.size, 8, none⟩ = some (.int .u64 (r.q 5))) := Lib.hid fun W hW => ⟨(hW.cell (p := ⟨c0, 0, none⟩) hl0).trans k0, (hW.cell (p := ⟨c1, 0, none⟩) hl1).trans k1, (RU.out.below hW hlu).cell 0 _ rfl, (RU.out.below hW hlu).cell 1 _ rfl, (RU.out.below hW hlu).cell 2 _ rfl, (RU.out.below hW hlu).cell 3 _ rfl, (RU.out.below hW hlu).cell 4 _ rfl, (RU.out.below hW hlu).cell 5 _ rfl, (RU.out.below hW hlu).cell 6 _ rfl, (RU.out.below hW hlu).cell 7 _ rfl, (RU.out.below hW hlu).cell 8 _ rfl⟩
  go_region_held3 (fun w' => w'.cell? ⟨c0, 0, none⟩ = some (.slice A n cap) ∧ w'.cell? ⟨c1, 0, none⟩ = some (.int .i64 a) ∧ w'.cell? ⟨w.heap.size, 0, none⟩ = some (.int .u32 r.n) ∧ w'.cell? ⟨w.heap.size, 1, none⟩ = some (.int .u32 r.a) ∧ w'.cell? ⟨w.heap.size, 2, none⟩ = some (.int .u64 r.p) ∧ w'.cell? ⟨w.heap.size, 3, none⟩ = some (.int .u64 (r.q 0)) ∧ w'.cell? ⟨w.heap.size, 4, none⟩ = some (.int .u64 (r.q 1)) ∧ w'.cell? ⟨w.heap.size, 5, none⟩ = some (.int .u64 (r.q 2)) ∧ w'.cell? ⟨w.heap.size, 6, none⟩ = some (.int .u64 (r.q 3)) ∧ w'.cell? ⟨w.heap.size, 7, none⟩ = some (.int .u64 (r.q 4)) ∧ w'.cell? ⟨w.heap.size, 8, none⟩ = some (.int .u64 (r.q 5)))
    (first | exact HS.out _ hk0 | exact HS.out _ hk1 | exact HS.out _ hk2)
    (first
      | (go_at_call 112; (with_reducible refine (HA.out _).mono ?_); rintro e w2 ⟨rfl, hB2⟩; have hk1 := hk0.trans (hB2.mono hk0.size))
      | (go_at_call 132; (with_reducible refine (HNM.out _ hk1).mono ?_); rintro e w3 ⟨nm, er, hN, rfl, hB3⟩; have hk2 := hk1.trans (hB3.mono hk1.size)))
  all_goals go_wp2
  all_goals go_ret
  all_goals exact ⟨nm, hN, rfl, HBU.out.trans (hk2.mono HBU.out.size)⟩
/-- Which call a record is. -/
def CallP (T : Nat → SR) (n : Nat) (r : RecV) (sm : Bool) (ab : Nat) (nm : ByteArray) (mu : Bool) : Prop :=
  ((selA r.a r.n).2 = false ∧ sm = false ∧ ab = 0 ∧ nm = ⟨#[]⟩ ∧ mu = false) ∨
  ((selA r.a r.n).2 = true ∧ sm = true ∧ ab = (selA r.a r.n).1 ∧ ((ab = 2 ∧ kindF r.n ≠ 0 ∧ mu = true ∧ NameOf (isSub T (kindF r.n : Nat) (r.q 0 % 4294967296 : Nat)) T n nm) ∨ (¬ (ab = 2 ∧ kindF r.n ≠ 0) ∧ mu = false ∧ NameOf (isNum T ab (ownF ab r.n : Nat)) T n nm)))
abbrev call0 : Array Value := #[.bool false, .int .i64 0, .string ⟨#[]⟩, .bool false]
theorem infoCall : (Tryz.prog.info? 88).map (·.size) = some 4 := by kernel_rfl
theorem selA_lt (a n : Nat) : (selA a n).1 < 5 := by
  unfold selA
  repeat' split
  all_goals decide
set_option maxRecDepth 100000 in
set_option maxHeartbeats 8000000 in
theorem of_mux (A : Option Addr) (n cap : Nat) (T : Nat → SR) (r : RecV) (hr : r.ok) (w : World) (hn : n ≤ 1000000) (ht : TbA w A n T) :
    Calls Tryz.prog 45 #[.slice A n cap, .agg (rcells r)] w fun e w' => ∃ sm ab nm mu, CallP T n r sm ab nm mu ∧ e = .returned (.agg #[.bool sm, .int .i64 (ab : Nat), .string nm, .bool mu]) ∧ Below w.heap.size w w' := by
  obtain ⟨U, hU⟩ : ∃ U, (w.alloc (.cells #[.int .u32 r.n, .int .u32 r.a, .int .u64 r.p, .int .u64 (r.q 0), .int .u64 (r.q 1), .int .u64 (r.q 2), .int .u64 (r.q 3), .int .u64 (r.q 4), .int .u64 (r.q 5)] 78)).alloc (.cells call0 88) = U := ⟨_, rfl⟩
  have ru : RowC U w.heap.size (rcells r) 78 := by rw [← hU]; exact (RowC.new _ _ _ _ rfl).alloc _
  have rc : RowC U (w.heap.size + 1) call0 88 := by rw [← hU]; exact RowC.new _ _ _ _ (by simp)
  have hbU : Below w.heap.size w U := by rw [← hU]; exact ((Below.refl _ _).alloc (Nat.le_refl _) _).alloc (by simp) _
  have HT := Lib.hid (ht.below hbU (Nat.le_refl _))
  have HRU := Lib.hid ru
  have HRC := Lib.hid rc
  have HBU := Lib.hid hbU
  have HU := Lib.hid hU
  have HOK := Lib.hid hr
  have HSL := Lib.hid fun W => select_ok r.a r.n W hr.2.1 hr.1
  have d0 := ru.cell 0 (.int .u32 r.n) rfl
  have d1 := ru.cell 1 (.int .u32 r.a) rfl
  have hab := selA_lt r.a r.n
  obtain ⟨ab, hA⟩ : ∃ ab, (selA r.a r.n).1 = ab := ⟨_, rfl⟩
  obtain ⟨sm, hS⟩ : ∃ sm, (selA r.a r.n).2 = sm := ⟨_, rfl⟩
  rw [hA, hS] at HSL
  rw [hA] at hab
  have HA := Lib.hid hA
  have HSM := Lib.hid hS
  clear hU hbU ru rc ht hr hA hS
  unfold rcells
  go_enter Tryz.func45, Tryz.ntmps45
  go_upto_region 1 with fail
  rw [HU.out]
  go_wp2_with fail
  refine (HSL.out _).mono ?_
  rintro e w1 ⟨rfl, hB1⟩
  have HRC1 := Lib.hid (HRC.out.below hB1 HRC.out.lt)
  have HRU1 := Lib.hid (HRU.out.below hB1 HRU.out.lt)
  have HT1 := Lib.hid (HT.out.below hB1 (Nat.le_refl _))
  have HB1 := Lib.hid (HBU.out.trans (hB1.mono HBU.out.size))
  clear hB1 HRC HRU HT HBU d0 d1
  cases sm
  · have HP : Hid (CallP T n r false 0 ⟨#[]⟩ false) := Lib.hid (.inl ⟨HSM.out, rfl, rfl, rfl, rfl⟩)
    go_wp2_with (refine wpList_store_row (by rfl) 88 _ _ (by rfl) (w.heap.size + 1) call0 (by rfl) (by rfl) _ _ HRC1.out (show _ = some call0.size from infoCall) (by rfl) (by simp [Value.oneCell']) ?_)
    refine bodyPost_ret (results_cell_row Tryz.results45 _ _ (w.heap.size + 1) _ call0 (0, 0) _ (by rfl) (setRow_heap _ _ _ _ _ _ HRC1.out) Tryz.underlying88 (by rfl) (show _ = some call0.size from infoCall)) rfl ?_
    exact ⟨_, _, _, _, HP.out, rfl, below_setRow HB1.out (by omega) _⟩
  · have HBN := Lib.hid fun W => byNumber_any A n cap (ab : Nat) W
    have HBA := Lib.hid fun (K : Nat) W => byArgument_any A n cap (K : Nat) W
    have HKD := Lib.hid fun W => kind_any r.n W
    have HNN := Lib.hid hn
    have HAB := Lib.hid hab
    clear hn
    obtain ⟨kd, hk⟩ : ∃ kd, kindF r.n = kd := ⟨_, rfl⟩
    rw [hk] at HKD
    have HK := Lib.hid hk
    clear hk
    go_wp2_with fail
    refine (HBN.out _).mono ?_
    rintro e w2 ⟨rfl, hw2⟩
    have x0 : RowC w2 w1.heap.size #[.slice A n cap] 48 := by rw [← hw2]; exact (RowC.new _ _ _ _ rfl).alloc _
    have x1 : RowC w2 (w1.heap.size + 1) #[.int .i64 (ab : Nat)] 3 := by rw [← hw2]; exact RowC.new _ _ _ _ (by simp)
    have hb2 : Below w1.heap.size w1 w2 := by rw [← hw2]; exact ((Below.refl _ _).alloc (Nat.le_refl _) _).alloc (by simp) _
    have HX0 := Lib.hid x0
    have HX1 := Lib.hid x1
    have HRC2 := Lib.hid (HRC1.out.below hb2 HRC1.out.lt)
    have HRU2 := Lib.hid (HRU1.out.below hb2 HRU1.out.lt)
    have HT2 := Lib.hid (HT1.out.below hb2 (Nat.le_refl _))
    have HB2 := Lib.hid (HB1.out.trans (hb2.mono HB1.out.size))
    have d0 := HRU2.out.cell 0 (.int .u32 r.n) rfl
    clear hw2 x0 x1 hb2 HRC1 HRU1 HT1 HB1
    generalize w1.heap.size = C at *
    go_wp2_with fail
    refine (HKD.out _).mono ?_
    rintro e w2 ⟨rfl, rfl⟩
    clear d0
    by_cases hm : ab = 2 ∧ kd ≠ 0
    · obtain ⟨rfl, hk0⟩ := hm
      have f2 : ((kd : Int) != 0) = true := by simp [hk0]
      have f3 : (kd != 0) = true := by simp [hk0]
      have HK0 := Lib.hid hk0
      clear hk0
      go_wp2_with fail
      refine (HBA.out kd _).mono ?_
      rintro e w3 ⟨rfl, hw3⟩
      have x0 : RowC w3 w2.heap.size #[.slice A n cap] 48 := by rw [← hw3]; exact (RowC.new _ _ _ _ rfl).alloc _
      have x1 : RowC w3 (w2.heap.size + 1) #[.int .i64 (kd : Nat)] 3 := by rw [← hw3]; exact RowC.new _ _ _ _ (by simp)
      have hb3 : Below w2.heap.size w2 w3 := by rw [← hw3]; exact ((Below.refl _ _).alloc (Nat.le_refl _) _).alloc (by simp) _
      have HRCX := Lib.hid (HRC2.out.below hb3 HRC2.out.lt)
      have HRUX := Lib.hid (HRU2.out.below hb3 HRU2.out.lt)
      have HBX := Lib.hid (HB2.out.trans (hb3.mono HB2.out.size))
      have HFN := Lib.hid (byArgument1_any r HOK.out.2.2.2 A n cap T (kd : Nat) w2.heap.size (w2.heap.size + 1) w3 HNN.out (x0.cell 0 _ rfl) (x1.cell 0 _ rfl) (HT2.out.below hb3 (Nat.le_refl _)))
      unfold rcells at HFN
      clear hw3 x0 x1 hb3 HRC2 HRU2 HT2 HB2 HX0 HX1
      generalize w2.heap.size = D at *
      have hbx : Below w.heap.size w w3 := HBX.out
      have d0 := HRUX.out.cell 0 (.int .u32 r.n) rfl
      have d1 := HRUX.out.cell 1 (.int .u32 r.a) rfl
      have d2 := HRUX.out.cell 2 (.int .u64 r.p) rfl
      have d3 := HRUX.out.cell 3 (.int .u64 (r.q 0)) rfl
      have d4 := HRUX.out.cell 4 (.int .u64 (r.q 1)) rfl
      have d5 := HRUX.out.cell 5 (.int .u64 (r.q 2)) rfl
      have d6 := HRUX.out.cell 6 (.int .u64 (r.q 3)) rfl
      have d7 := HRUX.out.cell 7 (.int .u64 (r.q 4)) rfl
      have d8 := HRUX.out.cell 8 (.int .u64 (r.q 5)) rfl
      go_wp2_with fail
      refine HFN.out.mono ?_
      rintro e w5 ⟨nm, hN, rfl, hB5⟩
      have HP : Hid (CallP T n r true 2 nm true) := Lib.hid (.inr ⟨HSM.out, rfl, HA.out.symm, .inl ⟨rfl, by rw [HK.out]; exact HK0.out, rfl, by rw [HK.out]; exact hN⟩⟩)
      have HRC5 := Lib.hid (HRCX.out.below hB5 HRCX.out.lt)
      have HB5 := Lib.hid (hbx.trans (hB5.mono hbx.size))
      clear hN hB5 hbx HRCX HRUX HBX HFN d0 d1 d2 d3 d4 d5 d6 d7 d8
      go_wp2_with (refine wpList_store_row (by rfl) 88 _ _ (by rfl) (w.heap.size + 1) #[.bool true, .int .i64 (2 : Nat), .string nm, .bool true] (by rfl) (by rfl) _ _ HRC5.out (show _ = some 4 from infoCall) (by rfl) (by simp [Value.oneCell']) ?_)
      refine bodyPost_ret (results_cell_row Tryz.results45 _ _ (w.heap.size + 1) _ #[.bool true, .int .i64 (2 : Nat), .string nm, .bool true] (0, 0) _ (by rfl) (setRow_heap _ _ _ _ _ _ HRC5.out) Tryz.underlying88 (by rfl) (show _ = some 4 from infoCall)) rfl ?_
      exact ⟨_, _, _, _, HP.out, rfl, below_setRow HB5.out (by omega) _⟩
    · have HM := Lib.hid hm
      have HFN := Lib.hid (byNumber1_any r HOK.out.1 A n cap T ab HAB.out C (C + 1) w2 HNN.out (HX0.out.cell 0 _ rfl) (HX1.out.cell 0 _ rfl) HT2.out)
      unfold rcells at HFN
      have HRCX := HRC2
      have HRUX := HRU2
      have HBX := HB2
      have hcs : ((ab : Int) == 2) = false ∨ (((ab : Int) == 2) = true ∧ ((kd : Int) != 0) = false) := by
        by_cases h2 : ab = 2
        · by_cases h3 : kd = 0
          · exact .inr ⟨by simp [h2], by simp [h3]⟩
          · exact absurd ⟨h2, h3⟩ hm
        · exact .inl (beq_eq_false_iff_ne.2 (by omega))
      clear hm HRC2 HRU2 HB2 HX0 HX1 HT2
      have HCS := Lib.hid hcs
      clear hcs
      go_upto_region 6 with fail
      go_cut [32] from 27 to 32 (fun s wx => s = .bool false ∧ wx = w2)
      case first =>
        rcases HCS.out with f1 | ⟨f1, f2⟩
        · have f3 : (ab == 2) = false := by
            have : ¬ (ab : Int) = 2 := beq_eq_false_iff_ne.1 f1
            exact beq_eq_false_iff_ne.2 (by omega)
          go_wp2
          go_meet
          exact ⟨rfl, rfl⟩
        · go_wp2
          go_meet
          exact ⟨rfl, rfl⟩
      case rest =>
        obtain ⟨rfl, rfl⟩ := hcut
        have hbx : Below w.heap.size w wc := HBX.out
        have d0 := HRUX.out.cell 0 (.int .u32 r.n) rfl
        have d1 := HRUX.out.cell 1 (.int .u32 r.a) rfl
        have d2 := HRUX.out.cell 2 (.int .u64 r.p) rfl
        have d3 := HRUX.out.cell 3 (.int .u64 (r.q 0)) rfl
        have d4 := HRUX.out.cell 4 (.int .u64 (r.q 1)) rfl
        have d5 := HRUX.out.cell 5 (.int .u64 (r.q 2)) rfl
        have d6 := HRUX.out.cell 6 (.int .u64 (r.q 3)) rfl
        have d7 := HRUX.out.cell 7 (.int .u64 (r.q 4)) rfl
        have d8 := HRUX.out.cell 8 (.int .u64 (r.q 5)) rfl
        go_wp2_with fail
        refine HFN.out.mono ?_
        rintro e w5 ⟨nm, hN, rfl, hB5⟩
        have HP : Hid (CallP T n r true ab nm false) := Lib.hid (.inr ⟨HSM.out, rfl, HA.out.symm, .inr ⟨by rw [HK.out]; exact HM.out, rfl, hN⟩⟩)
        have HRC5 := Lib.hid (HRCX.out.below hB5 HRCX.out.lt)
        have HB5 := Lib.hid (hbx.trans (hB5.mono hbx.size))
        clear hN hB5 hbx HRCX HRUX HBX HFN d0 d1 d2 d3 d4 d5 d6 d7 d8
        go_wp2_with (refine wpList_store_row (by rfl) 88 _ _ (by rfl) (w.heap.size + 1) #[.bool true, .int .i64 (ab : Nat), .string nm, .bool false] (by rfl) (by rfl) _ _ HRC5.out (show _ = some 4 from infoCall) (by rfl) (by simp [Value.oneCell']) ?_)
        refine bodyPost_ret (results_cell_row Tryz.results45 _ _ (w.heap.size + 1) _ #[.bool true, .int .i64 (ab : Nat), .string nm, .bool false] (0, 0) _ (by rfl) (setRow_heap _ _ _ _ _ _ HRC5.out) Tryz.underlying88 (by rfl) (show _ = some 4 from infoCall)) rfl ?_
        exact ⟨_, _, _, _, HP.out, rfl, below_setRow HB5.out (by omega) _⟩
end Go.Proofs.YtcmdmnnkbliggaaGreatDoor
