/-
  Layer 16: what a condition becomes: each operator's form.
-/
import Derived.Test.YtlpcallgkciklaaGreatDoorGe
import Derived.Laws.BitsAllLaws
import Derived.Deep.Cut
import Derived.Deep.CutRange
import Derived.Shelf.Abstract
import Derived.RegionTactic
import Derived.Deep.RegionWith
import Derived.Deep.RegionHeld3
import Derived.Test.YtlpcallgkciklaaGreatDoorRows
import Derived.WalkKit
import Derived.ProofKit
import Derived.OpenShut
import Derived.Sort.Grow
import Derived.Test.YtlpcallgkciklaaGreatDoorOsh
namespace Go.Proofs.YtlpcallgkciklaaGreatDoor
open Go.RowKit Go.Shelf
set_option linter.unusedVariables false

abbrev zN : Array Value := #[.int .i64 0, .int .i64 0, .int .u64 0, .int .u64 0]
theorem infoN : (Tryz.prog.info? 62).map (·.size) = some 4 := by kernel_rfl
theorem set4N {w : World} {b : Nat} {x0 x1 x2 x3 y0 y1 y2 y3 : Value} (h : RowC w b #[x0, x1, x2, x3] 62) : RowC ((((w.setCell ⟨b, 0, none⟩ y0).setCell ⟨b, 1, none⟩ y1).setCell ⟨b, 2, none⟩ y2).setCell ⟨b, 3, none⟩ y3) b #[y0, y1, y2, y3] 62 := (((h.set 0 y0).set 1 y1).set 2 y2).set 3 y3
theorem below4N {w W : World} {B b : Nat} (hb : Below B w W) (h : B ≤ b) (y0 y1 y2 y3 : Value) : Below B w ((((W.setCell ⟨b, 0, none⟩ y0).setCell ⟨b, 1, none⟩ y1).setCell ⟨b, 2, none⟩ y2).setCell ⟨b, 3, none⟩ y3) := (((hb.setCell h _).setCell h _).setCell h _).setCell h _

theorem results_cN {P : Program} {fn : Func} {p : Tmp} {ty : TypeId} (h : fn.results = #[.cell p ty]) (tmps : Array Value) (w : World) (g : Nat) (t : TypeId) (cs : Array Value) (fr : Nat × Nat) (d : TypeDesc)
    (hp : tmps.getD p undef = .pointer (some ⟨g, 0, none⟩)) (hg : w.heap[g]? = some (.cells cs t fr))
    (hu : P.underlying ty = some d) (hd : (match d with | .struct _ | .array _ _ => true | _ => false) = true) (hi : (P.info? ty).map (·.size) = some cs.size) :
    (results fn tmps).run P w = .ok (.agg cs) w := by
  have hp' : tmps[p]?.getD undef = .pointer (some ⟨g, 0, none⟩) := by simpa using hp
  simp [results, h, hp', asAddr, run_loadVar_row w g t ty cs fr d hg hu hd hi]
/-- What a condition becomes: its cells, and its state. -/
def belF (a o : Int) (m v : Nat) : Array Value × Int := if v = 0 then (zN, 2) else if v = 1 then (condA a 1 0 0, 0) else (condA a o m v, 0)
def atlF (a o : Int) (m v : Nat) : Array Value × Int := if v = 0 then (zN, 1) else if v = 18446744073709551615 then (condA a 1 0 18446744073709551615, 0) else (condA a o m v, 0)
def atmF (a : Int) (v : Nat) : Array Value × Int := if v = 18446744073709551615 then (zN, 1) else belF a 3 0 (v + 1)
def aboF (a : Int) (v : Nat) : Array Value × Int := if v = 18446744073709551615 then (zN, 2) else atlF a 6 0 (v + 1)
def mskF (a o : Int) (m v : Nat) : Array Value × Int := if v &&& (18446744073709551615 - m) ≠ 0 then (zN, 2) else if m = 0 then (zN, 1) else if m = 18446744073709551615 then (condA a 1 0 v, 0) else (condA a o m v, 0)

end Go.Proofs.YtlpcallgkciklaaGreatDoor

/-
  Layer 16: norm.Cond.
-/
namespace Go.Proofs.YtlpcallgkciklaaGreatDoor
open Go.RowKit Go.Shelf
set_option linter.unusedVariables false

/-- What a right condition becomes. -/
def nF (j : Nat) (a : Int) (m v : Nat) : Array Value × Int := match j with
  | 0 => (condA a 1 m v, 0)
  | 1 => (condA a 2 m v, 0)
  | 2 => belF a 3 m v
  | 3 => atmF a v
  | 4 => aboF a v
  | 5 => atlF a 6 m v
  | _ => mskF a 7 m v
theorem condA_z : zN = condA 0 0 0 0 := rfl
theorem nF_form (j : Nat) (a : Int) (m v : Nat) : ∃ (a' o' : Int) (m' v' : Nat), (nF j a m v).1 = condA a' o' m' v' := by
  have hb : ∀ (o : Int) (m v : Nat), ∃ (a' o' : Int) (m' v' : Nat), (belF a o m v).1 = condA a' o' m' v' := fun o m v => by
    unfold belF; split
    · exact ⟨_, _, _, _, condA_z⟩
    · split
      · exact ⟨_, _, _, _, rfl⟩
      · exact ⟨_, _, _, _, rfl⟩
  have ht : ∀ (o : Int) (m v : Nat), ∃ (a' o' : Int) (m' v' : Nat), (atlF a o m v).1 = condA a' o' m' v' := fun o m v => by
    unfold atlF; split
    · exact ⟨_, _, _, _, condA_z⟩
    · split
      · exact ⟨_, _, _, _, rfl⟩
      · exact ⟨_, _, _, _, rfl⟩
  unfold nF
  split
  · exact ⟨_, _, _, _, rfl⟩
  · exact ⟨_, _, _, _, rfl⟩
  · exact hb 3 m v
  · unfold atmF; split
    · exact ⟨_, _, _, _, condA_z⟩
    · exact hb 3 0 (v + 1)
  · unfold aboF; split
    · exact ⟨_, _, _, _, condA_z⟩
    · exact ht 6 0 (v + 1)
  · exact ht 6 m v
  · unfold mskF; split
    · exact ⟨_, _, _, _, condA_z⟩
    · split
      · exact ⟨_, _, _, _, condA_z⟩
      · split
        · exact ⟨_, _, _, _, rfl⟩
        · exact ⟨_, _, _, _, rfl⟩
end Go.Proofs.YtlpcallgkciklaaGreatDoor

/-
  Layer 16: SortFunc and Compact where there is nothing; norm.Rule at the chapter's example; the laws' own awake.
-/
namespace Go.Proofs.YtlpcallgkciklaaGreatDoor
open Go.RowKit Go.Shelf
set_option linter.unusedVariables false

set_option maxRecDepth 100000 in
set_option maxHeartbeats 2000000 in
theorem len64_0 (w : World) : Calls Tryz.prog 160 #[.int .u64 0] w fun e w' => (∃ n : Int, e = .returned (.int .i64 n)) ∧ w' = w := by
  go_enter Tryz.func160, Tryz.ntmps160
  go_wp2
  go_ret
  exact ⟨⟨_, rfl⟩, rfl⟩
set_option maxRecDepth 100000 in
set_option maxHeartbeats 2000000 in
theorem len_0 (w : World) : Calls Tryz.prog 124 #[.int .u64 0] w fun e w' => (∃ n : Int, e = .returned (.int .i64 n)) ∧ w' = w := by
  go_enter Tryz.func124, Tryz.ntmps124
  go_wp2_with fail
  refine (len64_0 _).mono ?_
  rintro e w1 ⟨⟨n, rfl⟩, rfl⟩
  go_wp2
  go_ret
  exact ⟨⟨n, rfl⟩, rfl⟩
set_option maxRecDepth 100000 in
set_option maxHeartbeats 2000000 in
theorem insert_nil (F : Value) (w : World) : Calls Tryz.prog 151 #[.slice none 0 0, .int .i64 0, .int .i64 0, F] w fun e w' => e = .returned (.tuple #[]) ∧ w' = w := by
  go_enter Tryz.func151, Tryz.ntmps151
  go_wp2
  go_loopw [8] (fun i wr => i = .int .i64 1 ∧ wr = w) (fun _ _ => 0)
  case atStart => exact ⟨rfl, rfl⟩
  case round =>
    obtain ⟨rfl, rfl⟩ := hrel
    go_wp2
    go_end0
    exact ⟨rfl, rfl⟩
set_option maxRecDepth 100000 in
set_option maxHeartbeats 2000000 in
theorem pdq_nil (F : Value) (n : Int) (w : World) : Calls Tryz.prog 123 #[.slice none 0 0, .int .i64 0, .int .i64 0, .int .i64 n, F] w fun e w' => e = .returned (.tuple #[]) ∧ w' = w := by
  go_enter Tryz.func123, Tryz.ntmps123
  go_wp2
  go_loopw [1, 2, 3] (fun x y z wr => x = .int .i64 0 ∧ y = .int .i64 0 ∧ z = .int .i64 n ∧ wr = w) (fun _ _ _ _ => 0)
  case atStart => exact ⟨rfl, rfl, rfl, rfl⟩
  case round =>
    obtain ⟨rfl, rfl, rfl, rfl⟩ := hrel
    go_wp2_with fail
    refine (insert_nil F _).mono ?_
    rintro e w1 ⟨rfl, rfl⟩
    go_wp2
    (try simp only [Exit.inBlock, Exit.then])
    refine bodyPost_ret (results_none rfl _ _ _) rfl ?_
    exact ⟨rfl, rfl⟩
set_option maxRecDepth 100000 in
set_option maxHeartbeats 2000000 in
theorem sort_nil (F : Value) (w : World) : Calls Tryz.prog 102 #[.slice none 0 0, F] w fun e w' => e = .returned (.tuple #[]) ∧ w' = w := by
  go_enter Tryz.func102, Tryz.ntmps102
  go_wp2_with fail
  refine (len_0 _).mono ?_
  rintro e w1 ⟨⟨n, rfl⟩, rfl⟩
  go_wp2_with fail
  refine (pdq_nil F n _).mono ?_
  rintro e w2 ⟨rfl, rfl⟩
  go_wp2
  go_end0
  exact ⟨rfl, rfl⟩
set_option maxRecDepth 100000 in
set_option maxHeartbeats 2000000 in
theorem compact_nil (w : World) : Calls Tryz.prog 104 #[.slice none 0 0] w fun e w' => e = .returned (.slice none 0 0) ∧ w' = w := by
  go_enter Tryz.func104, Tryz.ntmps104
  go_wp2
  go_ret
  exact ⟨rfl, rfl⟩
abbrev rdN : ByteArray := ⟨#[114, 101, 97, 100]⟩
abbrev ruN (A : Option Addr) (n c : Nat) : Array Value := #[.string rdN, .int .i64 8, .int .i64 0, .slice A n c]
abbrev zRu : Array Value := #[.string ⟨#[]⟩, .int .i64 0, .int .i64 0, .slice none 0 0]
theorem infoRu : (Tryz.prog.info? 58).map (·.size) = some 4 := by kernel_rfl
end Go.Proofs.YtlpcallgkciklaaGreatDoor

/-
  Layer 16: what a condition becomes holds for the same arguments; the laws' own conds; an argument that is an array of six words.
-/
namespace Go.Proofs.YtlpcallgkciklaaGreatDoor
open Go.RowKit Go.Shelf
set_option linter.unusedVariables false

theorem and_full16 (n : Nat) (h : n < 18446744073709551616) : n &&& 18446744073709551615 = n := by
  rw [show (18446744073709551615 : Nat) = 2 ^ 64 - 1 by rfl, Nat.and_two_pow_sub_one_eq_mod]
  exact Nat.mod_eq_of_lt (by omega)
theorem and_beside (x m : Nat) (hm : m ≤ 18446744073709551615) : (x &&& m) &&& (18446744073709551615 - m) = 0 := by
  apply Nat.eq_of_testBit_eq
  intro i
  rw [show (18446744073709551615 : Nat) - m = 2 ^ 64 - (m + 1) by omega, Nat.testBit_and, Nat.testBit_and, Nat.testBit_two_pow_sub_succ (by omega), Nat.zero_testBit]
  cases m.testBit i <;> simp
/-- What a right condition becomes holds where it does. -/
def KeepN (a : Int) (C : Array Value) (st : Int) (x : Nat) (b : Bool) : Prop :=
  ∃ (a' o' : Int) (m' v' : Nat), C = condA a' o' m' v' ∧ ((st = 1 ∧ b = true) ∨ (st = 2 ∧ b = false) ∨ (st = 0 ∧ ∃ j', a' = a ∧ RightO a o' m' j' ∧ m' < 18446744073709551616 ∧ hoF j' x m' v' = b))
theorem keep_all (a : Int) (x : Nat) : KeepN a zN 1 x true := ⟨0, 0, 0, 0, rfl, .inl ⟨rfl, rfl⟩⟩
theorem keep_none (a : Int) (x : Nat) : KeepN a zN 2 x false := ⟨0, 0, 0, 0, rfl, .inr (.inl ⟨rfl, rfl⟩)⟩
theorem keep_as (a o : Int) (m v x j : Nat) (b : Bool) (hr : RightO a o m j) (hm : m < 18446744073709551616) (h : hoF j x m v = b) : KeepN a (condA a o m v) 0 x b := ⟨a, o, m, v, rfl, .inr (.inr ⟨rfl, j, rfl, hr, hm, h⟩)⟩
theorem keep_bel (a : Int) (ha : 0 ≤ a ∧ a < 6) (v x : Nat) : KeepN a (belF a 3 0 v).1 (belF a 3 0 v).2 x (decide (x < v)) := by
  by_cases h0 : v = 0
  · subst h0
    rw [show decide (x < 0) = false from decide_eq_false (by omega)]
    exact keep_none a x
  · by_cases h1 : v = 1
    · subst h1
      exact keep_as a 1 0 0 x 0 _ ⟨ha.1, ha.2, by decide, rfl, rfl⟩ (by decide) (by show (x == 0) = decide (x < 1); rw [Bool.eq_iff_iff]; simp; try omega)
    · rw [show belF a 3 0 v = (condA a 3 0 v, 0) by unfold belF; rw [if_neg h0, if_neg h1]]
      exact keep_as a 3 0 v x 2 _ ⟨ha.1, ha.2, by decide, rfl, rfl⟩ (by decide) rfl
theorem keep_atl (a : Int) (ha : 0 ≤ a ∧ a < 6) (v x : Nat) (hx : x < 18446744073709551616) : KeepN a (atlF a 6 0 v).1 (atlF a 6 0 v).2 x (decide (v ≤ x)) := by
  by_cases h0 : v = 0
  · subst h0
    rw [show decide (0 ≤ x) = true from decide_eq_true (by omega)]
    exact keep_all a x
  · by_cases h1 : v = 18446744073709551615
    · rw [show atlF a 6 0 v = (condA a 1 0 18446744073709551615, 0) by unfold atlF; rw [if_neg h0, if_pos h1]]
      have h1' : v = 18446744073709551615 := h1
      exact keep_as a 1 0 18446744073709551615 x 0 _ ⟨ha.1, ha.2, by decide, rfl, rfl⟩ (by decide) (by show (x == 18446744073709551615) = decide (v ≤ x); rw [Bool.eq_iff_iff]; simp; try omega)
    · rw [show atlF a 6 0 v = (condA a 6 0 v, 0) by unfold atlF; rw [if_neg h0, if_neg h1]]
      exact keep_as a 6 0 v x 5 _ ⟨ha.1, ha.2, by decide, rfl, rfl⟩ (by decide) rfl
theorem nF_holds (a o : Int) (m v j x : Nat) (hr : RightO a o m j) (hm : m ≤ 18446744073709551615) (hv : v ≤ 18446744073709551615) (hx : x < 18446744073709551616) : KeepN a (nF j a m v).1 (nF j a m v).2 x (hoF j x m v) := by
  obtain ⟨h1, h2, h3, h4, h5⟩ := hr
  match j, h3, h4, h5 with
  | 0, h3, h4, h5 => exact keep_as a 1 m v x 0 _ ⟨h1, h2, by decide, rfl, h5⟩ (by omega) rfl
  | 1, h3, h4, h5 => exact keep_as a 2 m v x 1 _ ⟨h1, h2, by decide, rfl, h5⟩ (by omega) rfl
  | 2, h3, h4, h5 =>
    obtain rfl : m = 0 := by simpa [mkO] using h5
    exact keep_bel a ⟨h1, h2⟩ v x
  | 3, h3, h4, h5 =>
    show KeepN a (atmF a v).1 (atmF a v).2 x (decide (x ≤ v))
    by_cases h : v = 18446744073709551615
    · rw [show atmF a v = (zN, 1) by unfold atmF; rw [if_pos h]]
      have h' : v = 18446744073709551615 := h
      rw [show decide (x ≤ v) = true from decide_eq_true (by omega)]
      exact keep_all a x
    · rw [show atmF a v = belF a 3 0 (v + 1) by unfold atmF; rw [if_neg h], show decide (x ≤ v) = decide (x < v + 1) by rw [Bool.eq_iff_iff]; simp; try omega]
      exact keep_bel a ⟨h1, h2⟩ (v + 1) x
  | 4, h3, h4, h5 =>
    show KeepN a (aboF a v).1 (aboF a v).2 x (decide (v < x))
    by_cases h : v = 18446744073709551615
    · rw [show aboF a v = (zN, 2) by unfold aboF; rw [if_pos h]]
      have h' : v = 18446744073709551615 := h
      rw [show decide (v < x) = false from decide_eq_false (by omega)]
      exact keep_none a x
    · rw [show aboF a v = atlF a 6 0 (v + 1) by unfold aboF; rw [if_neg h], show decide (v < x) = decide (v + 1 ≤ x) by rw [Bool.eq_iff_iff]; simp; try omega]
      exact keep_atl a ⟨h1, h2⟩ (v + 1) x hx
  | 5, h3, h4, h5 =>
    obtain rfl : m = 0 := by simpa [mkO] using h5
    exact keep_atl a ⟨h1, h2⟩ v x hx
  | 6, h3, h4, h5 =>
    show KeepN a (mskF a 7 m v).1 (mskF a 7 m v).2 x ((x &&& m) == v)
    by_cases h : v &&& (18446744073709551615 - m) ≠ 0
    · rw [show mskF a 7 m v = (zN, 2) by unfold mskF; rw [if_pos h], show ((x &&& m) == v) = false from beq_eq_false_iff_ne.2 fun he => h (he ▸ and_beside x m hm)]
      exact keep_none a x
    · by_cases h0 : m = 0
      · rw [show mskF a 7 m v = (zN, 1) by unfold mskF; rw [if_neg h, if_pos h0]]
        subst h0
        have hz : v = 0 := by
          have := Decidable.not_not.1 h
          rw [← this]
          exact (and_full16 v (by omega)).symm
        rw [show ((x &&& 0) == v) = true from beq_iff_eq.2 (by rw [Nat.and_zero]; exact hz.symm)]
        exact keep_all a x
      · by_cases h6 : m = 18446744073709551615
        · rw [show mskF a 7 m v = (condA a 1 0 v, 0) by unfold mskF; rw [if_neg h, if_neg h0, if_pos h6]]
          exact keep_as a 1 0 v x 0 _ ⟨h1, h2, by decide, rfl, rfl⟩ (by decide) (by rw [h6, show x &&& 18446744073709551615 = x from and_full16 x hx]; rfl)
        · rw [show mskF a 7 m v = (condA a 7 m v, 0) by unfold mskF; rw [if_neg h, if_neg h0, if_neg h6]]
          exact keep_as a 7 m v x 6 _ ⟨h1, h2, by decide, rfl, rfl⟩ (by omega) rfl
end Go.Proofs.YtlpcallgkciklaaGreatDoor

/-
  Layer 16: the order of conditions (compare), in every world.
-/
namespace Go.Proofs.YtlpcallgkciklaaGreatDoor
open Go.RowKit Go.Shelf Go.Lib Go.Sort
set_option linter.unusedVariables false

def cmpZ (x y : Int) : Int := if x < y then -1 else if x > y then 1 else 0
def orF (a b c d : Int) : Int := if a ≠ 0 then a else if b ≠ 0 then b else if c ≠ 0 then c else d
set_option maxRecDepth 100000 in
set_option maxHeartbeats 2000000 in
theorem nanI_any (x : Int) (w : World) : Calls Tryz.prog 161 #[.int .i64 x] w fun e w' => e = .returned (.bool false) ∧ w' = w := by
  have q : (x != x) = false := bne_self_eq_false _
  go_enter Tryz.func161, Tryz.ntmps161
  go_wp2
  go_ret
  exact ⟨rfl, rfl⟩
set_option maxRecDepth 100000 in
set_option maxHeartbeats 2000000 in
theorem nanU_any (x : Int) (w : World) : Calls Tryz.prog 162 #[.int .u64 x] w fun e w' => e = .returned (.bool false) ∧ w' = w := by
  have q : (x != x) = false := bne_self_eq_false _
  go_enter Tryz.func162, Tryz.ntmps162
  go_wp2
  go_ret
  exact ⟨rfl, rfl⟩
set_option maxRecDepth 100000 in
set_option maxHeartbeats 2000000 in
theorem cmpI_any (x y : Int) (w : World) : Calls Tryz.prog 126 #[.int .i64 x, .int .i64 y] w fun e w' => e = .returned (.int .i64 (cmpZ x y)) ∧ w' = w := by
  by_cases h : x < y
  · rw [show cmpZ x y = -1 by unfold cmpZ; rw [if_pos h]]
    have q0 : decide (x < y) = true := decide_eq_true h
    clear h
    go_enter Tryz.func126, Tryz.ntmps126
    go_wp2_with fail
    refine (nanI_any x _).mono ?_
    rintro e w1 ⟨rfl, rfl⟩
    go_wp2_with fail
    refine (nanI_any y _).mono ?_
    rintro e w1 ⟨rfl, rfl⟩
    go_wp2
    go_ret
    exact ⟨rfl, rfl⟩
  · have q0 : decide (x < y) = false := decide_eq_false h
    by_cases h2 : x > y
    · rw [show cmpZ x y = 1 by unfold cmpZ; rw [if_neg h, if_pos h2]]
      have q1 : decide (x > y) = true := decide_eq_true h2
      clear h h2
      go_enter Tryz.func126, Tryz.ntmps126
      go_wp2_with fail
      refine (nanI_any x _).mono ?_
      rintro e w1 ⟨rfl, rfl⟩
      go_wp2_with fail
      refine (nanI_any y _).mono ?_
      rintro e w1 ⟨rfl, rfl⟩
      go_wp2
      go_ret
      exact ⟨rfl, rfl⟩
    · rw [show cmpZ x y = 0 by unfold cmpZ; rw [if_neg h, if_neg h2]]
      have q1 : decide (x > y) = false := decide_eq_false h2
      clear h h2
      go_enter Tryz.func126, Tryz.ntmps126
      go_wp2_with fail
      refine (nanI_any x _).mono ?_
      rintro e w1 ⟨rfl, rfl⟩
      go_wp2_with fail
      refine (nanI_any y _).mono ?_
      rintro e w1 ⟨rfl, rfl⟩
      go_wp2
      go_ret
      exact ⟨rfl, rfl⟩
set_option maxRecDepth 100000 in
set_option maxHeartbeats 2000000 in
theorem cmpU_any (x y : Int) (w : World) : Calls Tryz.prog 127 #[.int .u64 x, .int .u64 y] w fun e w' => e = .returned (.int .i64 (cmpZ x y)) ∧ w' = w := by
  by_cases h : x < y
  · rw [show cmpZ x y = -1 by unfold cmpZ; rw [if_pos h]]
    have q0 : decide (x < y) = true := decide_eq_true h
    clear h
    go_enter Tryz.func127, Tryz.ntmps127
    go_wp2_with fail
    refine (nanU_any x _).mono ?_
    rintro e w1 ⟨rfl, rfl⟩
    go_wp2_with fail
    refine (nanU_any y _).mono ?_
    rintro e w1 ⟨rfl, rfl⟩
    go_wp2
    go_ret
    exact ⟨rfl, rfl⟩
  · have q0 : decide (x < y) = false := decide_eq_false h
    by_cases h2 : x > y
    · rw [show cmpZ x y = 1 by unfold cmpZ; rw [if_neg h, if_pos h2]]
      have q1 : decide (x > y) = true := decide_eq_true h2
      clear h h2
      go_enter Tryz.func127, Tryz.ntmps127
      go_wp2_with fail
      refine (nanU_any x _).mono ?_
      rintro e w1 ⟨rfl, rfl⟩
      go_wp2_with fail
      refine (nanU_any y _).mono ?_
      rintro e w1 ⟨rfl, rfl⟩
      go_wp2
      go_ret
      exact ⟨rfl, rfl⟩
    · rw [show cmpZ x y = 0 by unfold cmpZ; rw [if_neg h, if_neg h2]]
      have q1 : decide (x > y) = false := decide_eq_false h2
      clear h h2
      go_enter Tryz.func127, Tryz.ntmps127
      go_wp2_with fail
      refine (nanU_any x _).mono ?_
      rintro e w1 ⟨rfl, rfl⟩
      go_wp2_with fail
      refine (nanU_any y _).mono ?_
      rintro e w1 ⟨rfl, rfl⟩
      go_wp2
      go_ret
      exact ⟨rfl, rfl⟩
set_option maxRecDepth 100000 in
set_option maxHeartbeats 4000000 in
theorem orI_any (b : Nat) (r0 r1 r2 r3 : Int) (w : World) (c0 : w.cell? ⟨b, 0, none⟩ = some (.int .i64 r0)) (c1 : w.cell? ⟨b, 1, none⟩ = some (.int .i64 r1)) (c2 : w.cell? ⟨b, 2, none⟩ = some (.int .i64 r2)) (c3 : w.cell? ⟨b, 3, none⟩ = some (.int .i64 r3)) :
    Calls Tryz.prog 125 #[.slice (some ⟨b, 0, none⟩) 4 4] w fun e w' => e = .returned (.int .i64 (orF r0 r1 r2 r3)) ∧ w' = w := by
  obtain ⟨R, hR⟩ : ∃ R, orF r0 r1 r2 r3 = R := ⟨_, rfl⟩
  rw [hR]
  have HR := Lib.hid hR
  clear hR
  go_enter Tryz.func125, Tryz.ntmps125
  go_wp2
  go_loopw [8] (fun i wr => ∃ k : Nat, k ≤ 4 ∧ i = .int .i64 k ∧ wr = w ∧ Hid ((0 < k → r0 = 0) ∧ (1 < k → r1 = 0) ∧ (2 < k → r2 = 0) ∧ (3 < k → r3 = 0))) (fun i _ => 4 - (intOf i).toNat)
  case atStart => exact ⟨0, by omega, rfl, rfl, Lib.hid ⟨fun h => by omega, fun h => by omega, fun h => by omega, fun h => by omega⟩⟩
  case round =>
    obtain ⟨k, hk, rfl, rfl, hz⟩ := hrel
    have hk' : k = 0 ∨ k = 1 ∨ k = 2 ∨ k = 3 ∨ k = 4 := by omega
    clear hk
    rcases hk' with rfl | rfl | rfl | rfl | rfl
    · by_cases h : r0 = 0
      · have q : (r0 != 0) = false := by rw [h]; rfl
        have HH := Lib.hid h
        clear h
        go_wp2
        exact ⟨⟨1, by omega, rfl, trivial, Lib.hid ⟨fun _ => HH.out, fun h => by omega, fun h => by omega, fun h => by omega⟩⟩, by simp [intOf]⟩
      · have q : (r0 != 0) = true := bne_iff_ne.2 h
        obtain rfl : r0 = R := by rw [← HR.out]; unfold orF; rw [if_pos h]
        clear h
        go_wp2
        go_ret
        exact ⟨rfl, rfl⟩
    · by_cases h : r1 = 0
      · have q : (r1 != 0) = false := by rw [h]; rfl
        have HH := Lib.hid h
        clear h
        go_wp2
        exact ⟨⟨2, by omega, rfl, trivial, Lib.hid ⟨fun _ => hz.out.1 (by omega), fun _ => HH.out, fun h => by omega, fun h => by omega⟩⟩, by simp [intOf]⟩
      · have q : (r1 != 0) = true := bne_iff_ne.2 h
        obtain rfl : r1 = R := by rw [← HR.out]; unfold orF; rw [if_neg (fun hc => hc (hz.out.1 (by omega))), if_pos h]
        clear h
        go_wp2
        go_ret
        exact ⟨rfl, rfl⟩
    · by_cases h : r2 = 0
      · have q : (r2 != 0) = false := by rw [h]; rfl
        have HH := Lib.hid h
        clear h
        go_wp2
        exact ⟨⟨3, by omega, rfl, trivial, Lib.hid ⟨fun _ => hz.out.1 (by omega), fun _ => hz.out.2.1 (by omega), fun _ => HH.out, fun h => by omega⟩⟩, by simp [intOf]⟩
      · have q : (r2 != 0) = true := bne_iff_ne.2 h
        obtain rfl : r2 = R := by rw [← HR.out]; unfold orF; rw [if_neg (fun hc => hc (hz.out.1 (by omega))), if_neg (fun hc => hc (hz.out.2.1 (by omega))), if_pos h]
        clear h
        go_wp2
        go_ret
        exact ⟨rfl, rfl⟩
    · have hR3 : r3 = R := by rw [← HR.out]; unfold orF; rw [if_neg (fun hc => hc (hz.out.1 (by omega))), if_neg (fun hc => hc (hz.out.2.1 (by omega))), if_neg (fun hc => hc (hz.out.2.2.1 (by omega)))]
      by_cases h : r3 = 0
      · have q : (r3 != 0) = false := by rw [h]; rfl
        have HH := Lib.hid h
        clear h hR3
        go_wp2
        exact ⟨⟨4, by omega, rfl, trivial, Lib.hid ⟨fun _ => hz.out.1 (by omega), fun _ => hz.out.2.1 (by omega), fun _ => hz.out.2.2.1 (by omega), fun _ => HH.out⟩⟩, by simp [intOf]⟩
      · have q : (r3 != 0) = true := bne_iff_ne.2 h
        subst hR3
        clear h
        go_wp2
        go_ret
        exact ⟨rfl, rfl⟩
    · obtain rfl : R = 0 := by
        rw [← HR.out]; unfold orF
        rw [if_neg (fun hc => hc (hz.out.1 (by omega))), if_neg (fun hc => hc (hz.out.2.1 (by omega))), if_neg (fun hc => hc (hz.out.2.2.1 (by omega)))]
        exact hz.out.2.2.2 (by omega)
      go_wp2
      go_ret
      exact ⟨rfl, rfl⟩
/-- The order of conditions. -/
def cmpC (a o : Int) (m v : Int) (a' o' : Int) (m' v' : Int) : Int := orF (cmpZ a a') (cmpZ o o') (cmpZ m m') (cmpZ v v')
end Go.Proofs.YtlpcallgkciklaaGreatDoor

/-
  Layer 16: SortFunc at conditions by their order.
-/
namespace Go.Proofs.YtlpcallgkciklaaGreatDoor
open Go.RowKit Go.Shelf Go.Lib Go.Sort
set_option linter.unusedVariables false

abbrev CV := Int × Int × Int × Int
def encC (x : CV) : List Value := [.int .i64 x.1, .int .i64 x.2.1, .int .u64 x.2.2.1, .int .u64 x.2.2.2]
def cfC (x y : CV) : Int := cmpC x.1 x.2.1 x.2.2.1 x.2.2.2 y.1 y.2.1 y.2.2.1 y.2.2.2
/-- Which of two stands ahead. -/
def ltC (x y : CV) : Prop := x.1 < y.1 ∨ (x.1 = y.1 ∧ (x.2.1 < y.2.1 ∨ (x.2.1 = y.2.1 ∧ (x.2.2.1 < y.2.2.1 ∨ (x.2.2.1 = y.2.2.1 ∧ x.2.2.2 < y.2.2.2)))))
theorem cmpZ_lt (x y : Int) : cmpZ x y < 0 ↔ x < y := by unfold cmpZ; split; omega; split <;> omega
theorem cmpZ_eq (x y : Int) : cmpZ x y = 0 ↔ x = y := by unfold cmpZ; split; omega; split <;> omega
theorem ltC_iff (x y : CV) : ltOf cfC x y = true ↔ ltC x y := by
  unfold ltOf cfC cmpC orF ltC
  rw [decide_eq_true_iff]
  have e0 := cmpZ_eq x.1 y.1
  have e1 := cmpZ_eq x.2.1 y.2.1
  have e2 := cmpZ_eq x.2.2.1 y.2.2.1
  have l0 := cmpZ_lt x.1 y.1
  have l1 := cmpZ_lt x.2.1 y.2.1
  have l2 := cmpZ_lt x.2.2.1 y.2.2.1
  have l3 := cmpZ_lt x.2.2.2 y.2.2.2
  by_cases h0 : cmpZ x.1 y.1 ≠ 0
  · rw [if_pos h0, l0]
    have h0' := mt e0.2 h0
    constructor
    · exact .inl
    · rintro (h | ⟨h, _⟩)
      · exact h
      · exact absurd h h0'
  · have q0 := e0.1 (Decidable.not_not.1 h0)
    rw [if_neg h0]
    by_cases h1 : cmpZ x.2.1 y.2.1 ≠ 0
    · rw [if_pos h1, l1]
      have h1' := mt e1.2 h1
      constructor
      · exact fun h => .inr ⟨q0, .inl h⟩
      · rintro (h | ⟨_, h | ⟨h, _⟩⟩)
        · omega
        · exact h
        · exact absurd h h1'
    · have q1 := e1.1 (Decidable.not_not.1 h1)
      rw [if_neg h1]
      by_cases h2 : cmpZ x.2.2.1 y.2.2.1 ≠ 0
      · rw [if_pos h2, l2]
        have h2' := mt e2.2 h2
        constructor
        · exact fun h => .inr ⟨q0, .inr ⟨q1, .inl h⟩⟩
        · rintro (h | ⟨_, h | ⟨_, h | ⟨h, _⟩⟩⟩)
          · omega
          · omega
          · exact h
          · exact absurd h h2'
      · have q2 := e2.1 (Decidable.not_not.1 h2)
        rw [if_neg h2, l3]
        constructor
        · exact fun h => .inr ⟨q0, .inr ⟨q1, .inr ⟨q2, h⟩⟩⟩
        · rintro (h | ⟨_, h | ⟨_, h | ⟨_, h⟩⟩⟩)
          · omega
          · omega
          · omega
          · exact h
theorem ltC_no (x y : CV) : ltOf cfC x y = false ↔ ¬ ltC x y := by rw [← ltC_iff]; simp
theorem swoC : SWO (ltOf cfC) where
  irrefl x := by rw [ltC_no]; unfold ltC; omega
  trans x y z h1 h2 := by rw [ltC_iff] at *; unfold ltC at *; omega
  ntrans x y z h1 h2 := by rw [ltC_no] at *; unfold ltC at *; omega
/-- Two that neither stands ahead of the other are one. -/
theorem ltC_total (x y : CV) (h1 : ltOf cfC x y = false) (h2 : ltOf cfC y x = false) : x = y := by
  rw [ltC_no] at h1 h2
  unfold ltC at h1 h2
  obtain ⟨a, b, c, d⟩ := x
  obtain ⟨a', b', c', d'⟩ := y
  simp only at h1 h2
  obtain rfl : a = a' := by omega
  obtain rfl : b = b' := by omega
  obtain rfl : c = c' := by omega
  obtain rfl : d = d' := by omega
  rfl
theorem len_12 (n : Nat) (hn : n ≤ 12) (w : World) : Calls Tryz.prog 124 #[.int .u64 n] w fun e w' => (∃ l : Int, e = .returned (.int .i64 l)) ∧ w' = w :=
  (Tryz.bits_Len n w (by omega) (by omega)).mono fun _ _ ⟨he, hw⟩ => ⟨⟨_, he⟩, hw⟩
end Go.Proofs.YtlpcallgkciklaaGreatDoor
