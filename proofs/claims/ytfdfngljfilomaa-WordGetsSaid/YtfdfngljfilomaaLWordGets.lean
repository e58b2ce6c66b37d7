/-
  The statement of WordGets is proved: for every bytes and every place, width and way round the law returns true. No condition.
-/
import Derived.Test.YtfdfngljfilomaaRows
import Derived.Test.YtfdfngljfilomaaWd
import Derived.WalkKit
import Derived.ProofKit
import Derived.OpenShut
import Derived.ShutString
import Derived.ChangeOld
import Derived.Below
import Derived.Lib.SmallJoins
namespace Go.Proofs.Ytfdfngljfilomaa
open Go.RowKit

theorem size_box (w : World) (o : Obj) : (w.alloc o).heap.size = w.heap.size + 1 := by simp

set_option maxHeartbeats 2000000 in
theorem gets_long (A : Option Addr) (n c : Nat) (f : Nat → Nat) (p wd : Int) (big : Bool) (w : World) (hr : Byt w w.heap.size A n c f) (h : 200 < n) :
    Calls Try.prog 3 #[.slice A n c, .agg #[.int .i64 p, .int .i64 wd, .bool big]] w fun e w' => e = .returned (.bool true) ∧ Below w.heap.size w w' := by
  have hmx := hr.le
  unfold maxLen at hmx
  obtain ⟨h1, h2⟩ := hmx
  go_enter Try.func3, Try.ntmps3
  go_wp2
  go_ret
  exact ⟨rfl, (Below.refl _ _).alloc (Nat.le_refl _) _⟩

set_option maxHeartbeats 2000000 in
theorem gets_err (A : Option Addr) (n c : Nat) (f : Nat → Nat) (p wd : Int) (big : Bool) (w : World) (hr : Byt w w.heap.size A n c f) (h : n ≤ 200) (ha : -9223372036854775808 ≤ p) (hb : p ≤ 9223372036854775807) (hf : flt n p wd ≠ 0) :
    Calls Try.prog 3 #[.slice A n c, .agg #[.int .i64 p, .int .i64 wd, .bool big]] w fun e w' => e = .returned (.bool true) ∧ Below w.heap.size w w' := by
  have hmx := hr.le
  unfold maxLen at hmx
  obtain ⟨h1, h2⟩ := hmx
  have HG := Lib.hid (fun W => get_err big A n c p wd W (by unfold maxLen; omega) ha hb hf)
  have HV := Lib.hid (fun W => wrong_any n p wd W (by omega) (by omega) ha hb)
  have ht : (flt n p wd != 0) = true := by simpa using hf
  go_enter Try.func3, Try.ntmps3
  go_wp2_with fail
  refine (HG.out _).mono ?_
  rintro e w1 ⟨rfl, hB1⟩
  have hs1 := hB1.size
  rw [size_box] at hB1 hs1
  have c0 : w1.cell? ⟨w.heap.size, 0, none⟩ = some (.int .i64 p) := (hB1.cell (p := ⟨w.heap.size, 0, none⟩) (by show w.heap.size < _; omega)).trans (by simp)
  have c1 : w1.cell? ⟨w.heap.size, 1, none⟩ = some (.int .i64 wd) := (hB1.cell (p := ⟨w.heap.size, 1, none⟩) (by show w.heap.size < _; omega)).trans (by simp)
  go_wp2_with fail
  refine (HV.out _).mono ?_
  rintro e w' ⟨rfl, rfl⟩
  go_wp2_with fail
  refine (awake_any _).mono ?_
  rintro e w2 ⟨rfl, hB2⟩
  go_wp2
  go_ret
  exact ⟨rfl, ((Below.refl _ _).alloc (Nat.le_refl _) _).trans ((hB1.mono (by omega)).trans (hB2.mono (by omega)))⟩

set_option maxHeartbeats 2000000 in
theorem gets_ok (big : Bool) (b off n c : Nat) (f : Nat → Nat) (p k : Nat) (w : World) (hb : b < w.heap.size) (hc : ∀ i, i < n → w.cell? ⟨b, off + i, none⟩ = some (bv (f i)) ∧ f i < 256) (hnc : n ≤ c) (hcm : c ≤ maxLen) (h : n ≤ 200) (hk : k = 1 ∨ k = 2 ∨ k = 4 ∨ k = 8) (hp : p + k ≤ n) :
    Calls Try.prog 3 #[.slice (some ⟨b, off, none⟩) n c, .agg #[.int .i64 p, .int .i64 k, .bool big]] w fun e w' => e = .returned (.bool true) ∧ Below w.heap.size w w' := by
  have hr : Byt w w.heap.size (some ⟨b, off, none⟩) n c f := Byt.mk_ hb hnc hcm hc
  have hcut : Byt w w.heap.size (some ⟨b, off + p, none⟩) k (c - p) (fun i => f (p + i)) := Byt.mk_ hb (by omega) (by omega) (fun i hi => by rw [Nat.add_assoc]; exact hc (p + i) (by omega))
  have hk8 : k ≤ 8 := by omega
  have hk0 : 0 < k := by omega
  have hcp : p < c := by omega
  unfold maxLen at hcm
  have hf0 : flt n p k = 0 := by unfold flt; rw [if_pos (by omega), if_neg (by omega)]
  have HG := Lib.hid (fun (W : World) (hB : Below w.heap.size w W) => get_ok big (some ⟨b, off, none⟩) n c p k f W (by omega) hk hp ((hr.below hB).more hB.size))
  have HV := Lib.hid (fun W => hf0 ▸ wrong_any n p k W (by omega) (by omega) (by omega) (by omega))
  clear hk hc hf0
  rcases big with _ | _
  · go_enter Try.func3, Try.ntmps3
    go_wp2_with fail
    refine (HG.out _ ((Below.refl _ _).alloc (Nat.le_refl _) _)).mono ?_
    rintro e w1 ⟨rfl, hB1⟩
    have hs1 := hB1.size
    rw [size_box] at hB1 hs1
    have c0 : w1.cell? ⟨w.heap.size, 0, none⟩ = some (.int .i64 p) := (hB1.cell (p := ⟨w.heap.size, 0, none⟩) (by show w.heap.size < _; omega)).trans (by simp)
    have c1 : w1.cell? ⟨w.heap.size, 1, none⟩ = some (.int .i64 k) := (hB1.cell (p := ⟨w.heap.size, 1, none⟩) (by show w.heap.size < _; omega)).trans (by simp)
    have c2 : w1.cell? ⟨w.heap.size, 2, none⟩ = some (.bool false) := (hB1.cell (p := ⟨w.heap.size, 2, none⟩) (by show w.heap.size < _; omega)).trans (by simp)
    have hBw : Below w.heap.size w w1 := ((Below.refl _ _).alloc (Nat.le_refl _) _).trans (hB1.mono (by omega))
    go_wp2_with fail
    refine (HV.out _).mono ?_
    rintro e w' ⟨rfl, rfl⟩
    go_wp2_with fail
    refine (number_any _ _ _ _ _ hk8 ((hcut.below hBw).more hBw.size)).mono ?_
    rintro e w' ⟨rfl, rfl⟩
    go_wp2_with fail
    refine (awake_any _).mono ?_
    rintro e w2 ⟨rfl, hB2⟩
    go_wp2
    go_ret
    exact ⟨rfl, hBw.trans (hB2.mono (by omega))⟩
  · have hq : (((num (fun i => f (pln true p k i)) k : Nat) : Int) == ((num (fun i => f (p + (k - 1 - i))) k : Nat) : Int)) = true := by
      rw [beq_iff_eq]
      congr 1
      exact num_congr _ _ k (fun i hi => by unfold pln; simp only [if_true]; congr 1; omega)
    go_enter Try.func3, Try.ntmps3
    go_wp2_with fail
    refine (HG.out _ ((Below.refl _ _).alloc (Nat.le_refl _) _)).mono ?_
    rintro e w1 ⟨rfl, hB1⟩
    have hs1 := hB1.size
    rw [size_box] at hB1 hs1
    have c0 : w1.cell? ⟨w.heap.size, 0, none⟩ = some (.int .i64 p) := (hB1.cell (p := ⟨w.heap.size, 0, none⟩) (by show w.heap.size < _; omega)).trans (by simp)
    have c1 : w1.cell? ⟨w.heap.size, 1, none⟩ = some (.int .i64 k) := (hB1.cell (p := ⟨w.heap.size, 1, none⟩) (by show w.heap.size < _; omega)).trans (by simp)
    have c2 : w1.cell? ⟨w.heap.size, 2, none⟩ = some (.bool true) := (hB1.cell (p := ⟨w.heap.size, 2, none⟩) (by show w.heap.size < _; omega)).trans (by simp)
    have hBw : Below w.heap.size w w1 := ((Below.refl _ _).alloc (Nat.le_refl _) _).trans (hB1.mono (by omega))
    go_wp2_with fail
    refine (HV.out _).mono ?_
    rintro e w' ⟨rfl, rfl⟩
    go_wp2_with fail
    refine (turn_any _ _ _ _ _ (by omega) ((hcut.below hBw).more hBw.size)).mono ?_
    rintro e w3 ⟨A3, c3, rfl, hown3, hB3⟩
    go_wp2_with fail
    refine (number_any _ _ _ _ _ hk8 hown3.byt).mono ?_
    rintro e w' ⟨rfl, rfl⟩
    go_wp2_with fail
    refine (awake_any _).mono ?_
    rintro e w2 ⟨rfl, hB2⟩
    go_wp2
    go_ret
    exact ⟨rfl, hBw.trans ((hB3.mono (by omega)).trans (hB2.mono (by have := hB3.size; omega)))⟩

theorem walk_WordGets {w0 : World} (A : Option Addr) (n c : Nat) (f : Nat → Nat) (hr : Byt w0 w0.heap.size A n c f) (p wd : Int) (big : Bool) (hp : (Lit.int .i64 p).wf = true) (_hw : (Lit.int .i64 wd).wf = true) :
    Calls Try.prog 3 #[.slice A n c, .agg #[.int .i64 p, .int .i64 wd, .bool big]] w0 fun e w' => e = .returned (.bool true) ∧ Below w0.heap.size w0 w' := by
  simp [Lit.wf, IntKind.min, IntKind.max, IntKind.signed, IntKind.bits] at hp
  by_cases h : 200 < n
  · exact gets_long A n c f p wd big w0 hr h
  by_cases hf : flt n p wd = 0
  · obtain ⟨hk, h0, h1⟩ := flt_ok hf
    obtain ⟨q, rfl⟩ := Int.eq_ofNat_of_zero_le h0
    obtain ⟨k, rfl⟩ := Int.eq_ofNat_of_zero_le (show 0 ≤ wd by omega)
    obtain ⟨b, off, rfl, hb, hc⟩ := hr.at_ (by omega)
    exact gets_ok big b off n c f q k w0 hb hc hr.le.1 hr.le.2 (by omega) (by omega) (by omega)
  · exact gets_err A n c f p wd big w0 hr (by omega) hp.1 hp.2 hf

namespace wordGetsRow
open Go.ChangeShapes Go.WideShapes Go.ChangeAt Go.RowKit Go.Joins
open Go.ChangeMaps (open_string shut_string)
set_option linter.unusedVariables false
theorem own : ownKnob Try.prog.godebug = none := by kernel_rfl
theorem laidOut : laidOutB Try.prog = true := by kernel_rfl
set_option maxRecDepth 100000 in
theorem lifted (os : Os) (started : os.Started) (H : Type) (enc : TypeId × Value → H) :
    ReturnsInHanded {} Try.checked os 3 .any (Rows.wordGetsSpec.pre6 enc Try.prog Try.f3 Rows.wordGetsRow.domain false) (Rows.wordGetsSpec.post enc Try.prog Try.f3 false true false false) := by
  refine returnsInHanded_of_change (C := Try.checked) own started (by kernel_rfl) Try.func3
    (ChangeSpec.witness6 (enc := enc) (C := Try.checked) false ⟨#[], #[.slice none 0 0, .agg #[.int .i64 0, .int .i64 0, .bool false]], []⟩ 8 (by kernel_rfl) (by kernel_rfl) (by kernel_rfl) (by kernel_rfl)) ?_
  intro W base args ds gs before hval0 hW hcnd _
  have hval : ∀ (j : Nat) t v, Try.f3.params[j]? = some t → args[j]? = some v → Value.okWide Try.prog W .any base t v := hval0
  have hW' := hW
  obtain ⟨p, q, hA0, hV, rfl, hfz, hnd⟩ := hW
  have hA : DataW.TrodAll enc Try.prog W 0 (fun _ => true) true Try.f3.params.toList args.toList ds p := hA0
  rw [Try.params3] at hA hval
  obtain ⟨v0, vs0, d0, ds0, p0, q0, hargs, rfl, rfl, h0, r0⟩ := trodAll_cons hA
  obtain ⟨v1, vs1, d1, ds1, p1, q1, rfl, rfl, rfl, h1, r1⟩ := trodAll_cons r0
  obtain ⟨rfl, rfl, rfl⟩ := trodAll_nil r1
  obtain rfl : args = #[v0, v1] := by cases args; simp_all
  obtain ⟨rfl, rfl⟩ := trodVars_none hV
  have k0 := h0
  have lt0 : ∀ x ∈ p0, x.block < W.heap.size := by obtain ⟨m, hm⟩ := k0; exact DataW.trod_lt m _ _ _ hm
  have k1 := h1
  have lt1 : ∀ x ∈ p1, x.block < W.heap.size := by obtain ⟨m, hm⟩ := k1; exact DataW.trod_lt m _ _ _ hm
  obtain ⟨a0, len0, cap0, rfl⟩ := okWide_slice Try.underlying22 (hval 0 22 v0 rfl rfl)
  obtain ⟨f0, w0⟩ : ∃ f, Byt W W.heap.size a0 len0 cap0 f := by
    obtain ⟨fuel, hf⟩ := h0
    rcases open_ints Try.underlying22 Try.underlying5 (by kernel_rfl) hf with ⟨hcs, _⟩ | ⟨x, l, c, zs, hcs, _, hl, hm, hz, _, hcell, hwz⟩
    · simp [Value.cells] at hcs
      obtain ⟨rfl, rfl, rfl⟩ := hcs
      exact ⟨fun _ => 0, Byt.nil_⟩
    · simp [Value.cells] at hcs
      obtain ⟨rfl, rfl, rfl⟩ := hcs
      exact ⟨_, byt_of_ints hl hm (by have : zs.length = cap0 := by simpa using hz
                                      omega) hcell hwz⟩
  obtain ⟨c0, c1, c2, y0, y1, y2, m1, rfl, _, _, hy0, hy1, hy2⟩ := open_agg3 Try.underlying24 (by kernel_rfl) (show Try.prog.cellsOf 24 = 3 by kernel_rfl) (hval 1 24 v1 rfl rfl) h1
  obtain ⟨x1, e0, _, u1⟩ := DataW.trod_int Try.underlying3 hy0
  obtain ⟨y1, e1, _, t1⟩ := DataW.trod_int Try.underlying3 hy1
  obtain ⟨b1, e2, _⟩ := DataW.trod_bool Try.underlying4 hy2
  simp at e0 e1 e2
  subst e0 e1 e2
  clear hA0 hval0
  refine (walk_WordGets (w0 := W) a0 len0 cap0 f0 w0 x1 y1 b1 u1 t1).mono fun e W' ⟨he, bel⟩ => ?_
  subst he
  exact ⟨_, rfl, _, _, _, [], _, [], hW', trodAll_mk1 (shut_bool Try.underlying4 _), (trodAll_cons_mk (Below.trod laidOut (by kernel_rfl) (of_decide_eq_true (by kernel_rfl)) k0 bel lt0) (trodAll_cons_mk (Below.trod laidOut (by kernel_rfl) (of_decide_eq_true (by kernel_rfl)) k1 bel lt1) trodAll_mk0)), rfl, bel.frame _, fun h => by cases h⟩

theorem over : Rows.wordGetsRow.holds Try.pinned (OpenSpec.ofChange Rows.wordGetsSpec) :=
  OpenClaim.holds_of_wide 3 Try.f3 rfl rfl rfl rfl rfl rfl rfl ⟨rfl, rfl, rfl, rfl, rfl⟩ rfl rfl rfl rfl rfl (by kernel_rfl) Try.func3 (by kernel_rfl)
    (of_decide_eq_true (by kernel_rfl)) (by unfold Func.isWrapper; first | (rw [if_pos (by decide +kernel)]; kernel_rfl) | (rw [if_neg (by decide +kernel)]; exact ⟨rfl, rfl⟩))
    (fun os started H enc _ => lifted os started H enc)
end wordGetsRow

theorem wordGets_proved : Rows.WordGetsSaid := wordGetsRow.over
#print axioms wordGets_proved
end Go.Proofs.Ytfdfngljfilomaa
