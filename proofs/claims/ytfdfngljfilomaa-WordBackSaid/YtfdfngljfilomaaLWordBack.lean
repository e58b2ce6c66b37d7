/-
  The statement of WordBack is proved: for every bytes, every place, width and way round, and every number the law returns true. No condition.
-/
import Derived.Test.YtfdfngljfilomaaRows
import Derived.Test.YtfdfngljfilomaaWd
import Derived.Test.YtfdfngljfilomaaWe
import Derived.WalkKit
import Derived.ProofKit
import Derived.OpenShut
import Derived.ShutString
import Derived.ChangeOld
import Derived.Below
import Derived.Lib.SmallJoins
import Derived.BigQuiet
import Derived.Deep.QuietTactic
namespace Go.Proofs.Ytfdfngljfilomaa
open Go.RowKit

theorem size_box3 (w : World) (o : Obj) : (w.alloc o).heap.size = w.heap.size + 1 := by simp
theorem num_bytes (x : Nat) : ∀ k, num (fun i => x / 2 ^ (8 * i) % 256) k = x % 2 ^ (8 * k) := by
  intro k
  induction k with
  | zero => simp [num, Nat.mod_one]
  | succ k ih =>
    simp only [num]
    rw [ih, show 8 * (k + 1) = 8 * k + 8 from by omega, Nat.pow_add, Nat.mod_mul]
    rw [Nat.mul_comm (x / 2 ^ (8 * k) % 256)]
theorem idx_pln (big : Bool) (p k i : Nat) (h : i < k) : p ≤ pln big p k i ∧ pln big p k i < p + k ∧ idx big p k (pln big p k i) = i := by
  unfold pln idx; cases big <;> simp <;> omega
theorem idx_lt (big : Bool) (p k i : Nat) (h0 : p ≤ i) (h : i < p + k) : idx big p k i < k := by
  unfold idx; cases big <;> simp <;> omega
theorem get_put (big : Bool) (p k x : Nat) (f : Nat → Nat) : num (fun i => putF big p k x f (pln big p k i)) k = x % 2 ^ (8 * k) := by
  rw [← num_bytes]
  refine num_congr _ _ k (fun i hi => ?_)
  obtain ⟨h1, h2, h3⟩ := idx_pln big p k i hi
  unfold putF
  rw [if_pos ⟨h1, h2⟩, h3]
theorem put_put (big : Bool) (p k x : Nat) (f : Nat → Nat) (i : Nat) : putF big p k (x % 2 ^ (8 * k)) (putF big p k x f) i = putF big p k x f i := by
  unfold putF
  by_cases h : p ≤ i ∧ i < p + k
  · simp only [if_pos h]
    have hl := idx_lt big p k i h.1 h.2
    generalize idx big p k i = j at hl
    have e : 2 ^ (8 * k) = 2 ^ (8 * j) * (2 ^ 8 * 2 ^ (8 * (k - j - 1))) := by
      rw [← Nat.pow_add, ← Nat.pow_add]; congr 1; omega
    rw [e, Nat.mod_mul_right_div_self, Nat.mod_mul_right_mod]
  · simp only [if_neg h]
theorem alike_self3 (f g : Nat → Nat) (n : Nat) (h : ∀ i, i < n → f i = g i) : (n == n && alike f g n) = true := by
  simp [(alike_iff f g n).2 h]
theorem put_out (big : Bool) (p k x : Nat) (f : Nat → Nat) (i : Nat) (h : i < p ∨ p + k ≤ i) : putF big p k x f i = f i := by
  unfold putF; rw [if_neg (by omega)]

set_option maxHeartbeats 2000000 in
theorem back_long (A : Option Addr) (n c : Nat) (f : Nat → Nat) (p wd x : Int) (big : Bool) (w : World) (hr : Byt w w.heap.size A n c f) (h : 200 < n) :
    Calls Try.prog 6 #[.slice A n c, .agg #[.int .i64 p, .int .i64 wd, .bool big], .int .u64 x] w fun e w' => e = .returned (.bool true) ∧ Below w.heap.size w w' := by
  have hmx := hr.le
  unfold maxLen at hmx
  obtain ⟨h1, h2⟩ := hmx
  go_enter Try.func6, Try.ntmps6
  go_wp2
  go_ret
  exact ⟨rfl, (Below.refl _ _).alloc (Nat.le_refl _) _⟩

set_option maxHeartbeats 2000000 in
theorem back_err (A : Option Addr) (n c : Nat) (f : Nat → Nat) (p wd x : Int) (big : Bool) (w : World) (hr : Byt w w.heap.size A n c f) (h : n ≤ 200) (ha : -9223372036854775808 ≤ p) (hb : p ≤ 9223372036854775807) (hf : flt n p wd ≠ 0) :
    Calls Try.prog 6 #[.slice A n c, .agg #[.int .i64 p, .int .i64 wd, .bool big], .int .u64 x] w fun e w' => e = .returned (.bool true) ∧ Below w.heap.size w w' := by
  have hmx := hr.le
  unfold maxLen at hmx
  obtain ⟨h1, h2⟩ := hmx
  have HG := Lib.hid (fun W => put_err big A n c p wd x W (by unfold maxLen; omega) ha hb hf)
  have ht : (flt n p wd != 0) = true := by simpa using hf
  go_enter Try.func6, Try.ntmps6
  go_wp2_with fail
  refine (HG.out _).mono ?_
  rintro e w1 ⟨rfl, hB1⟩
  go_wp2_with fail
  refine (awake_any _).mono ?_
  rintro e w2 ⟨rfl, hB2⟩
  go_wp2
  go_ret
  exact ⟨rfl, ((Below.refl _ _).alloc (Nat.le_refl _) _).trans ((hB1.mono (by simp)).trans (hB2.mono (by have := hB1.size; simp at this; omega)))⟩

set_option maxRecDepth 100000 in
set_option maxHeartbeats 4000000 in
theorem back_ok (big : Bool) (b off n c : Nat) (f : Nat → Nat) (p k x : Nat) (w : World) (hb : b < w.heap.size) (hc : ∀ i, i < n → w.cell? ⟨b, off + i, none⟩ = some (bv (f i)) ∧ f i < 256) (hnc : n ≤ c) (hcm : c ≤ maxLen) (h : n ≤ 200) (hk : k = 1 ∨ k = 2 ∨ k = 4 ∨ k = 8) (hp : p + k ≤ n) (hx : x < 18446744073709551616) :
    Calls Try.prog 6 #[.slice (some ⟨b, off, none⟩) n c, .agg #[.int .i64 p, .int .i64 k, .bool big], .int .u64 x] w fun e w' => e = .returned (.bool true) ∧ Below w.heap.size w w' := by
  have hr : Byt w w.heap.size (some ⟨b, off, none⟩) n c f := Byt.mk_ hb hnc hcm hc
  have hk8 : k ≤ 8 := by omega
  have hk0 : 0 < k := by omega
  have hcp : p < c := by omega
  unfold maxLen at hcm
  have HG := Lib.hid (fun (W : World) (hB : Below w.heap.size w W) => put_ok big (some ⟨b, off, none⟩) n c p k x f W (by omega) hk hp hx ((hr.below hB).more hB.size))
  have HR : Hid (∀ (W : World) (A : Option Addr) (c : Nat), Byt W W.heap.size A n c (putF big p k x f) → Calls Try.prog 15 #[.slice A n c, .int .i64 p, .int .i64 k, .bool big] W fun e w' => e = .returned (.tuple #[.int .u64 (x % 2 ^ (8 * k) : Nat), .int .i64 0]) ∧ Below W.heap.size W w') :=
    fun W A c hr => get_put big p k x f ▸ get_ok big A n c p k (putF big p k x f) W (by omega) hk hp hr
  have hm : x % 2 ^ (8 * k) ≤ x := Nat.mod_le _ _
  have HQ : Hid (∀ (W : World) (A : Option Addr) (c : Nat), Byt W W.heap.size A n c (putF big p k x f) → Calls Try.prog 20 #[.slice A n c, .int .i64 p, .int .i64 k, .bool big, .int .u64 (x % 2 ^ (8 * k) : Nat)] W fun e w' =>
      ∃ A' c', e = .returned (.tuple #[.slice A' n c', .int .i64 0]) ∧ Own_ w' W.heap.size 5 A' n c' (putF big p k x f) ∧ Below W.heap.size W w') :=
    fun W A c hr => (put_ok big A n c p k (x % 2 ^ (8 * k)) (putF big p k x f) W (by omega) hk hp (by omega) hr).mono fun e w' ⟨A', c', h1, h2, h3⟩ => ⟨A', c', h1, h2.congr (fun i _ => put_put big p k x f i), h3⟩
  generalize hmm : x % 2 ^ (8 * k) = m at *
  have hm' : m ≤ x := hm
  have HM := Lib.hid hmm
  have HC := Lib.hid hc
  clear hmm hm hc
  go_enter Try.func6, Try.ntmps6
  go_wp2_with fail
  refine (HG.out _ ((Below.refl _ _).alloc (Nat.le_refl _) _)).mono ?_
  rintro e w1 ⟨A1, c1, rfl, hown1, hB1⟩
  have hs1 := hB1.size
  rw [size_box3] at hB1 hs1
  have x0 : w1.cell? ⟨w.heap.size, 0, none⟩ = some (.int .i64 p) := (hB1.cell (p := ⟨w.heap.size, 0, none⟩) (by show w.heap.size < _; omega)).trans (by simp)
  have x1 : w1.cell? ⟨w.heap.size, 1, none⟩ = some (.int .i64 k) := (hB1.cell (p := ⟨w.heap.size, 1, none⟩) (by show w.heap.size < _; omega)).trans (by simp)
  have x2 : w1.cell? ⟨w.heap.size, 2, none⟩ = some (.bool big) := (hB1.cell (p := ⟨w.heap.size, 2, none⟩) (by show w.heap.size < _; omega)).trans (by simp)
  have hb1 : Below w.heap.size w w1 := ((Below.refl _ _).alloc (Nat.le_refl _) _).trans (hB1.mono (by omega))
  have hout1 := hown1.byt
  go_wp2_with fail
  refine (HR.out _ _ _ hout1).mono ?_
  rintro e w2 ⟨rfl, hB2⟩
  have hs2 := hB2.size
  have hb2 := hb1.trans (hB2.mono hb1.size)
  have y0 := (hB2.cell (p := ⟨w.heap.size, 0, none⟩) (by show w.heap.size < _; omega)).trans x0
  have y1 := (hB2.cell (p := ⟨w.heap.size, 1, none⟩) (by show w.heap.size < _; omega)).trans x1
  have y2 := (hB2.cell (p := ⟨w.heap.size, 2, none⟩) (by show w.heap.size < _; omega)).trans x2
  have hout2 := (hout1.below hB2).more hs2
  clear x0 x1 x2 hout1 hown1
  by_cases hk7 : k < 8
  · have e2 : IntKind.u64.wrap ((2 : Int) ^ (8 * k)) = ((2 ^ (8 * k) : Nat) : Int) := by
      have h1 : (2 : Nat) ^ (8 * k) ≤ 2 ^ 56 := Nat.pow_le_pow_right (by decide) (by omega)
      have h2 : (2 : Nat) ^ 56 < 18446744073709551616 := by decide
      have h3 : ((2 : Int) ^ (8 * k)) = ((2 ^ (8 * k) : Nat) : Int) := by rw [Int.natCast_pow]; rfl
      rw [h3, IntKind.wrap_u64]
      generalize (2 : Nat) ^ (8 * k) = q at h1
      omega
    have hz : ¬ IntKind.u64.wrap ((2 : Int) ^ (8 * k)) = 0 := by
      rw [e2]
      have := Nat.two_pow_pos (8 * k)
      generalize (2 : Nat) ^ (8 * k) = q at this
      omega
    have hq : ((m : Int) == (x : Int) % IntKind.u64.wrap ((2 : Int) ^ (8 * k))) = true := by
      rw [beq_iff_eq, e2, ← Int.natCast_emod, HM.out]
    clear e2
    go_wp2_with fail
    refine (HQ.out _ _ _ hout2).mono ?_
    rintro e w3 ⟨A3, c3, rfl, hown3, hB3⟩
    have hs3 := hB3.size
    have hb3 := hb2.trans (hB3.mono hb2.size)
    have z0 := (hB3.cell (p := ⟨w.heap.size, 0, none⟩) (by show w.heap.size < _; omega)).trans y0
    have z1 := (hB3.cell (p := ⟨w.heap.size, 1, none⟩) (by show w.heap.size < _; omega)).trans y1
    have hout3 := (hout2.below hB3).more hs3
    have hag3 := hown3.byt
    have HB3 := Lib.hid hb3
    clear hk y0 y1 y2 hout2 hown3 HQ HR HG hx
    have hp0 : (p : Int) + k ≤ (n : Int) := by omega
    go_wp2
    go_loopw [13] (fun i wr => ∃ j : Nat, j ≤ n ∧ i = .int .i64 j ∧ Below w3.heap.size w3 wr) (fun i _ => n - (intOf i).toNat)
    case atStart => exact ⟨0, Nat.zero_le _, rfl, Below.refl _ _⟩
    case round =>
      obtain ⟨j, hj, rfl, hB⟩ := hrel
      have p0 := (hB.cell (p := ⟨w.heap.size, 0, none⟩) (by show w.heap.size < _; omega)).trans z0
      have p1 := (hB.cell (p := ⟨w.heap.size, 1, none⟩) (by show w.heap.size < _; omega)).trans z1
      by_cases hlt : j < n
      · obtain ⟨g, og, rfl, _, hcg⟩ := (hout3.below hB).at_ (by omega)
        have c1 := (hcg j hlt).1
        have c2 := (((HB3.out).trans (hB.mono HB3.out.size)).cell (p := ⟨b, off + j, none⟩) hb).trans (HC.out j hlt).1
        have hji : (j : Int) < (n : Int) := by omega
        clear hcg
        by_cases g1 : j < p
        · have hg1 : (j : Int) < (p : Int) := by omega
          rw [put_out big p k x f j (by omega)] at c1
          go_wp2
          go_quiet (fail)
          go_wp2
          go_roundw
          case rel => exact ⟨j + 1, by omega, by go_num, bdn hB nq⟩
          case measure => simp [intOf]; omega
        · have hg1 : decide ((j : Int) < (p : Int)) = false := by simp; omega
          by_cases g2 : p + k ≤ j
          · have hg2 : (p : Int) + k ≤ (j : Int) := by omega
            have hg3 : decide ((p : Int) + k ≤ (j : Int)) = true := by simpa using hg2
            rw [put_out big p k x f j (by omega)] at c1
            go_wp2
            go_quiet (fail)
            go_wp2
            go_roundw
            case rel => exact ⟨j + 1, by omega, by go_num, bdn hB nq⟩
            case measure => simp [intOf]; omega
          · have hg3 : decide ((p : Int) + k ≤ (j : Int)) = false := by simp; omega
            go_wp2
            go_quiet (fail)
            go_wp2
            go_roundw
            case rel => exact ⟨j + 1, by omega, by go_num, bdn hB nq⟩
            case measure => simp [intOf]; omega
      · obtain rfl : j = n := by omega
        have hb4 := HB3.out.trans (hB.mono HB3.out.size)
        go_wp2_with fail
        refine (same_any _ _ _ _ _ _ _ _ _ ((hag3.below hB).more hB.size) ((hout3.below hB).more hB.size)).mono ?_
        rw [alike_self3 _ _ j (fun _ _ => rfl)]
        rintro e w10 ⟨rfl, hB10⟩
        have hb10 := hb4.trans (hB10.mono hb4.size)
        go_wp2_with fail
        refine (awake_any _).mono ?_
        rintro e w11 ⟨rfl, hB11⟩
        go_wp2
        go_ret
        exact ⟨rfl, hb10.trans (hB11.mono hb10.size)⟩
  · obtain rfl : k = 8 := by omega
    have hq : ((m : Int) == (x : Int)) = true := by
      rw [beq_iff_eq, ← HM.out]
      congr 1
      exact (Nat.mod_eq_of_lt (by simpa using hx))
    go_wp2_with fail
    refine (HQ.out _ _ _ hout2).mono ?_
    rintro e w3 ⟨A3, c3, rfl, hown3, hB3⟩
    have hs3 := hB3.size
    have hb3 := hb2.trans (hB3.mono hb2.size)
    have z0 := (hB3.cell (p := ⟨w.heap.size, 0, none⟩) (by show w.heap.size < _; omega)).trans y0
    have z1 := (hB3.cell (p := ⟨w.heap.size, 1, none⟩) (by show w.heap.size < _; omega)).trans y1
    have hout3 := (hout2.below hB3).more hs3
    have hag3 := hown3.byt
    have HB3 := Lib.hid hb3
    clear hk y0 y1 y2 hout2 hown3 HQ HR HG hx
    have hp0 : (p : Int) + 8 ≤ (n : Int) := by omega
    go_wp2
    go_loopw [13] (fun i wr => ∃ j : Nat, j ≤ n ∧ i = .int .i64 j ∧ Below w3.heap.size w3 wr) (fun i _ => n - (intOf i).toNat)
    case atStart => exact ⟨0, Nat.zero_le _, rfl, Below.refl _ _⟩
    case round =>
      obtain ⟨j, hj, rfl, hB⟩ := hrel
      have p0 := (hB.cell (p := ⟨w.heap.size, 0, none⟩) (by show w.heap.size < _; omega)).trans z0
      have p1 := (hB.cell (p := ⟨w.heap.size, 1, none⟩) (by show w.heap.size < _; omega)).trans z1
      by_cases hlt : j < n
      · obtain ⟨g, og, rfl, _, hcg⟩ := (hout3.below hB).at_ (by omega)
        have c1 := (hcg j hlt).1
        have c2 := (((HB3.out).trans (hB.mono HB3.out.size)).cell (p := ⟨b, off + j, none⟩) hb).trans (HC.out j hlt).1
        have hji : (j : Int) < (n : Int) := by omega
        clear hcg
        by_cases g1 : j < p
        · have hg1 : (j : Int) < (p : Int) := by omega
          rw [put_out big p 8 x f j (by omega)] at c1
          go_wp2
          go_quiet (fail)
          go_wp2
          go_roundw
          case rel => exact ⟨j + 1, by omega, by go_num, bdn hB nq⟩
          case measure => simp [intOf]; omega
        · have hg1 : decide ((j : Int) < (p : Int)) = false := by simp; omega
          by_cases g2 : p + 8 ≤ j
          · have hg2 : (p : Int) + 8 ≤ (j : Int) := by omega
            have hg3 : decide ((p : Int) + 8 ≤ (j : Int)) = true := by simpa using hg2
            rw [put_out big p 8 x f j (by omega)] at c1
            go_wp2
            go_quiet (fail)
            go_wp2
            go_roundw
            case rel => exact ⟨j + 1, by omega, by go_num, bdn hB nq⟩
            case measure => simp [intOf]; omega
          · have hg3 : decide ((p : Int) + 8 ≤ (j : Int)) = false := by simp; omega
            go_wp2
            go_quiet (fail)
            go_wp2
            go_roundw
            case rel => exact ⟨j + 1, by omega, by go_num, bdn hB nq⟩
            case measure => simp [intOf]; omega
      · obtain rfl : j = n := by omega
        have hb4 := HB3.out.trans (hB.mono HB3.out.size)
        go_wp2_with fail
        refine (same_any _ _ _ _ _ _ _ _ _ ((hag3.below hB).more hB.size) ((hout3.below hB).more hB.size)).mono ?_
        rw [alike_self3 _ _ j (fun _ _ => rfl)]
        rintro e w10 ⟨rfl, hB10⟩
        have hb10 := hb4.trans (hB10.mono hb4.size)
        go_wp2_with fail
        refine (awake_any _).mono ?_
        rintro e w11 ⟨rfl, hB11⟩
        go_wp2
        go_ret
        exact ⟨rfl, hb10.trans (hB11.mono hb10.size)⟩

theorem walk_WordBack {w0 : World} (A : Option Addr) (n c : Nat) (f : Nat → Nat) (hr : Byt w0 w0.heap.size A n c f) (p wd : Int) (big : Bool) (hp : (Lit.int .i64 p).wf = true) (_hw : (Lit.int .i64 wd).wf = true) (x : Int) (hx : (Lit.int .u64 x).wf = true) :
    Calls Try.prog 6 #[.slice A n c, .agg #[.int .i64 p, .int .i64 wd, .bool big], .int .u64 x] w0 fun e w' => e = .returned (.bool true) ∧ Below w0.heap.size w0 w' := by
  simp [Lit.wf, IntKind.min, IntKind.max, IntKind.signed, IntKind.bits] at hp hx
  by_cases h : 200 < n
  · exact back_long A n c f p wd x big w0 hr h
  by_cases hf : flt n p wd = 0
  · obtain ⟨hk, h0, h1⟩ := flt_ok hf
    obtain ⟨q, rfl⟩ := Int.eq_ofNat_of_zero_le h0
    obtain ⟨k, rfl⟩ := Int.eq_ofNat_of_zero_le (show 0 ≤ wd by omega)
    obtain ⟨y, rfl⟩ := Int.eq_ofNat_of_zero_le hx.1
    obtain ⟨b, off, rfl, hb, hc⟩ := hr.at_ (by omega)
    exact back_ok big b off n c f q k y w0 hb hc hr.le.1 hr.le.2 (by omega) (by omega) (by omega) (by omega)
  · exact back_err A n c f p wd x big w0 hr (by omega) hp.1 hp.2 hf

namespace wordBackRow
open Go.ChangeShapes Go.WideShapes Go.ChangeAt Go.RowKit Go.Joins
open Go.ChangeMaps (open_string shut_string)
set_option linter.unusedVariables false
theorem own : ownKnob Try.prog.godebug = none := by kernel_rfl
theorem laidOut : laidOutB Try.prog = true := by kernel_rfl
set_option maxRecDepth 100000 in
theorem lifted (os : Os) (started : os.Started) (H : Type) (enc : TypeId × Value → H) :
    ReturnsInHanded {} Try.checked os 6 .any (Rows.wordBackSpec.pre6 enc Try.prog Try.f6 Rows.wordBackRow.domain false) (Rows.wordBackSpec.post enc Try.prog Try.f6 false true false false) := by
  refine returnsInHanded_of_change (C := Try.checked) own started (by kernel_rfl) Try.func6
    (ChangeSpec.witness6 (enc := enc) (C := Try.checked) false ⟨#[], #[.slice none 0 0, .agg #[.int .i64 0, .int .i64 0, .bool false], .int .u64 0], []⟩ 8 (by kernel_rfl) (by kernel_rfl) (by kernel_rfl) (by kernel_rfl)) ?_
  intro W base args ds gs before hval0 hW hcnd _
  have hval : ∀ (j : Nat) t v, Try.f6.params[j]? = some t → args[j]? = some v → Value.okWide Try.prog W .any base t v := hval0
  have hW' := hW
  obtain ⟨p, q, hA0, hV, rfl, hfz, hnd⟩ := hW
  have hA : DataW.TrodAll enc Try.prog W 0 (fun _ => true) true Try.f6.params.toList args.toList ds p := hA0
  rw [Try.params6] at hA hval
  obtain ⟨v0, vs0, d0, ds0, p0, q0, hargs, rfl, rfl, h0, r0⟩ := trodAll_cons hA
  obtain ⟨v1, vs1, d1, ds1, p1, q1, rfl, rfl, rfl, h1, r1⟩ := trodAll_cons r0
  obtain ⟨v2, vs2, d2, ds2, p2, q2, rfl, rfl, rfl, h2, r2⟩ := trodAll_cons r1
  obtain ⟨rfl, rfl, rfl⟩ := trodAll_nil r2
  obtain rfl : args = #[v0, v1, v2] := by cases args; simp_all
  obtain ⟨rfl, rfl⟩ := trodVars_none hV
  have k0 := h0
  have lt0 : ∀ x ∈ p0, x.block < W.heap.size := by obtain ⟨m, hm⟩ := k0; exact DataW.trod_lt m _ _ _ hm
  have k1 := h1
  have lt1 : ∀ x ∈ p1, x.block < W.heap.size := by obtain ⟨m, hm⟩ := k1; exact DataW.trod_lt m _ _ _ hm
  have k2 := h2
  have lt2 : ∀ x ∈ p2, x.block < W.heap.size := by obtain ⟨m, hm⟩ := k2; exact DataW.trod_lt m _ _ _ hm
  obtain ⟨a0, len0, cap0, rfl⟩ := okWide_slice Try.underlying22 (hval 0 22 v0 rfl rfl)
  obtain ⟨f0, w0⟩ : ∃ f, Byt W W.heap.size a0 len0 cap0 f := by
    obtain ⟨fuel, hf⟩ := h0
    rcases open_ints Try.underlying22 Try.underlying5 (by kernel_rfl) hf with ⟨hcs, _⟩ | ⟨x, l, c, zs, hcs, _, hl, hm, hz, _, hcell, hwz⟩
    · simp [Value.cells] at hcs
      obtain ⟨rfl, rfl, rfl⟩ := hcs
      exact ⟨fun _ => 0, Byt.nil_⟩
    · simp [Value.cells] at hcs
      obtain ⟨rfl, rfl, rfl⟩ := hcs
      exact ⟨_, byt_of_ints hl hm (by have : zs.length = cap0 := by simpa using hz
                                      omega) hcell hwz⟩
  obtain ⟨c0, c1, c2, y0, y1, y2, m1, rfl, _, _, hy0, hy1, hy2⟩ := open_agg3 Try.underlying24 (by kernel_rfl) (show Try.prog.cellsOf 24 = 3 by kernel_rfl) (hval 1 24 v1 rfl rfl) h1
  obtain ⟨x1, e0, _, u1⟩ := DataW.trod_int Try.underlying3 hy0
  obtain ⟨y1, e1, _, t1⟩ := DataW.trod_int Try.underlying3 hy1
  obtain ⟨b1, e2, _⟩ := DataW.trod_bool Try.underlying4 hy2
  simp at e0 e1 e2
  subst e0 e1 e2
  obtain ⟨a2, rfl, rfl, rfl, w2⟩ := open_int Try.underlying25 (hval 2 25 v2 rfl rfl) h2
  clear hA0 hval0
  refine (walk_WordBack (w0 := W) a0 len0 cap0 f0 w0 x1 y1 b1 u1 t1 a2 w2).mono fun e W' ⟨he, bel⟩ => ?_
  subst he
  exact ⟨_, rfl, _, _, _, [], _, [], hW', trodAll_mk1 (shut_bool Try.underlying4 _), (trodAll_cons_mk (Below.trod laidOut (by kernel_rfl) (of_decide_eq_true (by kernel_rfl)) k0 bel lt0) (trodAll_cons_mk (Below.trod laidOut (by kernel_rfl) (of_decide_eq_true (by kernel_rfl)) k1 bel lt1) (trodAll_cons_mk (Below.trod laidOut (by kernel_rfl) (of_decide_eq_true (by kernel_rfl)) k2 bel lt2) trodAll_mk0))), rfl, bel.frame _, fun h => by cases h⟩

theorem over : Rows.wordBackRow.holds Try.pinned (OpenSpec.ofChange Rows.wordBackSpec) :=
  OpenClaim.holds_of_wide 6 Try.f6 rfl rfl rfl rfl rfl rfl rfl ⟨rfl, rfl, rfl, rfl, rfl⟩ rfl rfl rfl rfl rfl (by kernel_rfl) Try.func6 (by kernel_rfl)
    (of_decide_eq_true (by kernel_rfl)) (by unfold Func.isWrapper; first | (rw [if_pos (by decide +kernel)]; kernel_rfl) | (rw [if_neg (by decide +kernel)]; exact ⟨rfl, rfl⟩))
    (fun os started H enc _ => lifted os started H enc)
end wordBackRow

theorem wordBack_proved : Rows.WordBackSaid := wordBackRow.over
#print axioms wordBack_proved
end Go.Proofs.Ytfdfngljfilomaa
