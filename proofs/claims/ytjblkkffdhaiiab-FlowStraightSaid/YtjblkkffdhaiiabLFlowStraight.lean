/-
  The law FlowStraight holds for every input: a program without jumps is reached up to its first return, and no farther.
-/
import Derived.Test.YtjblkkffdhaiiabFp
import Derived.Test.YtjblkkffdhaiiabRows
import Derived.Below
import Derived.ChangeOld
import Derived.ShutString
import Derived.Lib.SmallJoins
import Derived.OpenShut
import Derived.ProofKit
import Derived.WalkKit
import Derived.Deep.Grids
namespace Go.Proofs.Ytjblkkffdhaiiab
open Go.RowKit

theorem cel_bools {w : World} {x : Addr} {n c : Nat} {B : Nat → Bool} (h1 : n ≤ c) (h2 : c ≤ maxLen) (hc : ∀ i, i < c → w.cell? (x.add i) = some (.bool (B i))) :
    Cel w w.heap.size 1 (some x) n c (fun i => .bool (B i)) := by
  refine .inr ⟨x, rfl, h1, h2, fun i hi => ?_⟩
  have hcell := hc i (by omega)
  have hlt := World.block_lt_of_cell? w _ hcell
  have eb : (x.add i).block = x.block := by unfold Addr.add; split <;> rfl
  rw [eb] at hlt
  exact ⟨hlt, hcell⟩

/-- The first return that was met, after k of n. -/
def Met (l : Nat → Bool) (n k q : Nat) : Prop := (q = n ∧ ∀ i, i < k → l i = false) ∨ (q < k ∧ l q = true ∧ ∀ i, i < q → l i = false)
theorem Met.fst {l : Nat → Bool} {n q : Nat} (h : Met l n n q) : Fst l n q := by
  rcases h with ⟨rfl, h⟩ | ⟨h1, h2, h3⟩
  · exact ⟨Nat.le_refl _, h, fun h => by omega⟩
  · exact ⟨by omega, h3, fun _ => h2⟩
theorem Met.no {l : Nat → Bool} {n k q : Nat} (h : Met l n k q) (hl : l k = false) : Met l n (k + 1) q := by
  rcases h with ⟨rfl, h⟩ | ⟨h1, h2, h3⟩
  · exact .inl ⟨rfl, fun i hi => by rcases Nat.lt_or_ge i k with h' | h'
                                    · exact h i h'
                                    · obtain rfl : i = k := by omega
                                      exact hl⟩
  · exact .inr ⟨by omega, h2, h3⟩
theorem Met.yes {l : Nat → Bool} {n k q : Nat} (h : Met l n k q) (hk : k < n) (hl : l k = true) : Met l n (k + 1) (min q k) := by
  rcases h with ⟨rfl, h⟩ | ⟨h1, h2, h3⟩
  · rw [Nat.min_eq_right (by omega)]
    exact .inr ⟨by omega, hl, h⟩
  · rw [Nat.min_eq_left (by omega)]
    exact .inr ⟨by omega, h2, h3⟩
theorem gLk_no {l : Nat → Bool} {n k : Nat} (hk : k < n) (hl : l k = false) : gL l n k = ⟨0x84, 0, 0, 0⟩ := by unfold gL; rw [if_pos ⟨hk, hl⟩]
theorem gLk_yes {l : Nat → Bool} {n k : Nat} (hl : l k = true) : gL l n k = ⟨0x16, 0, 0, 0⟩ := by unfold gL; rw [if_neg (by rw [hl]; simp)]
theorem gLk_end {l : Nat → Bool} {n : Nat} : gL l n n = ⟨0x16, 0, 0, 0⟩ := by unfold gL; rw [if_neg (by omega)]
theorem gL_ok (l : Nat → Bool) (n i : Nat) : (gL l n i).ok := by unfold gL IV.ok; split <;> decide
theorem gL_cat (l : Nat → Bool) (n k : Nat) (v : IV) (hv : gL l n k = v) : ∀ i, i < (k + 1) * 4 → catC (k * 4) (icell (gL l n)) (icell fun _ => v) i = icell (gL l n) i := by
  subst hv; exact icell_cat (gL l n) k

theorem lit1H (w : World) (code : Nat) (E : TypeId) (_hk : code < 65536) (H : Nat) (hH : w.heap.size = H) :
    Cel (w.alloc (.cells #[.int .u16 code, .int .u8 0, .int .u8 0, .int .u32 0] E)) (H + 1) 4 (some ⟨H, 0, none⟩) 1 1 (icell fun _ => ⟨code, 0, 0, 0⟩) := by
  subst hH
  exact Cel.mk_ (by omega) (by decide) (by decide) (fun i hi => by
    match i, hi with
    | 0, _ => simp [icell]
    | 1, _ => simp [icell]
    | 2, _ => simp [icell]
    | 3, _ => simp [icell])

set_option maxRecDepth 100000 in
set_option maxHeartbeats 8000000 in
theorem fstraight_go {w0 : World} (A : Option Addr) (n c : Nat) (l : Nat → Bool) (hr : Cel w0 w0.heap.size 1 A n c (fun i => .bool (l i))) (hn : n ≤ 200) :
    Calls Try.prog 3 #[.slice A n c] w0 fun e w' => e = .returned (.bool true) ∧ Below w0.heap.size w0 w' := by
  have HR := Lib.hid hr
  clear hr
  go_enter Try.func3, Try.ntmps3
  go_wp2
  go_loopw [3, 4, 5] (fun s b i wr => ∃ (k : Nat) (A' : Option Addr) (c' q : Nat), k ≤ n ∧ i = .int .i64 k ∧ s = .slice A' k c' ∧ b = .int .i64 q ∧ OwnC wr w0.heap.size 27 4 A' k c' (icell (gL l n)) ∧ Below w0.heap.size w0 wr ∧ q ≤ n ∧ Met l n k q)
    (fun _ _ i _ => n - (intOf i).toNat)
  case atStart =>
    exact ⟨0, none, 0, n, Nat.zero_le _, rfl, rfl, rfl, OwnC.nil_, Below.refl _ _, Nat.le_refl _, .inl ⟨rfl, fun i hi => by omega⟩⟩
  case round =>
    obtain ⟨k, A', c', q, hk, rfl, rfl, rfl, hown, hB, hq, hz⟩ := hrel
    have hs := hB.size
    have HO := Lib.hid hown
    have HZ := Lib.hid hz
    clear hown hz
    by_cases hlt : k < n
    · obtain ⟨b, off, rfl, hb, hc⟩ := (HR.out.below hB).at_ (by omega)
      have q0 := hc k (by omega)
      clear hc
      obtain ⟨x, hx⟩ : ∃ x, l k = x := ⟨_, rfl⟩
      have HX := Lib.hid hx
      rw [hx] at q0
      clear hx
      have q1 := (((Below.refl wr.heap.size wr).alloc (Nat.le_refl _) (.cells #[.int .u16 132, .int .u8 0, .int .u8 0, .int .u32 0] 27)).cell (p := ⟨b, off + k, none⟩) (by show b < wr.heap.size; omega)).trans q0
      cases x
      · go_wp2_with (at_builtin; go_must (refine app_cells _ rfl _ _ _ 27 rfl Try.underlying23 infoI rfl (by decide) rfl ((HO.out.alloc _).alloc _) rfl (lit1H _ 132 27 (by decide) (wr.heap.size + 1) (by simp)) (fun i _ => icell_one _ i) (by unfold maxLen; omega) (by omega) (by simp; omega) (k + 1) rfl (icell (gL l n)) (gL_cat l n k _ (gLk_no hlt HX.out)) ?_; rintro A2 c2 w2 hown2 hB2; have HO2 := Lib.hid hown2; clear hown2))
        exact ⟨⟨k + 1, A2, c2, q, by omega, by go_num, rfl, rfl, HO2.out, ((hB.alloc hs _).alloc (by simp; omega) _).trans (hB2.mono (by omega)), hq, HZ.out.no HX.out⟩, by simp [intOf]; omega⟩
      · go_wp2_with (at_builtin; go_must (refine app_cells _ rfl _ _ _ 27 rfl Try.underlying23 infoI rfl (by decide) rfl ((HO.out.alloc _).alloc _) rfl (lit1H _ 22 27 (by decide) (wr.heap.size + 1) (by simp)) (fun i _ => icell_one _ i) (by unfold maxLen; omega) (by omega) (by simp; omega) (k + 1) rfl (icell (gL l n)) (gL_cat l n k _ (gLk_yes HX.out)) ?_; rintro A2 c2 w2 hown2 hB2; have HO2 := Lib.hid hown2; clear hown2))
        refine ⟨⟨k + 1, A2, c2, min q k, by omega, by go_num, rfl, ?_, HO2.out, ((hB.alloc hs _).alloc (by simp; omega) _).trans (hB2.mono (by omega)), by omega, HZ.out.yes hlt HX.out⟩, by simp [intOf]; omega⟩
        first | rfl | go_num | (congr 1; omega) | (simp; done)
    · obtain rfl : k = n := by omega
      have HF := Lib.hid HZ.out.fst
      have hck := gL_check l k (by omega)
      have hwy := gL_way HF.out (by omega)
      have hct := gL_cnt HF.out (by omega) (k + 1)
      have hlg := gL_lng HF.out
      rw [Nat.min_eq_right (by omega)] at hct
      have HC := Lib.hid hck
      have HW := Lib.hid hwy
      have HT := Lib.hid hct
      have HL := Lib.hid hlg
      clear hck hwy hct hlg
      go_wp2_with (at_builtin; go_must (refine app_cells _ rfl _ _ _ 27 rfl Try.underlying23 infoI rfl (by decide) rfl (HO.out.alloc _) rfl (lit1H _ 22 27 (by decide) wr.heap.size rfl) (fun i _ => icell_one _ i) (by unfold maxLen; omega) (by omega) (by simp; omega) (k + 1) rfl (icell (gL l k)) (gL_cat l k k _ gLk_end) ?_; rintro A2 c2 w2 hown2 hB2; have HI2 : Hid (Ins w2 w2.heap.size A2 (k + 1) c2 (gL l k)) := Lib.hid ⟨hown2.cel, fun i _ => gL_ok l k i⟩; have hb2 : Below w0.heap.size w0 w2 := (hB.alloc hs _).trans (hB2.mono (by omega)); clear hown2))
      refine (reach_ok _ _ _ _ _ HI2.out HC.out).mono ?_
      rintro e w3 ⟨b3, rfl, _, hrow, hB3⟩
      have hb3 := hb2.trans (hB3.mono hb2.size)
      have HI3 : Hid (Ins w3 w3.heap.size A2 (k + 1) c2 (gL l k)) := Lib.hid ((HI2.out.below hB3).more hB3.size)
      have HRW := Lib.hid hrow
      clear hrow hB3 hb2 HI2
      go_wp2
      go_loopw [8] (fun i W => ∃ j : Nat, j ≤ k + 1 ∧ i = .int .i64 j ∧ W = w3) (fun i _ => k + 1 - (intOf i).toNat)
      case atStart => exact ⟨0, Nat.zero_le _, rfl, rfl⟩
      case round =>
        obtain ⟨j, hj, rfl, rfl⟩ := hrel
        by_cases hlj : j < k + 1
        · have p0 := HRW.out.cell j _ (boolRow_at _ _ _ hlj)
          rw [HW.out] at p0
          by_cases hjq : j ≤ q
          · rw [decide_eq_true hjq] at p0
            have t0 : ((j : Int) ≤ (q : Int)) := by omega
            go_wp2
            exact ⟨⟨j + 1, by omega, by go_num, trivial⟩, by simp [intOf]; omega⟩
          · rw [decide_eq_false hjq] at p0
            have t0 : ¬ ((j : Int) ≤ (q : Int)) := by omega
            go_wp2
            exact ⟨⟨j + 1, by omega, by go_num, trivial⟩, by simp [intOf]; omega⟩
        · obtain rfl : j = k + 1 := by omega
          go_wp2_with fail
          refine (longest_ok _ _ _ _ _ HI3.out HC.out).mono ?_
          rw [HL.out]
          rintro e w4 ⟨rfl, hB4⟩
          have hb4 := hb3.trans (hB4.mono hb3.size)
          have HI4 := Lib.hid ((HI3.out.below hB4).more hB4.size)
          clear hB4
          have e0 : ((q + 1 : Nat) : Int) = (q : Int) + 1 := by omega
          rw [e0]
          go_wp2_with fail
          refine (prune_ok _ _ _ _ _ HI4.out HC.out).mono ?_
          rw [HT.out]
          rintro e w5 ⟨A5, c5, rfl, _, hB5⟩
          have hb5 := hb4.trans (hB5.mono hb4.size)
          clear hB5
          go_wp2_with (go_at_call 14
                       refine (awake7_any _).mono ?_
                       rintro e w6 ⟨rfl, hB6⟩
                       have hb6 := hb5.trans (hB6.mono hb5.size))
          go_ret
          exact ⟨rfl, hb6⟩

set_option maxHeartbeats 1000000 in
theorem walk_FlowStraight {w0 : World} (A : Option Addr) (n c : Nat) (l : Nat → Bool) (hr : Cel w0 w0.heap.size 1 A n c (fun i => .bool (l i))) :
    Calls Try.prog 3 #[.slice A n c] w0 fun e w' => e = .returned (.bool true) ∧ Below w0.heap.size w0 w' := by
  have hmx := hr.le
  unfold maxLen at hmx
  obtain ⟨m1, m2⟩ := hmx
  by_cases h1 : 200 < n
  · go_enter Try.func3, Try.ntmps3
    go_wp2
    go_ret
    exact ⟨rfl, Below.refl _ _⟩
  · exact fstraight_go A n c l hr (by omega)

namespace flowStraightRow
open Go.ChangeShapes Go.WideShapes Go.ChangeAt Go.RowKit Go.Joins
open Go.ChangeMaps (open_string shut_string)
set_option linter.unusedVariables false
theorem own : ownKnob Try.prog.godebug = none := by kernel_rfl
theorem laidOut : laidOutB Try.prog = true := by kernel_rfl
set_option maxRecDepth 100000 in
theorem lifted (os : Os) (started : os.Started) (H : Type) (enc : TypeId × Value → H) :
    ReturnsInHanded {} Try.checked os 3 .any (Rows.flowStraightSpec.pre6 enc Try.prog Try.f3 Rows.flowStraightRow.domain false) (Rows.flowStraightSpec.post enc Try.prog Try.f3 false true false false) := by
  refine returnsInHanded_of_change (C := Try.checked) own started (by kernel_rfl) Try.func3
    (ChangeSpec.witness6 (enc := enc) (C := Try.checked) false ⟨#[], #[.slice none 0 0], []⟩ 8 (by kernel_rfl) (by kernel_rfl) (by kernel_rfl) (by kernel_rfl)) ?_
  intro W base args ds gs before hval0 hW hcnd _
  have hval : ∀ (j : Nat) t v, Try.f3.params[j]? = some t → args[j]? = some v → Value.okWide Try.prog W .any base t v := hval0
  have hW' := hW
  obtain ⟨p, q, hA0, hV, rfl, hfz, hnd⟩ := hW
  have hA : DataW.TrodAll enc Try.prog W 0 (fun _ => true) true Try.f3.params.toList args.toList ds p := hA0
  rw [Try.params3] at hA hval
  obtain ⟨v0, vs0, d0, ds0, p0, q0, hargs, rfl, rfl, h0, r0⟩ := trodAll_cons hA
  obtain ⟨rfl, rfl, rfl⟩ := trodAll_nil r0
  obtain rfl : args = #[v0] := by cases args; simp_all
  obtain ⟨rfl, rfl⟩ := trodVars_none hV
  have k0 := h0
  have lt0 : ∀ x ∈ p0, x.block < W.heap.size := by obtain ⟨m, hm⟩ := k0; exact DataW.trod_lt m _ _ _ hm
  obtain ⟨a0, len0, cap0, rfl⟩ := okWide_slice Try.underlying22 (hval 0 22 v0 rfl rfl)
  obtain ⟨f0, w0⟩ : ∃ f : Nat → Bool, Cel W W.heap.size 1 a0 len0 cap0 (fun i => .bool (f i)) := by
    obtain ⟨fuel, hf⟩ := h0
    rcases Go.Deep.open_bools Try.underlying22 Try.underlying4 (by kernel_rfl) hf with ⟨hcs, _⟩ | ⟨x, l, c, B, hcs, _, hl, hm, _, hcell⟩
    · simp [Value.cells] at hcs
      obtain ⟨rfl, rfl, rfl⟩ := hcs
      exact ⟨fun _ => false, Cel.nil_⟩
    · simp [Value.cells] at hcs
      obtain ⟨rfl, rfl, rfl⟩ := hcs
      exact ⟨B, cel_bools hl hm hcell⟩
  clear hA0 hval0
  refine (walk_FlowStraight (w0 := W) a0 len0 cap0 f0 w0).mono fun e W' ⟨he, bel⟩ => ?_
  subst he
  exact ⟨_, rfl, _, _, _, [], _, [], hW', trodAll_mk1 (shut_bool Try.underlying4 _), (trodAll_cons_mk (Below.trod laidOut (by kernel_rfl) (of_decide_eq_true (by kernel_rfl)) k0 bel lt0) trodAll_mk0), rfl, bel.frame _, fun h => by cases h⟩

theorem over : Rows.flowStraightRow.holds Try.pinned (OpenSpec.ofChange Rows.flowStraightSpec) :=
  OpenClaim.holds_of_wide 3 Try.f3 rfl rfl rfl rfl rfl rfl rfl ⟨rfl, rfl, rfl, rfl, rfl⟩ rfl rfl rfl rfl rfl (by kernel_rfl) Try.func3 (by kernel_rfl)
    (of_decide_eq_true (by kernel_rfl)) (by unfold Func.isWrapper; first | (rw [if_pos (by decide +kernel)]; kernel_rfl) | (rw [if_neg (by decide +kernel)]; exact ⟨rfl, rfl⟩))
    (fun os started H enc _ => lifted os started H enc)
end flowStraightRow

theorem flowStraight_proved : Rows.FlowStraightSaid := flowStraightRow.over
#print axioms flowStraight_proved
end Go.Proofs.Ytjblkkffdhaiiab
