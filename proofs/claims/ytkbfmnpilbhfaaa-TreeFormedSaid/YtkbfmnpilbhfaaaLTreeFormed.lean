/-
  The law TreeFormed holds for every input: a tree is formed: its nodes lead ahead, its leaves are the numbers, each once, and no way is longer than told.
-/
import Derived.Test.YtkbfmnpilbhfaaaXf
import Derived.Test.YtkbfmnpilbhfaaaRows
import Derived.Below
import Derived.ChangeOld
import Derived.ShutString
import Derived.Lib.SmallJoins
import Derived.OpenShut
import Derived.ProofKit
import Derived.WalkKit
import Derived.Deep.Grids
import Derived.Deep.RegionHeld3
namespace Go.Proofs.Ytkbfmnpilbhfaaa
open Go.RowKit

theorem lvs_le (T : Nat → Nd) : ∀ k, lvs T k ≤ k
  | 0 => Nat.le_refl _
  | k + 1 => by
    have := lvs_le T k
    show lvs T k + (if (T k).leaf then 1 else 0) ≤ k + 1
    split <;> omega
theorem IsTree.leaves {g : Nat → Nat} {n : Nat} {T : Nat → Nd} {D : Nat → Nat} {N : Nat} (h : IsTree g n T D N) : (if n = 0 then 0 else lvs T N) = n := by
  by_cases e : n = 0
  · rw [if_pos e, e]
  · rw [if_neg e]
    obtain ⟨e1, e2⟩ := h.some_ (by omega)
    have := e2.leaves
    rw [e1, show 2 * n - 1 = 0 + (2 * n - 1) from by omega, this]
    show 0 + n = n
    omega
/-- How many leaves the law has counted. -/
def cntL (n : Nat) (T : Nat → Nd) (k : Nat) : Nat := if n = 0 then 0 else lvs T k

set_option maxRecDepth 100000 in
set_option maxHeartbeats 16000000 in
theorem walk_TreeFormed {w0 : World} (A : Option Addr) (n c : Nat) (g : Nat → Nat) (hU : U32a w0 A n c g) :
    Calls Try.prog 4 #[.slice A n c] w0 fun e w' => e = .returned (.bool true) ∧ Below w0.heap.size w0 w' := by
  have HU := Lib.hid hU
  clear hU
  by_cases h1 : n > 300
  · have i1 : (n : Int) > 300 := by omega
    go_enter Try.func4, Try.ntmps4
    go_wp2
    go_ret
    exact ⟨rfl, Below.refl _ _⟩
  have i1 : ¬ (n : Int) > 300 := by omega
  cases hr : risB g n with
  | false =>
    have HR := Lib.hid hr
    clear hr
    go_enter Try.func4, Try.ntmps4
    go_wp2_with fail
    refine (build_no _ _ _ _ _ HU.out HR.out).mono ?_
    rintro e w1 ⟨rfl, hB1⟩
    go_wp2_with fail
    refine (awake19_any _).mono ?_
    rintro e w2 ⟨rfl, hB2⟩
    go_wp2
    go_ret
    exact ⟨rfl, hB1.trans (hB2.mono hB1.size)⟩
  | true =>
    have HR := Lib.hid hr
    clear hr
    go_enter Try.func4, Try.ntmps4
    go_wp2_with fail
    refine (build_ok _ _ _ _ _ HU.out HR.out (by omega)).mono ?_
    rintro e w1 ⟨⟨A', N, c', T, D, rfl, hT⟩, hB1⟩
    have hN1 := hT.lo
    have hN2 := hT.hi
    have hmk := mk_ints N hN2 w1
    have i0 : ((N : Int) == 0) = false := by simp; omega
    obtain ⟨WS, hWS⟩ : ∃ B, w1.heap.size = B := ⟨_, rfl⟩
    obtain ⟨W1, hW1⟩ : ∃ W, w1.alloc (.cells (intRow N fun _ => 0) 3) = W := ⟨_, rfl⟩
    have hB2 : Below WS w1 W1 := by rw [← hW1, ← hWS]; exact (Below.refl _ _).alloc (Nat.le_refl _) _
    have hr1 : RowC W1 WS (intRow N fun _ => 0) 3 := by rw [← hW1, ← hWS]; exact RowC.new _ _ _ _ rfl
    rw [hW1, hWS] at hmk
    have HWS := Lib.hid hWS
    have HT := Lib.hid hT
    have HB1 := Lib.hid hB1
    have HB2 := Lib.hid hB2
    have HR1 := Lib.hid hr1
    clear hT hB1 hB2 hr1 hWS hW1
    have hc0 : cntL n T 0 = 0 := by unfold cntL; split <;> rfl
    go_wp2_with fail
    go_loopw [6, 7] (fun lv iv wr => ∃ k : Nat, k ≤ N ∧ iv = .int .i64 k ∧ lv = .int .i64 (cntL n T k : Nat) ∧ RowC wr WS (intRow N fun i => if i < k then D i else 0) 3 ∧ Below WS w1 wr) (fun _ iv _ => N - (intOf iv).toNat)
    case atStart => exact ⟨0, by omega, rfl, by rw [hc0]; rfl, by simpa using HR1.out, HB2.out⟩
    case round =>
      obtain ⟨k, hk, rfl, rfl, hrw, hB⟩ := hrel
      have HRW := Lib.hid hrw
      have HBW := Lib.hid hB
      by_cases hlt : k < N
      · obtain ⟨bt, ot, rfl, hbt, _, hct⟩ := nd_at HT.out.cel hN1
        obtain ⟨q0, q1, q2, q3, q4⟩ := hct k hlt
        have ee : ∀ j, wr.cell? ⟨bt, j, none⟩ = w1.cell? ⟨bt, j, none⟩ := fun j => hB.cell (show bt < WS by rw [← HWS.out]; exact hbt)
        rw [← ee] at q0 q1 q2 q3 q4
        have j1 : (k : Int) < (N : Int) := by omega
        have j2 : (0 : Int) ≤ (k : Int) := by omega
        obtain ⟨X, hX⟩ : ∃ X, wr.heap.size = X := ⟨_, rfl⟩
        obtain ⟨nd, hnd⟩ : ∃ nd, T k = nd := ⟨_, rfl⟩
        have hok := HT.out.tree.nodes k hlt
        unfold NdOk at hok
        rw [hnd] at q0 q1 q2 q3 q4 hok
        have HND := Lib.hid hnd
        obtain ⟨lf, nm, pl, lw, hg⟩ := nd
        simp only at q0 q1 q2 q3 q4 hok
        obtain ⟨W2, hW2⟩ : ∃ W, wr.alloc (.cells #[.bool lf, .int .u32 nm, .int .i64 pl, .int .i64 lw, .int .i64 hg] 35) = W := ⟨_, rfl⟩
        have hXW : WS < X := by have := hrw.lt; omega
        have hB3 : Below X wr W2 := by rw [← hW2, ← hX]; exact (Below.refl _ _).alloc (Nat.le_refl _) _
        have hx2 : RowC W2 X #[.bool lf, .int .u32 nm, .int .i64 pl, .int .i64 lw, .int .i64 hg] 35 := by rw [← hW2, ← hX]; exact RowC.new _ _ _ _ rfl
        have hr2 := hrw.below hB3 hXW
        have HR2 := Lib.hid hr2
        have HW2 := Lib.hid hW2
        have HB3 := Lib.hid hB3
        have HU2 := Lib.hid ((HU.out.below HB1.out).below ((hB.trans (hB3.mono (by omega))).mono (by rw [HWS.out]; exact Nat.le_refl _)))
        have HB4 := Lib.hid (hB.trans (hB3.mono (by omega)))
        have x0 := hx2.cell 0 (.bool lf) rfl
        have x1 := hx2.cell 1 (.int .u32 nm) rfl
        have x2 := hx2.cell 2 (.int .i64 pl) rfl
        have x3 := hx2.cell 3 (.int .i64 lw) rfl
        have x4 := hx2.cell 4 (.int .i64 hg) rfl
        clear hct ee hrw hB hnd hW2 hB3 hx2 hr2 hmk
        rcases hok with (⟨hl, hD, q, _, hq, hp, hn, hz1, hz2⟩ | ⟨hl, hlw, hhg, hD, hz1, hz2⟩) | ⟨hn0, hN, hk0, hT0, hD⟩
        · obtain rfl : lf = true := hl
          obtain rfl : pl = (q : Int) := hp
          have hq' : q < n := by omega
          have d1 : decide ((q : Int) < 0) = false := by simp
          have d2 : decide ((q : Int) ≥ (n : Int)) = false := by simp; omega
          have d3 : ((g q : Int) != (nm : Int)) = false := by simp; omega
          have d4 : (0 : Int) ≤ (q : Int) := by omega
          have d5 : (q : Int) < (n : Int) := by omega
          obtain ⟨bu, ou, rfl, _, _, _, hcu⟩ := HU2.out.at_ (by omega)
          have u0 := hcu q hq'
          have hcn : cntL n T (k + 1) = cntL n T k + 1 := by
            unfold cntL
            rw [if_neg (by omega), if_neg (by omega)]
            show lvs T k + (if (T k).leaf then 1 else 0) = _
            rw [HND.out]; rfl
          have hcl : cntL n T k ≤ 8191 := by
            have := lvs_le T k
            unfold cntL; split <;> omega
          have HCN := Lib.hid hcn
          have HDD := Lib.hid hD
          clear hcu hcn hD hn hz1 hz2
          go_upto_region 14 with fail
          (try rw [hX])
          (try rw [HW2.out])
          clear hX
          go_upto_region 16 with fail
          go_quiet (fail)
          go_wp2
          refine ⟨⟨k + 1, by omega, by go_num, by rw [HCN.out]; go_num, ?_, HB4.out.trans (bdn (Below.refl _ _) nq)⟩, by simp [intOf]; omega⟩
          have h := HR2.out
          rw [intRow_step N D k HDD.out] at h
          exact h
        · obtain rfl : lf = false := hl
          have l0 : lw < k := hlw
          have l1 : hg < k := hhg
          have d1 : decide ((lw : Int) < 0) = false := by simp
          have d2 : decide ((hg : Int) < 0) = false := by simp
          have d3 : decide ((lw : Int) ≥ (k : Int)) = false := by simp; omega
          have d4 : decide ((hg : Int) ≥ (k : Int)) = false := by simp; omega
          have d5 : ¬ (hg : Int) ≥ (k : Int) := by omega
          have j3 : (0 : Int) ≤ (lw : Int) := by omega
          have j4 : (0 : Int) ≤ (hg : Int) := by omega
          have j5 : (lw : Int) < (N : Int) := by omega
          have j6 : (hg : Int) < (N : Int) := by omega
          have r1 : W2.cell? ⟨WS, lw, none⟩ = some (.int .i64 (D lw : Nat)) := by
            have h := HR2.out.cell lw _ (intRow_at N _ lw (by omega))
            rw [if_pos l0] at h
            exact h
          have r2 : W2.cell? ⟨WS, hg, none⟩ = some (.int .i64 (D hg : Nat)) := by
            have h := HR2.out.cell hg _ (intRow_at N _ hg (by omega))
            rw [if_pos l1] at h
            exact h
          have r3 : W2.cell? ⟨WS, k, none⟩ = some (.int .i64 0) := by
            have h := HR2.out.cell k _ (intRow_at N _ k (by omega))
            rw [if_neg (Nat.lt_irrefl _)] at h
            exact h
          have r4 := HR2.out.frozen k
          have dl := HT.out.tree.dp.le lw (by omega)
          have dh := HT.out.tree.dp.le hg (by omega)
          have HD0 := Lib.hid (show D k = 1 + max (D lw) (D hg) from hD)
          obtain ⟨dl', hdl⟩ : ∃ v, D lw = v := ⟨_, rfl⟩
          obtain ⟨dh', hdh⟩ : ∃ v, D hg = v := ⟨_, rfl⟩
          rw [hdl] at dl r1 HD0
          rw [hdh] at dh r2 HD0
          have hcn : cntL n T (k + 1) = cntL n T k := by
            unfold cntL
            split
            · rfl
            · show lvs T k + (if (T k).leaf then 1 else 0) = _
              rw [HND.out]; rfl
          have HCN := Lib.hid hcn
          clear hdl hdh hcn hD hz1 hz2
          go_upto_region 14 with fail
          (try rw [hX])
          (try rw [HW2.out])
          clear hX
          go_upto_region 21 with fail
          go_region_held3 (fun w' => w'.cell? ⟨X, 3, none⟩ = some (.int .i64 lw) ∧ w'.cell? ⟨X, 4, none⟩ = some (.int .i64 hg) ∧ w'.cell? ⟨WS, lw, none⟩ = some (.int .i64 dl') ∧ w'.cell? ⟨WS, hg, none⟩ = some (.int .i64 dh'))
            (first | exact ⟨x3, x4, r1, r2⟩ | exact ⟨(World.cell?_setCell_other _ _ _ _ (by intro e; injection e; omega)).trans x3, (World.cell?_setCell_other _ _ _ _ (by intro e; injection e; omega)).trans x4, (World.cell?_setCell_other _ _ _ _ (by intro e; injection e; omega)).trans r1, (World.cell?_setCell_other _ _ _ _ (by intro e; injection e; omega)).trans r2⟩ | assumption)
            (fail)
          have em : IntKind.i64.wrap (1 + if dl' < dh' then (dh' : Int) else (dl' : Int)) = ((D k : Nat) : Int) := by
            rw [HD0.out, IntKind.wrap_i64]
            split <;> omega
          rw [em]
          go_wp2
          have hset := HR2.out.set k (.int .i64 (D k : Nat))
          rw [intRow_set N D k (D k) rfl] at hset
          refine ⟨⟨k + 1, by omega, by go_num, by rw [HCN.out], hset, (HB4.out.setCell (Nat.le_refl _) _).drew⟩, by simp [intOf]; omega⟩
        · have hnd0 : (⟨lf, nm, pl, lw, hg⟩ : Nd) = ⟨true, 0, -1, 0, 0⟩ := hT0
          injection hnd0 with e1 e2 e3 e4 e5
          subst e1 e3
          have d1 : ((n : Int) == 0) = true := by simp; omega
          have d2 : ((N : Int) == 1) = true := by simp; omega
          have hcn : cntL n T (k + 1) = cntL n T k := by unfold cntL; rw [if_pos hn0, if_pos hn0]
          have HCN := Lib.hid hcn
          have HDD := Lib.hid hD
          clear hcn hD hT0 hn0 hN hk0 e2 e4 e5
          go_upto_region 14 with fail
          (try rw [hX])
          (try rw [HW2.out])
          clear hX
          go_wp2
          refine ⟨⟨k + 1, by omega, by go_num, by rw [HCN.out], ?_, HB4.out⟩, by simp [intOf]; omega⟩
          have h := HR2.out
          rw [intRow_step N D k HDD.out] at h
          exact h
      obtain rfl : k = N := by omega
      have j1 : ¬ (k : Int) < (k : Int) := by omega
      have hcn : cntL n T k = n := HT.out.tree.leaves
      rw [hcn]
      obtain ⟨M, hM⟩ : ∃ M, k - 1 = M := ⟨_, rfl⟩
      have v0 : IntKind.i64.wrap ((k : Int) - 1) = (M : Int) := by rw [IntKind.wrap_i64]; omega
      have v1 : (k : Int) - 1 = (M : Int) := by omega
      have j2 : (0 : Int) ≤ (M : Int) := by omega
      have j3 : (M : Int) < (k : Int) := by omega
      have q0 := hrw.cell M _ (intRow_at k _ M (by omega))
      rw [if_pos (by omega)] at q0
      have hT3 := HT.out.below (hB.mono (by rw [HWS.out]; exact Nat.le_refl _))
      have KD := Lib.hid hT3.depth
      have HDE := Lib.hid (fun (q : Nat) (h : n ≤ 2 ^ q) => hT3.tree.deep q h)
      rw [hM] at KD HDE
      obtain ⟨dd, hdd⟩ : ∃ d, D M = d := ⟨_, rfl⟩
      rw [hdd] at q0 KD HDE
      have d1 : ((n : Int) == (n : Int)) = true := by simp
      have d2 : ((dd : Int) == (dd : Int)) = true := by simp
      clear hrw hB hT3 hcn hmk hM hdd
      go_wp2_with fail
      refine KD.out.mono ?_
      rintro e w5 ⟨rfl, hB5⟩
      go_wp2_with fail
      refine (most_any n _ (by omega)).mono ?_
      rintro e w6 ⟨⟨q, rfl, hq⟩, rfl⟩
      have hle := HDE.out q hq
      have d3 : (dd : Int) ≤ (q : Int) := by omega
      have d4 : decide ((dd : Int) ≤ (q : Int)) = true := by simp; omega
      clear hq
      go_wp2_with fail
      refine (awake19_any _).mono ?_
      rintro e w7 ⟨rfl, hB7⟩
      go_wp2
      go_ret
      have s1 := HB1.out.size
      have s2 := HBW.out.size
      have s5 := hB5.size
      have hw := HWS.out
      exact ⟨rfl, ((HB1.out.trans (HBW.out.mono (by omega))).trans (hB5.mono (by omega))).trans (hB7.mono (by omega))⟩

namespace treeFormedRow
open Go.ChangeShapes Go.WideShapes Go.ChangeAt Go.RowKit Go.Joins
open Go.ChangeMaps (open_string shut_string)
set_option linter.unusedVariables false
theorem own : ownKnob Try.prog.godebug = none := by kernel_rfl
theorem laidOut : laidOutB Try.prog = true := by kernel_rfl
set_option maxRecDepth 100000 in
theorem lifted (os : Os) (started : os.Started) (H : Type) (enc : TypeId × Value → H) :
    ReturnsInHanded {} Try.checked os 4 .any (Rows.treeFormedSpec.pre6 enc Try.prog Try.f4 Rows.treeFormedRow.domain false) (Rows.treeFormedSpec.post enc Try.prog Try.f4 false true false false) := by
  refine returnsInHanded_of_change (C := Try.checked) own started (by kernel_rfl) Try.func4
    (ChangeSpec.witness6 (enc := enc) (C := Try.checked) false ⟨#[], #[.slice none 0 0], []⟩ 8 (by kernel_rfl) (by kernel_rfl) (by kernel_rfl) (by kernel_rfl)) ?_
  intro W base args ds gs before hval0 hW hcnd _
  have hval : ∀ (j : Nat) t v, Try.f4.params[j]? = some t → args[j]? = some v → Value.okWide Try.prog W .any base t v := hval0
  have hW' := hW
  obtain ⟨p, q, hA0, hV, rfl, hfz, hnd⟩ := hW
  have hA : DataW.TrodAll enc Try.prog W 0 (fun _ => true) true Try.f4.params.toList args.toList ds p := hA0
  rw [Try.params4] at hA hval
  obtain ⟨v0, vs0, d0, ds0, p0, q0, hargs, rfl, rfl, h0, r0⟩ := trodAll_cons hA
  obtain ⟨rfl, rfl, rfl⟩ := trodAll_nil r0
  obtain rfl : args = #[v0] := by cases args; simp_all
  obtain ⟨rfl, rfl⟩ := trodVars_none hV
  have k0 := h0
  have lt0 : ∀ x ∈ p0, x.block < W.heap.size := by obtain ⟨m, hm⟩ := k0; exact DataW.trod_lt m _ _ _ hm
  obtain ⟨a0, len0, cap0, rfl⟩ := okWide_slice Try.underlying22 (hval 0 22 v0 rfl rfl)
  obtain ⟨f0, w0⟩ : ∃ f, U32a W a0 len0 cap0 f := by
    obtain ⟨fuel, hf⟩ := h0
    rcases open_ints Try.underlying22 Try.underlying30 (by kernel_rfl) hf with ⟨hcs, _⟩ | ⟨x, l, c, zs, hcs, _, hl, hm, hz, _, hcell, hwz⟩
    · simp [Value.cells] at hcs
      obtain ⟨rfl, rfl, rfl⟩ := hcs
      exact ⟨fun _ => 0, Cel.nil_, fun i h => by omega⟩
    · simp [Value.cells] at hcs
      obtain ⟨rfl, rfl, rfl⟩ := hcs
      exact ⟨_, u32_of_ints hl hm (by have : zs.length = cap0 := by simpa using hz
                                      omega) hcell hwz⟩
  clear hA0 hval0
  refine (walk_TreeFormed (w0 := W) a0 len0 cap0 f0 w0).mono fun e W' ⟨he, bel⟩ => ?_
  subst he
  exact ⟨_, rfl, _, _, _, [], _, [], hW', trodAll_mk1 (shut_bool Try.underlying4 _), (trodAll_cons_mk (Below.trod laidOut (by kernel_rfl) (of_decide_eq_true (by kernel_rfl)) k0 bel lt0) trodAll_mk0), rfl, bel.frame _, fun h => by cases h⟩

theorem over : Rows.treeFormedRow.holds Try.pinned (OpenSpec.ofChange Rows.treeFormedSpec) :=
  OpenClaim.holds_of_wide 4 Try.f4 rfl rfl rfl rfl rfl rfl rfl ⟨rfl, rfl, rfl, rfl, rfl⟩ rfl rfl rfl rfl rfl (by kernel_rfl) Try.func4 (by kernel_rfl)
    (of_decide_eq_true (by kernel_rfl)) (by unfold Func.isWrapper; first | (rw [if_pos (by decide +kernel)]; kernel_rfl) | (rw [if_neg (by decide +kernel)]; exact ⟨rfl, rfl⟩))
    (fun os started H enc _ => lifted os started H enc)
end treeFormedRow

theorem treeFormed_proved : Rows.TreeFormedSaid := treeFormedRow.over
#print axioms treeFormed_proved
end Go.Proofs.Ytkbfmnpilbhfaaa
