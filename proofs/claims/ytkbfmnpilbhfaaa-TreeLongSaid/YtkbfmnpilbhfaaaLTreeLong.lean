/-
  The law TreeLong holds for every input: of more than 4096 numbers there is no tree.
-/
import Derived.Test.YtkbfmnpilbhfaaaXf
import Derived.Test.YtkbfmnpilbhfaaaRows
import Derived.Below
import Derived.ChangeOld
import Derived.ShutString
import Derived.Lib.SmallJoins
import Derived.OpenShut
import Derived.ProofKit
import Derived.WalkKit
import Derived.Deep.Grids
import Derived.Deep.RegionHeld3
namespace Go.Proofs.Ytkbfmnpilbhfaaa
open Go.RowKit


/-- A row of numbers of thirty-two bits. -/
def u32Row (n : Nat) (M : Nat → Nat) : Array Value := ((List.range n).map fun i => Value.int .u32 (M i : Nat)).toArray
theorem u32Row_at (n : Nat) (M : Nat → Nat) (i : Nat) (hi : i < n) : (u32Row n M)[i]? = some (.int .u32 (M i : Nat)) := by simp [u32Row, hi]
theorem u32Row_set (n : Nat) (M : Nat → Nat) (k v : Nat) (hv : M k = v) : (u32Row n fun i => if i < k then M i else 0).setIfInBounds k (.int .u32 (v : Nat)) = u32Row n fun i => if i < k + 1 then M i else 0 := by
  subst hv
  apply Array.ext_getElem?
  intro i
  rw [Array.getElem?_setIfInBounds]
  by_cases h : k = i
  · subst h
    rw [if_pos rfl]
    by_cases hn : k < n
    · simp [u32Row, hn]
    · simp [u32Row, hn]
  · rw [if_neg h]
    by_cases hn : i < n
    · have e : (i < k) = (i < k + 1) := propext (by omega)
      simp [u32Row, hn, e]
    · simp [u32Row, hn]
theorem infoU32 : (Try.prog.info? 30).map (fun i => (i.zero, i.size, i.bytes)) = some (some (.int .u32 0), 1, 4) := by kernel_rfl
theorem mk_u32 (n : Nat) (hn : n ≤ 8191) (W : World) : (Instr.makeSlice 22 (.int .i64 (n : Int)) (.int .i64 (n : Int))).run Try.prog W = .ok (.slice (some ⟨W.heap.size, 0, none⟩) n n) (W.alloc (.cells (u32Row n fun _ => 0) 30)) := by
  obtain ⟨i0, hi0, hz0, hz1, hz2⟩ := info_parts infoU32
  have hr := run_make (P := Try.prog) W 22 30 i0 _ Try.underlying22 hi0 hz0 .i64 .i64 n n (by omega) (Int.le_refl _) (by rw [hz2]; omega) (by omega)
  rw [hz1] at hr
  simp only [Int.toNat_natCast] at hr
  have e : madeCells (Value.int .u32 0).cells (n * 1) = u32Row n fun _ => 0 := by
    rw [Nat.mul_one]
    apply Array.ext_getElem?
    intro i
    by_cases hi : i < n
    · simp [madeCells, u32Row, hi, Value.cells, Nat.mod_one]
    · simp [madeCells, u32Row, hi, Value.cells]
  rw [e] at hr
  exact hr
theorem u32Row_is {w : World} {b n : Nat} {g : Nat → Nat} (h : RowC w b (u32Row n g) 30) (hn : n ≤ 8191) (hg : ∀ i, i < n → g i < 4294967296) : U32a w (some ⟨b, 0, none⟩) n n g :=
  ⟨Cel.mk_ h.lt (Nat.le_refl _) (by unfold maxLen; omega) (fun i hi => by rw [Nat.zero_add]; exact h.cell i _ (u32Row_at n g i (by omega))), hg⟩
def g31 (i : Nat) : Nat := 3 * i
theorem g31_ris (n : Nat) : risB g31 n = true := risB_yes fun i _ => by unfold g31; omega

set_option maxRecDepth 100000 in
set_option maxHeartbeats 8000000 in
theorem walk_TreeLong {w0 : World} (a : Int) (ha : (Lit.int .u8 a).wf = true) :
    Calls Try.prog 5 #[.int .u8 a] w0 fun e w' => e = .returned (.bool true) ∧ Below w0.heap.size w0 w' := by
  simp [Lit.wf, IntKind.min, IntKind.max, IntKind.signed, IntKind.bits] at ha
  obtain ⟨a0, a1⟩ := ha
  obtain ⟨r, hr⟩ : ∃ r : Nat, a % 10 = (r : Int) := ⟨(a % 10).toNat, by omega⟩
  have hr9 : r ≤ 9 := by omega
  have hmk := mk_u32 (4091 + r) (by omega) w0
  obtain ⟨N, hN⟩ : ∃ N, 4091 + r = N := ⟨_, rfl⟩
  rw [hN] at hmk
  have ec : 4091 + (r : Int) = (N : Int) := by omega
  have hn0 : 4091 ≤ N := by omega
  have hn1 : N ≤ 4100 := by omega
  obtain ⟨WS, hWS⟩ : ∃ B, w0.heap.size = B := ⟨_, rfl⟩
  have HWS := Lib.hid hWS
  obtain ⟨W1, hW1⟩ : ∃ W, w0.alloc (.cells (u32Row N fun _ => 0) 30) = W := ⟨_, rfl⟩
  have hB1 : Below WS w0 W1 := by rw [← hW1, ← hWS]; exact (Below.refl _ _).alloc (Nat.le_refl _) _
  have hr1 : RowC W1 WS (u32Row N fun _ => 0) 30 := by rw [← hW1, ← hWS]; exact RowC.new _ _ _ _ rfl
  have HB1 := Lib.hid hB1
  have HR1 := Lib.hid hr1
  rw [hW1, hWS] at hmk
  rw [hWS]
  clear hB1 hr1 hW1 hWS
  go_enter Try.func5, Try.ntmps5
  go_wp2_with fail
  go_loopw [5] (fun i wr => ∃ k : Nat, k ≤ N ∧ i = .int .i64 k ∧ RowC wr WS (u32Row N fun i => if i < k then g31 i else 0) 30 ∧ Below WS w0 wr)
    (fun i _ => N - (intOf i).toNat)
  case atStart => exact ⟨0, Nat.zero_le _, rfl, by simpa using HR1.out, HB1.out⟩
  case round =>
    obtain ⟨k, hk, rfl, hrw, hB⟩ := hrel
    have HRW := Lib.hid hrw
    have HBW := Lib.hid hB
    by_cases hlt : k < N
    · have q0 := hrw.cell k _ (u32Row_at N _ k hlt)
      rw [if_neg (Nat.lt_irrefl _)] at q0
      have f0 := hrw.frozen k
      have i1 : (k : Int) < (N : Int) := by omega
      have i2 : (0 : Int) ≤ (k : Int) := by omega
      have hG : Hid (g31 k = 3 * k) := Lib.hid rfl
      clear hrw hB hmk
      go_wp2
      have hset := HRW.out.set k (.int .u32 (3 * k : Nat))
      rw [u32Row_set N g31 k (3 * k) hG.out] at hset
      refine ⟨⟨k + 1, by omega, by go_num, ?_, HBW.out.setCell (Nat.le_refl _) _⟩, by simp [intOf]; omega⟩
      exact hset
    obtain rfl : k = N := by omega
    have i1 : ¬ (k : Int) < (k : Int) := by omega
    have hU : U32a wr (some ⟨WS, 0, none⟩) k k g31 := by
      refine u32Row_is ?_ (by omega) (fun i hi => by unfold g31; omega)
      have e : (u32Row k fun i => if i < k then g31 i else 0) = u32Row k g31 := by
        unfold u32Row
        congr 1
        exact List.map_congr_left fun i hi => by dsimp only; rw [if_pos (List.mem_range.1 hi)]
      rw [e] at hrw
      exact hrw
    clear hrw hmk
    by_cases h4 : k ≤ 4096
    · have K := Lib.hid (build_ok _ _ _ _ _ hU (g31_ris k) h4)
      have t1 : ¬ (k : Int) > 4096 := by omega
      clear hU
      go_wp2_with fail
      refine K.out.mono ?_
      rintro e w1 ⟨⟨A', M, c', T, D, rfl, hT⟩, hB2⟩
      have F1 := Lib.hid (hT.findIs 300 100 (.inl ⟨100, by omega, by omega, rfl, rfl⟩))
      have F2 := Lib.hid (hT.findIs 301 (-1) (.inr ⟨fun i _ _ => by unfold g31; omega, rfl⟩))
      have FD := Lib.hid hT.depth
      have hd : ((D (M - 1) : Nat) : Int) ≤ 12 := by
        have := hT.tree.deep 12 (by omega)
        omega
      obtain ⟨dd, hdd⟩ : ∃ d, D (M - 1) = d := ⟨_, rfl⟩
      rw [hdd] at hd FD
      have HB2 := Lib.hid (HBW.out.trans (hB2.mono (by have := HBW.out.size; have := HWS.out; omega)))
      clear hT hB2 hB hdd
      go_wp2_with fail
      refine F1.out.mono ?_
      rintro e w2 ⟨rfl, rfl⟩
      go_wp2_with fail
      refine F2.out.mono ?_
      rintro e w2 ⟨rfl, rfl⟩
      go_wp2_with fail
      refine FD.out.mono ?_
      rintro e w3 ⟨rfl, hB3⟩
      go_wp2_with fail
      refine (awake19_any _).mono ?_
      rintro e w4 ⟨rfl, hB4⟩
      go_wp2
      go_ret
      have hs2 := HB2.out.size
      have hs3 := hB3.size
      have hw := HWS.out
      exact ⟨rfl, (HB2.out.trans (hB3.mono (by omega))).trans (hB4.mono (by omega))⟩
    · have K := Lib.hid (build_long _ _ _ _ _ hU (g31_ris k) (by omega))
      have t1 : (k : Int) > 4096 := by omega
      clear hU
      go_wp2_with fail
      refine K.out.mono ?_
      rintro e w1 ⟨rfl, hB2⟩
      have HB2 := Lib.hid (HBW.out.trans (hB2.mono (by have := HBW.out.size; have := HWS.out; omega)))
      clear hB2 hB
      go_wp2_with fail
      refine (awake19_any _).mono ?_
      rintro e w4 ⟨rfl, hB4⟩
      go_wp2
      go_ret
      have hs2 := HB2.out.size
      have hw := HWS.out
      exact ⟨rfl, HB2.out.trans (hB4.mono (by omega))⟩

namespace treeLongRow
open Go.ChangeShapes Go.WideShapes Go.ChangeAt Go.RowKit Go.Joins
open Go.ChangeMaps (open_string shut_string)
set_option linter.unusedVariables false
theorem own : ownKnob Try.prog.godebug = none := by kernel_rfl
theorem laidOut : laidOutB Try.prog = true := by kernel_rfl
set_option maxRecDepth 100000 in
theorem lifted (os : Os) (started : os.Started) (H : Type) (enc : TypeId × Value → H) :
    ReturnsInHanded {} Try.checked os 5 .any (Rows.treeLongSpec.pre6 enc Try.prog Try.f5 Rows.treeLongRow.domain false) (Rows.treeLongSpec.post enc Try.prog Try.f5 false true false false) := by
  refine returnsInHanded_of_change (C := Try.checked) own started (by kernel_rfl) Try.func5
    (ChangeSpec.witness6 (enc := enc) (C := Try.checked) false ⟨#[], #[.int .u8 0], []⟩ 8 (by kernel_rfl) (by kernel_rfl) (by kernel_rfl) (by kernel_rfl)) ?_
  intro W base args ds gs before hval0 hW hcnd _
  have hval : ∀ (j : Nat) t v, Try.f5.params[j]? = some t → args[j]? = some v → Value.okWide Try.prog W .any base t v := hval0
  have hW' := hW
  obtain ⟨p, q, hA0, hV, rfl, hfz, hnd⟩ := hW
  have hA : DataW.TrodAll enc Try.prog W 0 (fun _ => true) true Try.f5.params.toList args.toList ds p := hA0
  rw [Try.params5] at hA hval
  obtain ⟨v0, vs0, d0, ds0, p0, q0, hargs, rfl, rfl, h0, r0⟩ := trodAll_cons hA
  obtain ⟨rfl, rfl, rfl⟩ := trodAll_nil r0
  obtain rfl : args = #[v0] := by cases args; simp_all
  obtain ⟨rfl, rfl⟩ := trodVars_none hV
  have k0 := h0
  have lt0 : ∀ x ∈ p0, x.block < W.heap.size := by obtain ⟨m, hm⟩ := k0; exact DataW.trod_lt m _ _ _ hm
  obtain ⟨a0, rfl, rfl, rfl, w0⟩ := open_int Try.underlying5 (hval 0 5 v0 rfl rfl) h0
  clear hA0 hval0
  refine (walk_TreeLong (w0 := W) a0 w0).mono fun e W' ⟨he, bel⟩ => ?_
  subst he
  exact ⟨_, rfl, _, _, _, [], _, [], hW', trodAll_mk1 (shut_bool Try.underlying4 _), (trodAll_cons_mk (Below.trod laidOut (by kernel_rfl) (of_decide_eq_true (by kernel_rfl)) k0 bel lt0) trodAll_mk0), rfl, bel.frame _, fun h => by cases h⟩

theorem over : Rows.treeLongRow.holds Try.pinned (OpenSpec.ofChange Rows.treeLongSpec) :=
  OpenClaim.holds_of_wide 5 Try.f5 rfl rfl rfl rfl rfl rfl rfl ⟨rfl, rfl, rfl, rfl, rfl⟩ rfl rfl rfl rfl rfl (by kernel_rfl) Try.func5 (by kernel_rfl)
    (of_decide_eq_true (by kernel_rfl)) (by unfold Func.isWrapper; first | (rw [if_pos (by decide +kernel)]; kernel_rfl) | (rw [if_neg (by decide +kernel)]; exact ⟨rfl, rfl⟩))
    (fun os started H enc _ => lifted os started H enc)
end treeLongRow

theorem treeLong_proved : Rows.TreeLongSaid := treeLongRow.over
#print axioms treeLong_proved
end Go.Proofs.Ytkbfmnpilbhfaaa
