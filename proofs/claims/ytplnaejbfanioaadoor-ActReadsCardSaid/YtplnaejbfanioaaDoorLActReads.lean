/-
  The law ActReads holds for every input: the action that any words begin with is as the document says. No condition.
-/
import Derived.Test.YtplnaejbfanioaaDoorRows
import Derived.Test.YtplnaejbfanioaaDoorCards
import Derived.Test.YtplnaejbfanioaaDoorTie
import Derived.Test.YtplnaejbfanioaaDoorGl
import Derived.Test.YtplnaejbfanioaaDoorHe
import Derived.Test.YtplnaejbfanioaaDoorHf
import Derived.Test.YtplnaejbfanioaaDoorMem
import Derived.WalkKit
import Derived.ProofKit
import Derived.OpenShut
import Derived.ShutString
import Derived.ChangeOld
import Derived.Below
import Derived.Lib.SmallJoins
import Derived.SevenTiedAt
import Derived.LaidMore
import Derived.Stop.Joined
import Derived.Deep.Cut
import Derived.RegionTactic
import Derived.Deep.RegionHeld3
import Derived.Deep.Strs
import Derived.Stop.LaidErr
import Derived.LaidLaws
import Derived.Deep.CutRange
namespace Go.Proofs.YtplnaejbfanioaaDoor
open Go.RowKit Go.Shelf
set_option linter.unusedVariables false

theorem cel_strs {w : World} {x : Addr} {n c : Nat} {B : Nat → ByteArray} (h1 : n ≤ c) (h2 : c ≤ maxLen) (hc : ∀ i, i < n → w.cell? (x.add i) = some (.string (B i))) :
    Cel w w.heap.size 1 (some x) n c (fun i => .string (B i)) := by
  refine .inr ⟨x, rfl, h1, h2, fun i hi => ?_⟩
  have hcell := hc i (by omega)
  have hlt := World.block_lt_of_cell? w _ hcell
  have eb : (x.add i).block = x.block := by unfold Addr.add; split <;> rfl
  rw [eb] at hlt
  exact ⟨hlt, hcell⟩
/-- Both readings give the same. -/
theorem reads_same (b o len cap : Nat) (hlen : 1 ≤ len) (f : Nat → ByteArray) (hf : ∀ i, i < len → (f i).size ≤ 30) : ∃ a0 a1 m e : Int,
    (∀ X, TabP X → ErrP X → (∀ i, i < len → X.cell? ⟨b, o + i, none⟩ = some (.string (f i))) → Calls Tryd.prog 21 #[.slice (some ⟨b, o, none⟩) len cap] X fun r w' => r = .returned (.tuple #[.agg #[.int .i64 a0, .int .i64 a1], .int .i64 m, .int .i64 e]) ∧ Below X.heap.size X w') ∧
    (∀ X, (∀ i, i < len → X.cell? ⟨b, o + i, none⟩ = some (.string (f i))) → Calls Tryd.prog 22 #[.slice (some ⟨b, o, none⟩) len cap] X fun r w' => r = .returned (.tuple #[.agg #[.int .i64 a0, .int .i64 a1], .int .i64 m, .int .i64 e]) ∧ Below X.heap.size X w') := by
  rcases kw_cases (f 0) with ⟨j, hj, hjs⟩ | hs
  · have h0 : ∀ X : World, (∀ i, i < len → X.cell? ⟨b, o + i, none⟩ = some (.string (f i))) → X.cell? ⟨b, o, none⟩ = some (.string (kwA j)) := fun X hc => by rw [hjs]; exact hc 0 (by omega)
    cases hk : knA j
    · exact ⟨_, _, _, _, fun X _ _ hc => readA_plain_o j hj hk b o len cap hlen X (h0 X hc), fun X hc => refR_plain j hj hk b o len cap hlen X (h0 X hc)⟩
    by_cases hl2 : len < 2
    · exact ⟨_, _, _, _, fun X _ _ hc => readA_short j hj hk b o len cap hlen X hl2 (h0 X hc), fun X hc => refR_short j hj hk b o len cap hlen X (h0 X hc) hl2⟩
    have hl : 2 ≤ len := by omega
    rcases num_cases (f 1) with ⟨u, hu, he, _⟩ | ⟨hno, hnt⟩
    · have h1 : ∀ X : World, (∀ i, i < len → X.cell? ⟨b, o + i, none⟩ = some (.string (f i))) → X.cell? ⟨b, o + 1, none⟩ = some (.string (dec u)) := fun X hc => by rw [← he]; exact hc 1 (by omega)
      cases hm : mayA j (u : Int)
      · exact ⟨_, _, _, _, fun X ht _ hc => readA_range j hj hk u hu hm b o len cap hlen X hl ht (h0 X hc) (h1 X hc), fun X hc => refR_range j hj hk u hu hm b o len cap hlen X (h0 X hc) hl (h1 X hc)⟩
      · exact ⟨_, _, _, _, fun X ht _ hc => readA_num_o j hj hk u hu hm b o len cap hlen X hl ht (h0 X hc) (h1 X hc), fun X hc => refR_num j hj hk u hu hm b o len cap hlen X (h0 X hc) hl (h1 X hc)⟩
    · have hf1 := hf 1 (by omega)
      exact ⟨_, _, _, _, fun X ht hv hc => readA_form j hj hk (f 1) hf1 hno b o len cap hlen X hl ht hv (h0 X hc) (hc 1 (by omega)), fun X hc => refR_form j hj hk (f 1) hf1 hnt b o len cap hlen X (h0 X hc) hl (hc 1 (by omega))⟩
  · exact ⟨_, _, _, _, fun X _ _ hc => readA_none (f 0) hs b o len cap hlen X (hc 0 (by omega)), fun X hc => refR_none (f 0) hs b o len cap hlen X (hc 0 (by omega))⟩

set_option maxRecDepth 100000 in
set_option maxHeartbeats 8000000 in
/-- The walk where both readings of the words give the same. -/
theorem reads_go {w0 : World} (A : Option Addr) (n c : Nat) (f : Nat → ByteArray) (hw : Cel w0 w0.heap.size 1 A n c (fun i => .string (f i))) (hn : n ≤ 5) (ht : TabP w0) (hv : ErrP w0)
    (hs30 : ∀ k, (∀ i, i < k → (f i).size ≤ 30) → k = n → ∃ a0 a1 m e : Int, (∀ X, TabP X → ErrP X → Below w0.heap.size w0 X → Calls Tryd.prog 21 #[.slice A n c] X fun r w' => r = .returned (.tuple #[.agg #[.int .i64 a0, .int .i64 a1], .int .i64 m, .int .i64 e]) ∧ Below X.heap.size X w') ∧
    (∀ X, Below w0.heap.size w0 X → Calls Tryd.prog 22 #[.slice A n c] X fun r w' => r = .returned (.tuple #[.agg #[.int .i64 a0, .int .i64 a1], .int .i64 m, .int .i64 e]) ∧ Below X.heap.size X w')) :
    Calls Tryd.prog 9 #[.slice A n c] w0 fun e w' => e = .returned (.bool true) ∧ Below w0.heap.size w0 w' := by
  have HC := Lib.hid hw
  have HT := Lib.hid ht
  have HE := Lib.hid hv
  have H30 := Lib.hid hs30
  have q1 : decide ((n : Int) > 5) = false := by simp; omega
  have q2 : ¬ (n : Int) > 5 := by omega
  clear hw ht hv hs30
  go_enter Tryd.func9, Tryd.ntmps9
  go_wp2_with fail
  go_loopw [3] (fun i wr => ∃ k : Nat, k ≤ n ∧ i = .int .i64 k ∧ (∀ i, i < k → (f i).size ≤ 30) ∧ w0 = wr)
    (fun i _ => n - (intOf i).toNat)
  case atStart => exact ⟨0, by omega, rfl, fun i h => by omega, rfl⟩
  case round =>
    obtain ⟨k, hk, rfl, hall, rfl⟩ := hrel
    have HALL := Lib.hid hall
    clear hall
    by_cases hlt : k < n
    · obtain ⟨b, o, rfl, _, hc⟩ := HC.out.at_ (by omega)
      have hck := hc k (by omega)
      have g1 : (k : Int) < (n : Int) := by omega
      have i0 : (0 : Int) ≤ (k : Int) := by omega
      clear hc
      by_cases hb : (f k).size > 30
      · have g2 : decide (((f k).size : Int) > 30) = true := by simp; omega
        have g3 : ((f k).size : Int) > 30 := by omega
        go_wp2
        go_ret
        exact ⟨rfl, Below.refl _ _⟩
      · have g2 : decide (((f k).size : Int) > 30) = false := by simp; omega
        have g3 : ¬ ((f k).size : Int) > 30 := by omega
        go_wp2
        exact ⟨⟨k + 1, by omega, by go_num, fun i hi => by
          by_cases h : i = k
          · subst h; omega
          · exact HALL.out i (by omega), trivial⟩, by simp [intOf]; omega⟩
    · have hkn : k = n := by omega
      obtain ⟨a0, a1, m, e, hsame⟩ := H30.out k HALL.out hkn
      have HS := Lib.hid hsame
      have g1 : ¬ (k : Int) < (n : Int) := by omega
      have g2 : decide ((k : Int) < (n : Int)) = false := by simpa using g1
      clear hsame H30 HALL hkn hlt HC
      go_upto_region 8 with fail
      have HX1 := Lib.hid (HS.out.1 w0 HT.out HE.out (Below.refl _ _))
      go_wp2_with fail
      refine HX1.out.mono ?_
      rintro e' w1 ⟨rfl, hB1⟩
      obtain ⟨U1, hU1⟩ : ∃ U, w1.alloc (.cells #[.int .i64 a0, .int .i64 a1] 51) = U := ⟨_, rfl⟩
      have r1 : RowC U1 w1.heap.size #[.int .i64 a0, .int .i64 a1] 51 := by rw [← hU1]; exact RowC.new _ _ _ _ rfl
      have b1 : Below w0.heap.size w0 U1 := by rw [← hU1]; exact hB1.alloc hB1.size _
      have HU1 := Lib.hid hU1
      have R1 := Lib.hid r1
      have B1 := Lib.hid b1
      have l1 : Hid (w0.heap.size ≤ w1.heap.size) := Lib.hid hB1.size
      clear hB1 r1 hU1 b1
      go_upto_region 9 with fail
      rw [HU1.out]
      have HX2 := Lib.hid (HS.out.2 U1 B1.out)
      go_wp2_with fail
      refine HX2.out.mono ?_
      rintro e' w2 ⟨rfl, hB2⟩
      obtain ⟨U, hU⟩ : ∃ U, w2.alloc (.cells #[.int .i64 a0, .int .i64 a1] 54) = U := ⟨_, rfl⟩
      have hs2 := hB2.size
      have r2 : RowC U w2.heap.size #[.int .i64 a0, .int .i64 a1] 54 := by rw [← hU]; exact RowC.new _ _ _ _ rfl
      have h1U : Below U1.heap.size U1 U := by rw [← hU]; exact hB2.alloc hs2 _
      have R1U := Lib.hid (R1.out.below h1U R1.out.lt)
      have RU := Lib.hid r2
      have bU := Lib.hid (B1.out.trans (h1U.mono B1.out.size))
      have HU := Lib.hid hU
      clear hB2 hs2 r2 h1U hU
      go_upto_region 10 with fail
      rw [HU.out]
      have hS : Hid (∀ W, Below U.heap.size U W → W.cell? ⟨w1.heap.size, 0, none⟩ = some (.int .i64 a0) ∧ W.cell? ⟨w1.heap.size, 1, none⟩ = some (.int .i64 a1) ∧ W.cell? ⟨w2.heap.size, 0, none⟩ = some (.int .i64 a0) ∧ W.cell? ⟨w2.heap.size, 1, none⟩ = some (.int .i64 a1)) := Lib.hid fun W hW => ⟨(R1U.out.below hW R1U.out.lt).cell 0 _ rfl, (R1U.out.below hW R1U.out.lt).cell 1 _ rfl, (RU.out.below hW RU.out.lt).cell 0 _ rfl, (RU.out.below hW RU.out.lt).cell 1 _ rfl⟩
      have hk0 : Below U.heap.size U U.drew := (Below.refl _ U).drew
      have HO := Lib.hid fun X => of_any a0 a1 X
      have HAW : Hid (∀ W, Below U.heap.size U W → Calls Tryd.prog 24 #[] W fun e w' => e = .returned (.bool true) ∧ Below W.heap.size W w') := Lib.hid fun W hW => awake9_any W
      clear HX1 HX2 HS HT HE R1 B1 R1U RU HU HU1 l1
      generalize w1.heap.size = X at *
      generalize w2.heap.size = Y at *
      go_region_held3 (fun w' => w'.cell? ⟨X, 0, none⟩ = some (.int .i64 a0) ∧ w'.cell? ⟨X, 1, none⟩ = some (.int .i64 a1) ∧ w'.cell? ⟨Y, 0, none⟩ = some (.int .i64 a0) ∧ w'.cell? ⟨Y, 1, none⟩ = some (.int .i64 a1))
        (first | exact hS.out _ hk2 | exact hS.out _ hk1 | exact hS.out _ hk0 | assumption | go_keep)
        (first
          | (go_at_call 23
             (with_reducible refine (HO.out _).mono ?_)
             rintro e w7 ⟨rfl, hB7⟩
             have hk1 := hk0.trans (hB7.mono hk0.size))
          | (go_at_call 24
             (with_reducible refine (HAW.out _ hk1).mono ?_)
             rintro e w8 ⟨rfl, hB8⟩
             have hk2 := hk1.trans (hB8.mono hk1.size)))
      all_goals go_wp2
      all_goals go_ret
      all_goals exact ⟨rfl, bU.out.trans (hk2.mono bU.out.size)⟩
set_option maxRecDepth 100000 in
set_option maxHeartbeats 4000000 in
theorem reads_many {w0 : World} (A : Option Addr) (n c : Nat) (hn : ¬ n ≤ 5) :
    Calls Tryd.prog 9 #[.slice A n c] w0 fun e w' => e = .returned (.bool true) ∧ Below w0.heap.size w0 w' := by
  have q1 : decide ((n : Int) > 5) = true := by simp; omega
  have q2 : (n : Int) > 5 := by omega
  go_enter Tryd.func9, Tryd.ntmps9
  go_wp2
  go_ret
  exact ⟨rfl, Below.refl _ _⟩
theorem walk_ActReads {w0 : World} (A : Option Addr) (n c : Nat) (f : Nat → ByteArray) (hw : Cel w0 w0.heap.size 1 A n c (fun i => .string (f i))) (hv : TabP w0 ∧ ErrP w0) :
    Calls Tryd.prog 9 #[.slice A n c] w0 fun e w' => e = .returned (.bool true) ∧ Below w0.heap.size w0 w' := by
  by_cases hn : n ≤ 5
  · refine reads_go A n c f hw hn hv.1 hv.2 fun k hk hkn => ?_
    subst hkn
    by_cases h0 : k = 0
    · subst h0
      exact ⟨0, 0, 0, 4, fun X _ _ _ => readA_0 A c X, fun X _ => refR_0 A c X⟩
    · obtain ⟨b, o, rfl, hb, hc⟩ := hw.at_ (by omega)
      obtain ⟨a0, a1, m, e, h1, h2⟩ := reads_same b o k c (by omega) f hk
      refine ⟨a0, a1, m, e, fun X ht hv hX => h1 X ht hv fun i hi => ?_, fun X hX => h2 X fun i hi => ?_⟩
      · exact (hX.cell (p := ⟨b, o + i, none⟩) hb).trans (hc i (by omega))
      · exact (hX.cell (p := ⟨b, o + i, none⟩) hb).trans (hc i (by omega))
  · exact reads_many A n c hn

theorem starE : "*" ++ "errors.errorString" = "*errors.errorString" := by decide
theorem rowE (u : TypeId) (h : Tryd.prog.typeName? 3 u = some "*errors.errorString") : u = 139 :=
  typeName_ptr_named (nm := "errors.errorString") (by rw [starE]; kernel_rfl) (by kernel_rfl) (by decide) u (by rw [starE]; exact h)
theorem of_laid {W : World} (h : laidMetH Tryd.prog Rows.actReadsRow.laid W) : TabP W ∧ ErrP W := by
  rw [MakeChecks.laidMetH_plain _ _ _ (by kernel_rfl)] at h
  have h3 := h.tail.tail.tail
  have h4 := h.tail.tail.tail.tail
  obtain ⟨x, sx, hx, _, _, _⟩ := laid_sentinel (g := 1) (ti := 75) (tp := 139) (te := 141) (ts := 9) h3 (by kernel_rfl) (by kernel_rfl) Tryd.underlying75 rowE Tryd.underlying139 Tryd.underlying141 rfl rfl Tryd.underlying9 (by kernel_rfl) (by kernel_rfl)
  obtain ⟨y, sy, hy, _, _, _⟩ := laid_sentinel (g := 0) (ti := 75) (tp := 139) (te := 141) (ts := 9) h4 (by kernel_rfl) (by kernel_rfl) Tryd.underlying75 rowE Tryd.underlying139 Tryd.underlying141 rfl rfl Tryd.underlying9 (by kernel_rfl) (by kernel_rfl)
  exact ⟨tab_of_third h, ⟨_, _, hy⟩, ⟨_, _, hx⟩⟩

namespace actReadsRow
open Go.ChangeShapes Go.WideShapes Go.ChangeAt Go.RowKit Go.Joins
open Go.ChangeMaps (open_string shut_string)
set_option linter.unusedVariables false
theorem own : ownKnob Tryd.prog.godebug = none := by kernel_rfl
theorem laidOut : laidOutB Tryd.prog = true := by kernel_rfl
set_option maxRecDepth 100000 in
theorem lifted (os : Os) (started : os.Started) (H : Type) (enc : TypeId × Value → H) :
    ReturnsInHanded {} Tryd.checked os 9 .any (fun w args => (Rows.actReadsSpec.pre enc Tryd.prog Tryd.f9 [] false w args ∧ laidMetH Tryd.prog Rows.actReadsRow.laid w) ∧ sizedMet enc Tryd.prog Tryd.f9 (OpenSpec.ofChange Rows.actReadsSpec) false w args) (Rows.actReadsSpec.post enc Tryd.prog Tryd.f9 false true false false) := by
  refine returnsInHanded_of_change_and (C := Tryd.checked) (X := fun w _ => laidMetH Tryd.prog Rows.actReadsRow.laid w) (fun _ _ _ hh h => h.of_heap hh) own started (by kernel_rfl) Tryd.func9
    (ChangeSpec.witness_shaped (enc := enc) (C := Tryd.checked) (os := os) (X := fun w _ => laidMetH Tryd.prog Rows.actReadsRow.laid w) false (World.laidAll Tryd.prog os Rows.actReadsRow.laid) #[.slice none 0 0] 8 (World.laidAll_os _ _ _) (World.shaped_of_ZipB (by kernel_rfl) (by kernel_rfl)) (by kernel_rfl) (by kernel_rfl) (by kernel_rfl) (by rw [MakeChecks.laidMetH_plain _ _ _ (by kernel_rfl)]; exact laidMet_laidAll _ (by kernel_rfl) (by kernel_rfl))) ?_
  intro W base args ds gs before hval0 hW _ _ hL _
  have hval : ∀ (j : Nat) t v, Tryd.f9.params[j]? = some t → args[j]? = some v → Value.okWide Tryd.prog W .any base t v := hval0
  have hW' := hW
  obtain ⟨p, q, hA0, hV, rfl, hfz, hnd⟩ := hW
  have hA : DataW.TrodAll enc Tryd.prog W 0 (fun _ => true) true Tryd.f9.params.toList args.toList ds p := hA0
  rw [Tryd.params9] at hA hval
  obtain ⟨v0, vs0, d0, ds0, p0, q0, hargs, rfl, rfl, h0, r0⟩ := trodAll_cons hA
  obtain ⟨rfl, rfl, rfl⟩ := trodAll_nil r0
  obtain rfl : args = #[v0] := by cases args; simp_all
  obtain ⟨rfl, rfl⟩ := trodVars_none hV
  have k0 := h0
  have lt0 : ∀ x ∈ p0, x.block < W.heap.size := by obtain ⟨m, hm⟩ := k0; exact DataW.trod_lt m _ _ _ hm
  obtain ⟨a0, len0, cap0, rfl⟩ := okWide_slice Tryd.underlying22 (hval 0 22 v0 rfl rfl)
  obtain ⟨f0, w0⟩ : ∃ f : Nat → ByteArray, Cel W W.heap.size 1 a0 len0 cap0 (fun i => .string (f i)) := by
    obtain ⟨fuel, hf⟩ := h0
    rcases Go.Deep.open_strs Tryd.underlying22 Tryd.underlying9 (by kernel_rfl) hf with ⟨hcs, _⟩ | ⟨x, l, c, m, B, hcs, _, hl, hm, hmm, _, hcell⟩
    · simp [Value.cells] at hcs
      obtain ⟨rfl, rfl, rfl⟩ := hcs
      exact ⟨fun _ => ⟨#[]⟩, Cel.nil_⟩
    · simp [Value.cells] at hcs
      obtain ⟨rfl, rfl, rfl⟩ := hcs
      exact ⟨B, cel_strs hl hm fun i hi => (hcell i (by rw [hmm]; split <;> omega)).1⟩
  clear hA0 hval0
  refine (walk_ActReads (w0 := W) a0 len0 cap0 f0 w0 (of_laid hL)).mono fun e W' ⟨he, bel⟩ => ?_
  subst he
  exact ⟨_, rfl, _, _, _, [], _, [], hW', trodAll_mk1 (shut_bool Tryd.underlying4 _), (trodAll_cons_mk (Below.trod laidOut (by kernel_rfl) (of_decide_eq_true (by kernel_rfl)) k0 bel lt0) trodAll_mk0), rfl, bel.frame _, fun h => by cases h⟩

theorem over : Rows.actReadsRow.holds Tryd.pinned (OpenSpec.ofChange Rows.actReadsSpec) :=
  OpenClaim.holds_of_wide 9 Tryd.f9 rfl rfl rfl rfl rfl rfl rfl ⟨rfl, rfl, rfl, rfl, rfl⟩ rfl rfl rfl rfl rfl (by kernel_rfl) Tryd.func9 (by kernel_rfl)
    (of_decide_eq_true (by kernel_rfl)) (by unfold Func.isWrapper; first | (rw [if_pos (by decide +kernel)]; kernel_rfl) | (rw [if_neg (by decide +kernel)]; exact ⟨rfl, rfl⟩))
    (fun os started H enc _ => lifted os started H enc)
end actReadsRow

theorem actReads_proved : Rows.ActReadsCardSaid :=
  Claim7.holds_tied_plain_at .later [] [.data, .data, .data, .sentinel, .sentinel] true Rows.actReadsCard.stood.harness true
    actReadsRow.over (fun _ h => by cases h) (by kernel_rfl) (fun _ h => by cases h) actReads_row_tie rfl ⟨rfl, rfl⟩ (by kernel_rfl) rfl
    (fun f fn hf hfn => by
      obtain rfl : f = 9 := Option.some.inj ((show Tryd.prog.funcNamed "strainer/strainerlaw09.ActReads" = some 9 by kernel_rfl).symm.trans hf) |>.symm
      obtain rfl : fn = Tryd.f9 := (Option.some.inj (Tryd.func9.symm.trans hfn)).symm
      exact ⟨by kernel_rfl, fun j t ht => by
        rw [Tryd.params9] at ht
        have hall : ∀ t ∈ [22], Tryd.prog.wantsStandIn t = false := by
          intro t ht
          simp only [List.mem_cons, List.not_mem_nil, or_false] at ht
          rcases ht with rfl <;> kernel_rfl
        exact hall t (by simpa using Array.mem_of_getElem? ht)⟩)
    (by kernel_rfl)
#print axioms actReads_proved
end Go.Proofs.YtplnaejbfanioaaDoor
