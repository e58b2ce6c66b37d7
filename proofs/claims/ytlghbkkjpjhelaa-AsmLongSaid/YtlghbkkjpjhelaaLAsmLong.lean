/-
  The law AsmLong holds for every input: of more than 4096 instructions there is no program. No condition.
-/
import Derived.Test.YtlghbkkjpjhelaaAs13
import Derived.Test.YtlghbkkjpjhelaaRows
import Derived.Below
import Derived.ChangeOld
import Derived.ShutString
import Derived.Lib.SmallJoins
import Derived.OpenShut
import Derived.ProofKit
import Derived.WalkKit
namespace Go.Proofs.Ytlghbkkjpjhelaa
open Go.RowKit Go.Shelf
set_option linter.unusedVariables false
def xNeg : IT := ⟨0, 132, 0, 0, 0⟩
def xRet : IT := ⟨0, 22, 0, 0, 0⟩
def lN (j : Nat) : List IT := List.replicate j xNeg ++ [xRet]
theorem lN_len (j : Nat) : (lN j).length = j + 1 := by simp [lN]
theorem lN_at (j i : Nat) (h : i < j) : (lN j)[i]! = xNeg := by
  rw [getElem!_pos _ _ (by rw [lN_len]; omega)]
  unfold lN
  rw [List.getElem_append_left (by simpa using h), List.getElem_replicate]
theorem lN_last (j : Nat) : (lN j)[j]! = xRet := by
  rw [getElem!_pos _ _ (by rw [lN_len]; omega)]
  unfold lN
  rw [List.getElem_append_right (by simp)]
  simp
theorem lN_or (j i : Nat) (h : i < j + 1) : (lN j)[i]! = xNeg ∨ (lN j)[i]! = xRet := by
  by_cases e : i < j
  · exact .inl (lN_at j i e)
  · have : i = j := by omega
    subst this
    exact .inr (lN_last i)
theorem lN_mem (j : Nat) : ∀ x ∈ lN j, x = xNeg ∨ x = xRet := fun x hx => by
  rcases List.mem_append.1 hx with h | h
  · exact .inl (List.eq_of_mem_replicate h)
  · exact .inr (List.mem_singleton.1 h)
theorem lN_ok (j : Nat) : ∀ x ∈ lN j, x.ok := fun x hx => by
  rcases lN_mem j x hx with rfl | rfl <;> exact ⟨by decide, by decide, by decide, by decide, by decide⟩
theorem lN_formed (j : Nat) : FormedI (lN j) := by
  refine ⟨fun i hi h => ?_, fun i hi => ?_, fun h => ?_, .inr ?_⟩
  · rw [lN_len] at hi
    rcases lN_or j i hi with e | e <;> rw [e] at h <;> exact absurd rfl h
  · rw [lN_len] at hi
    unfold ItemOk
    rcases lN_or j i hi with e | e <;> rw [e] <;> exact ⟨by kernel_rfl, by kernel_rfl, .inl rfl, .inl rfl⟩
  · have := lN_len j
    rw [h] at this
    cases this
  · rw [lN_len, Nat.add_sub_cancel, lN_last]
    kernel_rfl
theorem lN_prog (j : Nat) : progI (lN j) = (lN j).map iv := by
  have h : rchI (lN j) = lN j := rchI_ret _ _ fun x hx => by
    rw [List.eq_of_mem_replicate hx]
    exact ⟨⟨rfl, rfl, rfl, by decide +kernel, by kernel_rfl⟩, by decide +kernel, by decide +kernel⟩
  rw [progI_plain _ fun x hx => ?_, h]
  rw [h] at hx
  rcases lN_mem j x hx with rfl | rfl <;> exact ⟨rfl, rfl, rfl, by decide +kernel, by kernel_rfl⟩
theorem lN_iv (j i : Nat) (h : i < j + 1) : ((lN j).map iv)[i]! = iv (lN j)[i]! := by
  rw [getElem!_pos _ _ (by rw [List.length_map, lN_len]; exact h), List.getElem_map, getElem!_pos _ _ (by rw [lN_len]; exact h)]
theorem alone_neg (r : Nat) : alone (iv xNeg) r = 0 := by
  have h1 : kd (iv xNeg) = 12 := by show (ofF 132).1 = 12; decide +kernel
  have h2 : isLd (iv xNeg) = false := by unfold isLd; rw [h1]; rfl
  have h3 : isSt (iv xNeg) = false := by unfold isSt; rw [h1]; rfl
  have h4 : isBr (iv xNeg) = false := by unfold isBr; rw [h1]; rfl
  unfold alone
  rw [h1, h2, h3, h4]
  simp
theorem alone_ret (r : Nat) : alone (iv xRet) r = 0 := by
  have h1 : kd (iv xRet) = 15 := by show (ofF 22).1 = 15; decide +kernel
  have h2 : isLd (iv xRet) = false := by unfold isLd; rw [h1]; rfl
  have h3 : isSt (iv xRet) = false := by unfold isSt; rw [h1]; rfl
  have h4 : isBr (iv xRet) = false := by unfold isBr; rw [h1]; rfl
  unfold alone
  rw [h1, h2, h3, h4]
  simp
theorem lN_check (j : Nat) (hj : j + 1 ≤ 4096) : checkF (fun i => ((lN j).map iv)[i]!) (j + 1) = (0, 0) := by
  have hf : formedF (fun i => ((lN j).map iv)[i]!) (j + 1) = (0, 0) := by
    unfold formedF
    rw [if_neg (by omega), if_neg (by omega), pick_none _ fun i hi => ?_]
    · rw [if_pos]
      show isRet (((lN j).map iv)[j + 1 - 1]!) = true
      rw [Nat.add_sub_cancel, lN_iv j j (Nat.lt_succ_self j), lN_last]
      show isRet ⟨22, 0, 0, 0⟩ = true
      decide +kernel
    · show alone (((lN j).map iv)[i]!) _ = 0
      rw [lN_iv j i hi]
      rcases lN_or j i hi with e | e <;> rw [e]
      · exact alone_neg _
      · exact alone_ret _
  rw [checkF_ok (by rw [hf]), pick_none]
  intro i hi
  refine initE_no _ _ i ?_
  show isLd (((lN j).map iv)[i]!) = false
  rw [lN_iv j i hi]
  rcases lN_or j i hi with e | e <;> rw [e]
  · show isLd ⟨132, 0, 0, 0⟩ = false
    decide +kernel
  · show isLd ⟨22, 0, 0, 0⟩ = false
    decide +kernel
theorem lN_long (j : Nat) (hj : 4096 < j + 1) : (checkF (fun i => ((lN j).map iv)[i]!) (j + 1)).2 = 3 := by
  have h : formedF (fun i => ((lN j).map iv)[i]!) (j + 1) = (0, 3) := by unfold formedF; rw [if_neg (by omega), if_pos hj]
  unfold checkF
  rw [h]
  rfl
theorem lN_cat (j : Nat) : ∀ i, i < (j + 1) * 5 → catC (j * 5) (itcell fun _ => xNeg) (itcell fun _ => xRet) i = itcell (fun i => (lN j)[i]!) i := fun i hi => by
  unfold catC itcell
  split
  · have h : (lN j)[i / 5]! = xNeg := lN_at j _ (by omega)
    simp only [h]
  · have h1 : i / 5 = j := by omega
    have h : (lN j)[i / 5]! = xRet := by rw [h1]; exact lN_last j
    have h2 : (i - j * 5) % 5 = i % 5 := by omega
    simp only [h, h2]
theorem infoIt : (Try.prog.info? 27).map (fun i => (i.zero, i.size, i.bytes)) = some (some (.agg #[.int .i64 0, .int .u16 0, .int .u32 0, .int .i64 0, .int .i64 0]), 5, 32) := by kernel_rfl

set_option maxRecDepth 100000 in
set_option maxHeartbeats 4000000 in
theorem walk_AsmLong {w0 : World} (a : Int) (ha : (Lit.int .u8 a).wf = true) :
    Calls Try.prog 6 #[.int .u8 a] w0 fun e w' => e = .returned (.bool true) ∧ Below w0.heap.size w0 w' := by
  simp [Lit.wf, IntKind.min, IntKind.max, IntKind.signed, IntKind.bits] at ha
  obtain ⟨a0, a1⟩ := ha
  obtain ⟨r, hr⟩ : ∃ r : Nat, a % 10 = (r : Int) := ⟨(a % 10).toNat, by omega⟩
  have hr9 : r ≤ 9 := by omega
  obtain ⟨N, hN⟩ : ∃ N, 4091 + r = N := ⟨_, rfl⟩
  have ec : 4091 + (r : Int) = (N : Int) := by omega
  have hn0 : 4091 ≤ N := by omega
  have hn1 : N ≤ 4100 := by omega
  go_enter Try.func6, Try.ntmps6
  go_wp2_with fail
  clear hr ec hN
  go_loopw [4, 5] (fun s i wr => ∃ (k : Nat) (A' : Option Addr) (c' : Nat), k + 1 ≤ N ∧ i = .int .i64 ((k + 1 : Nat) : Int) ∧ s = .slice A' k c' ∧ Hid (OwnC wr w0.heap.size 27 5 A' k c' (itcell fun _ => xNeg)) ∧ Below w0.heap.size w0 wr)
    (fun _ i _ => N - (intOf i).toNat)
  case atStart => exact ⟨0, none, 0, by omega, rfl, rfl, Lib.hid OwnC.nil_, Below.refl _ _⟩
  case round =>
    obtain ⟨k, A', c', hk, rfl, rfl, HO, hB⟩ := hrel
    by_cases hlt : k + 1 < N
    · have i1 : (k : Int) + 1 < (N : Int) := by omega
      go_wp2_with (at_builtin; go_must (refine app_cells _ rfl _ _ _ 27 rfl Try.underlying28 infoIt rfl (by decide) rfl (HO.out.alloc _) rfl (one_item wr xNeg 27) (fun i _ => itcell_one _ i) (by unfold maxLen; omega) (by omega) (by have := hB.size; simp; omega) (k + 1) rfl (itcell fun _ => xNeg) (itcell_cat (fun _ => xNeg) k xNeg rfl) ?_; rintro A2 c2 w2 hown2 hB2; have hb2 : Below w0.heap.size w0 w2 := (hB.alloc hB.size _).trans hB2; have HO2 := Lib.hid hown2; clear hown2))
      go_roundw
      case rel => exact ⟨k + 1, A2, c2, by omega, by go_num, rfl, HO2, hb2⟩
      case measure => simp [intOf]; omega
    · obtain rfl : N = k + 1 := by omega
      have i1 : ¬ (k : Int) + 1 < (k : Int) + 1 := by omega
      have hcA : ∀ w1 A1 c1, Below w0.heap.size w0 w1 → OwnC w1 w0.heap.size 27 5 A1 (k + 1) c1 (itcell fun i => (lN k)[i]!) → Hid (Cel w1 w1.heap.size 5 A1 (k + 1) c1 (itcell fun i => (lN k)[i]!)) := fun w1 A1 c1 _ h => Lib.hid h.cel
      have hlen : (progI (lN k)).length = k + 1 := by rw [lN_prog, List.length_map, lN_len]
      have HASM : Hid (∀ E, (checkF (fun i => ((lN k).map iv)[i]!) (k + 1)).2 = E → ∀ w1 A1 c1, Cel w1 w1.heap.size 5 A1 (k + 1) c1 (itcell fun i => (lN k)[i]!) → Calls Try.prog 8 #[.slice A1 (k + 1) c1] w1 fun e w' => ∃ A' n' c', e = .returned (.tuple #[.slice A' n' c', .int .i64 (E : Nat)]) ∧ Below w1.heap.size w1 w' ∧ (E ≠ 0 → A' = none ∧ n' = 0 ∧ c' = 0) ∧ (E = 0 → n' = k + 1 ∧ OwnC w' w1.heap.size 52 4 A' n' c' (icell fun i => (progI (lN k))[i]!))) := Lib.hid fun E hE w1 A1 c1 h => by
        have h2 := assemble_ok A1 (k + 1) c1 (lN k) w1 (lN_len k) (by omega) h (lN_ok k) (lN_formed k) E (by rw [hlen, lN_prog]; exact hE)
        rwa [hlen] at h2
      have HSZ : Hid (∀ w1 A1 c1, Cel w1 w1.heap.size 5 A1 (k + 1) c1 (itcell fun i => (lN k)[i]!) → Calls Try.prog 9 #[.slice A1 (k + 1) c1] w1 fun e w' => e = .returned (.int .i64 ((k + 1 : Nat) : Int)) ∧ Below w1.heap.size w1 w') := Lib.hid fun w1 A1 c1 h => by
        have h2 := size_ok A1 (k + 1) c1 (lN k) w1 (lN_len k) (by omega) h (lN_ok k) (lN_formed k)
        rwa [hlen] at h2
      have HX0 : Hid ((progI (lN k))[0]! = iv xNeg) := Lib.hid (by rw [lN_prog, lN_iv k 0 (by omega), lN_at k 0 (by omega)])
      clear hcA hlen
      by_cases h4 : 4096 < k + 1
      · have i2 : (k : Int) + 1 > 4096 := by omega
        have HE := Lib.hid (lN_long k h4)
        go_wp2_with (first
          | (at_builtin; go_must (refine app_cells _ rfl _ _ _ 27 rfl Try.underlying28 infoIt rfl (by decide) rfl (HO.out.alloc _) rfl (one_item wr xRet 27) (fun i _ => itcell_one _ i) (by unfold maxLen; omega) (by omega) (by have := hB.size; simp; omega) (k + 1) rfl (itcell fun i => (lN k)[i]!) (lN_cat k) ?_; rintro A2 c2 w2 hown2 hB2; have hb2 : Below w0.heap.size w0 w2 := (hB.alloc hB.size _).trans hB2; have HC2 := Lib.hid hown2.cel; clear hown2))
          | (go_at_call 8
             refine (HASM.out 3 HE.out _ _ _ HC2.out).mono ?_
             rintro e w3 ⟨A3, n3, c3, rfl, hB3, hz, _⟩
             obtain ⟨rfl, rfl, rfl⟩ := hz (by decide)
             have HC3 := Lib.hid ((HC2.out.below hB3).more hB3.size)
             have hb3 := hb2.trans (hB3.mono hb2.size))
          | (go_at_call 9
             refine (HSZ.out _ _ _ HC3.out).mono ?_
             rintro e w4 ⟨rfl, hB4⟩
             have hb4 := hb3.trans (hB4.mono hb3.size))
          | (go_at_call 12
             refine (awake21_any _).mono ?_
             rintro e w5 ⟨rfl, hB5⟩
             have hb5 := hb4.trans (hB5.mono hb4.size)))
        go_ret
        exact ⟨rfl, hb5⟩
      · have i2 : ¬ (k : Int) + 1 > 4096 := by omega
        have HE : Hid ((checkF (fun i => ((lN k).map iv)[i]!) (k + 1)).2 = 0) := Lib.hid (by rw [lN_check k (by omega)])
        go_wp2_with (first
          | (at_builtin; go_must (refine app_cells _ rfl _ _ _ 27 rfl Try.underlying28 infoIt rfl (by decide) rfl (HO.out.alloc _) rfl (one_item wr xRet 27) (fun i _ => itcell_one _ i) (by unfold maxLen; omega) (by omega) (by have := hB.size; simp; omega) (k + 1) rfl (itcell fun i => (lN k)[i]!) (lN_cat k) ?_; rintro A2 c2 w2 hown2 hB2; have hb2 : Below w0.heap.size w0 w2 := (hB.alloc hB.size _).trans hB2; have HC2 := Lib.hid hown2.cel; clear hown2))
          | (go_at_call 8
             refine (HASM.out 0 HE.out _ _ _ HC2.out).mono ?_
             rintro e w3 ⟨A3, n3, c3, rfl, hB3, _, hz⟩
             obtain ⟨rfl, hO3⟩ := hz rfl
             obtain ⟨b3, rfl, hle3, d0, d1, d2, d3⟩ := at_ins hO3 0 (by omega)
             rw [HX0.out] at d0 d1 d2 d3
             simp only [iv, xNeg] at d0 d1 d2 d3
             have hb3 := hb2.trans (hB3.mono hb2.size)
             clear hO3)
          | (go_at_call 12
             refine (awake21_any _).mono ?_
             rintro e w5 ⟨rfl, hB5⟩
             have hb5 := hb3.trans (hB5.mono hb3.size)))
        go_ret
        exact ⟨rfl, hb5⟩

namespace asmLongRow
open Go.ChangeShapes Go.WideShapes Go.ChangeAt Go.RowKit Go.Joins
open Go.ChangeMaps (open_string shut_string)
set_option linter.unusedVariables false
theorem own : ownKnob Try.prog.godebug = none := by kernel_rfl
theorem laidOut : laidOutB Try.prog = true := by kernel_rfl
set_option maxRecDepth 100000 in
theorem lifted (os : Os) (started : os.Started) (H : Type) (enc : TypeId × Value → H) :
    ReturnsInHanded {} Try.checked os 6 .any (Rows.asmLongSpec.pre6 enc Try.prog Try.f6 Rows.asmLongRow.domain false) (Rows.asmLongSpec.post enc Try.prog Try.f6 false true false false) := by
  refine returnsInHanded_of_change (C := Try.checked) own started (by kernel_rfl) Try.func6
    (ChangeSpec.witness6 (enc := enc) (C := Try.checked) false ⟨#[], #[.int .u8 0], []⟩ 8 (by kernel_rfl) (by kernel_rfl) (by kernel_rfl) (by kernel_rfl)) ?_
  intro W base args ds gs before hval0 hW hcnd _
  have hval : ∀ (j : Nat) t v, Try.f6.params[j]? = some t → args[j]? = some v → Value.okWide Try.prog W .any base t v := hval0
  have hW' := hW
  obtain ⟨p, q, hA0, hV, rfl, hfz, hnd⟩ := hW
  have hA : DataW.TrodAll enc Try.prog W 0 (fun _ => true) true Try.f6.params.toList args.toList ds p := hA0
  rw [Try.params6] at hA hval
  obtain ⟨v0, vs0, d0, ds0, p0, q0, hargs, rfl, rfl, h0, r0⟩ := trodAll_cons hA
  obtain ⟨rfl, rfl, rfl⟩ := trodAll_nil r0
  obtain rfl : args = #[v0] := by cases args; simp_all
  obtain ⟨rfl, rfl⟩ := trodVars_none hV
  have k0 := h0
  have lt0 : ∀ x ∈ p0, x.block < W.heap.size := by obtain ⟨m, hm⟩ := k0; exact DataW.trod_lt m _ _ _ hm
  obtain ⟨a0, rfl, rfl, rfl, w0⟩ := open_int Try.underlying5 (hval 0 5 v0 rfl rfl) h0
  clear hA0 hval0
  refine (walk_AsmLong (w0 := W) a0 w0).mono fun e W' ⟨he, bel⟩ => ?_
  subst he
  exact ⟨_, rfl, _, _, _, [], _, [], hW', trodAll_mk1 (shut_bool Try.underlying4 _), (trodAll_cons_mk (Below.trod laidOut (by kernel_rfl) (of_decide_eq_true (by kernel_rfl)) k0 bel lt0) trodAll_mk0), rfl, bel.frame _, fun h => by cases h⟩

theorem over_inPlace : (Rows.asmLongRow.inPlace == Try.prog.inPlace 6) = true := by kernel_rfl
theorem over_unfollowed : (Rows.asmLongRow.unfollowed == Try.prog.unfollowed 6) = true := by kernel_rfl
theorem over_recurses : (Rows.asmLongRow.recurses == Try.prog.recurses 6) = true := by kernel_rfl
theorem over_named : (Rows.asmLongRow.named == Try.prog.varsNamed 6) = true := by kernel_rfl
theorem over_closed : joinedFacts Try.prog 6 Try.f6 Rows.asmLongSpec Rows.asmLongRow = true := by
  unfold joinedFacts
  rw [over_inPlace, over_unfollowed, over_recurses, over_named, laidOut]
  kernel_rfl
theorem over_found : Try.prog.funcNamed Rows.asmLongRow.func = some 6 := by kernel_rfl
theorem over : Rows.asmLongRow.holds Try.pinned (OpenSpec.ofChange Rows.asmLongSpec) :=
  OpenClaim.holds_of_wide 6 Try.f6 rfl rfl rfl rfl rfl rfl rfl ⟨rfl, rfl, rfl, rfl, rfl⟩ rfl rfl rfl rfl rfl over_found Try.func6 over_closed
    (of_decide_eq_true (by kernel_rfl)) (by unfold Func.isWrapper; first | (rw [if_pos (by decide +kernel)]; kernel_rfl) | (rw [if_neg (by decide +kernel)]; exact ⟨rfl, rfl⟩))
    (fun os started H enc _ => lifted os started H enc)
end asmLongRow

theorem asmLong_proved : Rows.AsmLongSaid := asmLongRow.over
#print axioms asmLong_proved
end Go.Proofs.Ytlghbkkjpjhelaa
