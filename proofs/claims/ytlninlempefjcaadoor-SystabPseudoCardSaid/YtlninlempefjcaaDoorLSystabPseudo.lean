/-
  No two names of an ABI have one number, or pseudo-number; a number that no name has has no name (of 40 rows, names of 60 bytes).
-/
import Derived.Test.YtlninlempefjcaaDoorRows
import Derived.Test.YtlninlempefjcaaDoorCards
import Derived.Test.YtlninlempefjcaaDoorTie
import Derived.Test.YtlninlempefjcaaDoorUe
import Derived.Test.YtlninlempefjcaaDoorSi
import Derived.Test.YtlninlempefjcaaDoorSm
import Derived.Test.YtlninlempefjcaaDoorSn
import Derived.Test.YtlninlempefjcaaDoorSr
import Derived.Test.YtlninlempefjcaaDoorUf
import Derived.WalkKit
import Derived.ProofKit
import Derived.OpenShut
import Derived.ShutString
import Derived.ChangeOld
import Derived.Below
import Derived.Lib.SmallJoins
import Derived.SevenTiedAt
import Derived.LaidMore
import Derived.MakeChecks
import Derived.Lay
import Derived.Stop.Joined
import Derived.Deep.Cut
import Derived.RegionTactic
import Derived.BigQuiet
import Derived.Deep.QuietTactic
import Derived.Deep.RegionHeld3
import Derived.Deep.CutRange
namespace Go.Proofs.YtlninlempefjcaaDoor
open Go.RowKit
set_option linter.unusedVariables false

def seenB (T : Nat → SR) (a k : Nat) (x : Int) : Bool := (List.range k).any fun j => numAt (T j) j a == x
def kvF (T : Nat → SR) (a k : Nat) : List (Int × Value) := (List.range k).map fun j => (numAt (T j) j a, .bool true)
theorem kvF_succ (T : Nat → SR) (a k : Nat) : kvF T a (k + 1) = kvF T a k ++ [(numAt (T k) k a, .bool true)] := by
  unfold kvF
  rw [List.range_succ, List.map_append]
  rfl
theorem seen_iff (T : Nat → SR) (a k : Nat) (x : Int) : seenB T a k x = true ↔ ∃ j, j < k ∧ numAt (T j) j a = x := by
  unfold seenB
  rw [List.any_eq_true]
  constructor
  · rintro ⟨j, h1, h2⟩
    exact ⟨j, List.mem_range.1 h1, eq_of_beq h2⟩
  · rintro ⟨j, h1, h2⟩
    exact ⟨j, List.mem_range.2 h1, by simp [h2]⟩
theorem assoc_list (l : List (Int × Value)) (hl : ∀ p ∈ l, p.2 = .bool true) (x : Int) : assocV l x = if l.any (fun p => p.1 == x) then some (.bool true) else none := by
  induction l with
  | nil => rfl
  | cons p l ih =>
    have h1 := ih fun q hq => hl q (List.mem_cons_of_mem _ hq)
    by_cases h : p.1 = x
    · have e : assocV (p :: l) x = some p.2 := by simp [assocV, h]
      rw [e, hl p (List.mem_cons_self ..)]
      simp [h]
    · have e : assocV (p :: l) x = assocV l x := by simp [assocV, h]
      rw [e, h1]
      have hb : (p.1 == x) = false := by simpa using h
      rw [List.any_cons, hb, Bool.false_or]
theorem assoc_kv (T : Nat → SR) (a k : Nat) (x : Int) : assocV (kvF T a k) x = if seenB T a k x then some (.bool true) else none := by
  rw [assoc_list _ (fun p hp => by
    obtain ⟨j, _, rfl⟩ := List.mem_map.1 hp
    rfl)]
  have e : (kvF T a k).any (fun p => p.1 == x) = seenB T a k x := by
    unfold kvF seenB
    rw [List.any_map]
    rfl
  rw [e]
theorem look_bool {w : World} {b : Nat} {kv : List (Int × Value)} (h : IsMapV .i64 w b kv) (k : Int) (r : Bool) (ha : assocV kv k = if r then some (.bool true) else none) :
    (Instr.lookup 48 (.map (some b)) (.int .i64 k) false).run Tryd.prog w = .ok (.bool r) w := by
  cases r
  · obtain ⟨es, clock, hb, he⟩ := h
    obtain ⟨h1, _⟩ := findNow_pairsV .i64 k es.toList kv 0 he
    have hc := checkKey_int (P := Tryd.prog) (kt := 3) (es.isEmpty) Tryd.underlying3 k 9999 w
    have hf : (Instr.findKey 3 (.int .i64 k) es.toList).run Tryd.prog w = .ok none w := by simp [Instr.findKey, run_underlying Tryd.underlying3, h1 ha]
    have hz : (zeroValue 4).run Tryd.prog w = .ok (.bool false) w := (zero_of_info (n := 1) (by kernel_rfl)).1 w
    simp [Instr.lookup, run_underlying Tryd.underlying48, MapKept.run_getObj_map hb, hc, hf, hz, Result.andThen]
  · exact h.look Tryd.underlying48 Tryd.underlying3 k (.bool true) ha
theorem of_laid {W : World} (h : laidMetH Tryd.prog Rows.systabPseudoRow.laid W) : True := trivial
set_option maxRecDepth 100000 in
set_option maxHeartbeats 16000000 in
theorem walk_SystabPseudo {w0 : World} (A : Option Addr) (n cap : Nat) (T : Nat → SR) (ht : TbA w0 A n T) (a' : Int) (ha : (Lit.int .u8 a').wf = true) (qn : Int) (hqn : (Lit.int .i64 qn).wf = true) (_ : True) :
    Calls Tryd.prog 8 #[.slice A n cap, .int .u8 a', .int .i64 qn] w0 fun e w' => e = .returned (.bool true) ∧ Below w0.heap.size w0 w' := by
  simp [Lit.wf, IntKind.min, IntKind.max, IntKind.signed, IntKind.bits] at ha
  obtain ⟨a, rfl⟩ := Int.eq_ofNat_of_zero_le ha.1
  have v1 : ((a : Int)).tmod 5 = ((a % 5 : Nat) : Int) := by rw [Int.tmod_eq_emod_of_nonneg (by omega)]; omega
  have HT := Lib.hid ht
  have HLT := Lib.hid (light_any A n cap T w0 ht)
  clear ht
  go_enter Tryd.func8, Tryd.ntmps8
  go_wp2_with fail
  refine HLT.out.mono ?_
  rintro e w1 ⟨h, rfl⟩
  rcases h with ⟨hok, rfl⟩ | ⟨hok, rfl⟩
  case inr =>
    clear hok
    go_wp2
    go_ret
    exact ⟨rfl, Below.refl _ _⟩
  have h40 := hok.1
  have HOF := Lib.hid (of11_any A n cap T w0 (by omega) HT.out)
  have HAW := Lib.hid fun W => awake11_any W
  clear hok HLT
  go_wp2_with fail
  refine HOF.out.mono ?_
  rintro e w3 ⟨A2, c2, rfl, hown, hB3⟩
  have HX3 := Lib.hid (own_tbl hown)
  have HRT := Lib.hid (Right_any A2 n c2 T w3 HX3.out)
  have HB3 := Lib.hid hB3
  clear hown hB3 HOF
  go_wp2_with fail
  refine HRT.out.mono ?_
  rintro e w4 ⟨p, q, hP, rfl, hB4⟩
  have HB4 := Lib.hid (HB3.out.trans (hB4.mono HB3.out.size))
  have HX4 := Lib.hid (HX3.out.below hB4 (Nat.le_refl _))
  have hz := right_zero hP
  clear hB4 HRT HB3 HX3 hP
  by_cases hq : q = 0
  case neg =>
    have g1 : ((q : Int) != 0) = true := by simp [hq]
    have g2 : (q != 0) = true := by simp [hq]
    clear hz hq
    go_wp2_with (go_at_call 13; refine (HAW.out _).mono ?_; rintro e w9 ⟨rfl, hB9⟩)
    go_ret
    exact ⟨rfl, HB4.out.trans (hB9.mono HB4.out.size)⟩
  have HOK := Lib.hid (hz.1 hq).2
  subst hq
  clear hz
  have hmm := @run_makeMap Tryd.prog
  go_upto_region 8 with fail
  obtain ⟨k, hk⟩ : ∃ k : Nat, (a : Int) % 5 = k := ⟨a % 5, by omega⟩
  have hk5 : k < 5 := by omega
  rw [hk]
  have HM4 : Hid (IsMapV .i64 (w4.alloc (.map #[] 0)) w4.heap.size (kvF T k 0)) := Lib.hid (IsMapV.new .i64 w4)
  have hbm : Below w4.heap.size w4 (w4.alloc (.map #[] 0)) := (Below.refl _ _).alloc (Nat.le_refl _) _
  have HBM := Lib.hid hbm
  clear hk v1 ha hbm
  go_wp2_with fail
  go_loopw [12] (fun s wr => ∃ i : Nat, i ≤ n ∧ s = .int .i64 i ∧ IsMapV .i64 wr w4.heap.size (kvF T k i) ∧ Below w4.heap.size w4 wr)
    (fun s _ => n - (intOf s).toNat)
  case atStart => exact ⟨0, by omega, rfl, HM4.out, HBM.out⟩
  case round =>
    clear HM4 HBM
    obtain ⟨i, hi, rfl, hmp, hB⟩ := hrel
    have HMP := Lib.hid hmp
    have HBW := Lib.hid hB
    have HXW := Lib.hid (HX4.out.below hB (Nat.le_refl _))
    clear hmp hB
    by_cases hlt : i < n
    · have HI := Lib.hid hlt
      have hTb0 := HX4.out.at_ hlt
      obtain ⟨b, o, rfl, hTb4⟩ := hTb0
      have hTb := HXW.out.tb hlt
      have q0 := (hTb.2 i hlt).1
      have hf := isN_first HOK.out hlt
      have hnb := Number_ok (some ⟨b, o, none⟩) n c2 T (T i).nm k i hk5 hlt hf.1 hf.2 wr (by omega) HXW.out
      have hsn : seenB T k i (numAt (T i) i k) = false := by
        cases hs : seenB T k i (numAt (T i) i k)
        · rfl
        · obtain ⟨j, h1, h2⟩ := (seen_iff _ _ _ _).1 hs
          have := numAt_inj HOK.out hk5 (by omega) hlt h2
          omega
      have hkv := kvF_succ T k i
      have has := assoc_kv T k i (numAt (T i) i k)
      rw [hsn] at has
      obtain ⟨z, hz⟩ : ∃ z, numAt (T i) i k = z := ⟨_, rfl⟩
      rw [hz] at hnb has hkv
      have HKV := Lib.hid hkv
      have HAS := Lib.hid has
      have HNB := Lib.hid hnb
      have i1 : (0 : Int) ≤ (i : Int) := by omega
      have i2 : (i : Int) < (n : Int) := by omega
      clear hTb hTb4 hf hnb hsn hkv has hz
      go_wp2_with fail
      refine HNB.out.mono ?_
      rintro e w5 ⟨rfl, hB5⟩
      have hm5 := HMP.out.of_block (hB5.block _ HMP.out.lt)
      have hlk := look_bool hm5 z false HAS.out
      obtain ⟨w6, hup, hm6, hg6⟩ := hm5.insert Tryd.underlying48 Tryd.underlying3 z (.bool true) HAS.out
      have HM6 : Hid (IsMapV .i64 w6 w4.heap.size (kvF T k (i + 1))) := Lib.hid (by rw [HKV.out]; exact hm6)
      have HB6 : Hid (Below w4.heap.size w4 w6) := Lib.hid ((HBW.out.trans (hB5.mono HBW.out.size)).trans ⟨hg6.os, hg6.tape, hg6.output, hg6.size, fun j hj => hg6.block j (by have := HBW.out.size; have := hB5.size; omega) (fun e => by have := Option.some.inj e; omega)⟩)
      clear hm5 hm6 hg6 hB5 HNB q0 HMP HBW HXW
      go_wp2
      exact ⟨⟨i + 1, by have := HI.out; omega, by go_num, HM6.out, HB6.out⟩, by have := HI.out; simp [intOf]; omega⟩
    · obtain rfl : i = n := by omega
      have i2 : ¬ (i : Int) < (i : Int) := by omega
      have hnm : Calls Tryd.prog 17 #[.slice A2 i c2, .int .i64 (k : Nat), .int .i64 qn] wr fun e w' => ∃ (nm : ByteArray) (er : Int) (f g : Bool), (er == 0) = f ∧ (nm.toList != ([] : List UInt8)) = g ∧ (nm.data.isEmpty) = (!g) ∧ f = seenB T k i qn ∧ g = seenB T k i qn ∧ e = .returned (.tuple #[.string nm, .int .i64 er]) ∧ Below wr.heap.size wr w' := by
        refine (Name_any A2 i c2 T k hk5 qn wr (by omega) HXW.out).mono ?_
        rintro e w' ⟨⟨j, h1, h2, h3, rfl⟩ | ⟨h1, rfl⟩, hB⟩
        · have hs : seenB T k i qn = true := (seen_iff _ _ _ _).2 ⟨j, h1, eq_of_beq h2⟩
          have hne : (T j).nm.size ≠ 0 := (row_ok (HOK.out j h1)).1.1
          have he : (T j).nm.data.isEmpty = false := by
            rw [Array.isEmpty_eq_false_iff]
            intro h
            exact hne (by show (T j).nm.data.size = 0; rw [h]; rfl)
          refine ⟨_, _, true, true, rfl, ?_, by rw [he]; rfl, hs.symm, hs.symm, rfl, hB⟩
          rw [ByteArray.toList_eq]
          cases hl : (T j).nm.data.toList with
          | nil => rw [← Array.isEmpty_toList, hl] at he; cases he
          | cons a l => rfl
        · have hs : seenB T k i qn = false := by
            cases hs : seenB T k i qn
            · rfl
            · obtain ⟨j, h2, h3⟩ := (seen_iff _ _ _ _).1 hs
              have := h1 j h2
              simp [isNum, h3] at this
          refine ⟨_, _, false, false, rfl, ?_, rfl, hs.symm, hs.symm, rfl, hB⟩
          rw [ByteArray.toList_eq]
          rfl
      have HNM := Lib.hid hnm
      clear hnm
      go_wp2_with fail
      refine HNM.out.mono ?_
      rintro e w5 ⟨nm, er, f, g, hf, hg, hg2, hfs, hgs, rfl, hB5⟩
      have hlk := look_bool (HMP.out.of_block (hB5.block _ HMP.out.lt)) qn (seenB T k i qn) (assoc_kv T k i qn)
      have HB5 := Lib.hid (HB4.out.trans ((HBW.out.trans (hB5.mono HBW.out.size)).mono HB4.out.size))
      subst hfs
      rw [← hgs] at hf hlk
      clear hgs hB5 HMP HBW HXW HNM
      have hg4 : nm.toList.isEmpty = !g := by rw [← hg2, ByteArray.toList_eq, Array.isEmpty_toList]
      have hg3 : (nm.data.toList != ([] : List UInt8)) = g := by rw [← hg, ByteArray.toList_eq]
      cases g
      all_goals
        simp only [Bool.not_true, Bool.not_false] at hg2 hg4
        go_wp2_with (go_at_call 13; refine (HAW.out _).mono ?_; rintro e w9 ⟨rfl, hB9⟩)
        go_ret
        exact ⟨rfl, HB5.out.trans (hB9.mono HB5.out.size)⟩

namespace systabPseudoRow
open Go.ChangeShapes Go.WideShapes Go.ChangeAt Go.RowKit Go.Joins
open Go.ChangeMaps (open_string shut_string)
set_option linter.unusedVariables false
theorem own : ownKnob Tryd.prog.godebug = none := by kernel_rfl
theorem laidOut : laidOutB Tryd.prog = true := by kernel_rfl
set_option maxRecDepth 100000 in
theorem lifted (os : Os) (started : os.Started) (H : Type) (enc : TypeId × Value → H) :
    ReturnsInHanded {} Tryd.checked os 8 .any (fun w args => (Rows.systabPseudoSpec.pre enc Tryd.prog Tryd.f8 [] false w args ∧ laidMetH Tryd.prog Rows.systabPseudoRow.laid w) ∧ sizedMet enc Tryd.prog Tryd.f8 (OpenSpec.ofChange Rows.systabPseudoSpec) false w args) (Rows.systabPseudoSpec.post enc Tryd.prog Tryd.f8 false true false false) := by
  refine returnsInHanded_of_change_and (C := Tryd.checked) (X := fun w _ => laidMetH Tryd.prog Rows.systabPseudoRow.laid w) (fun _ _ _ hh h => h.of_heap hh) own started (by kernel_rfl) Tryd.func8
    (ChangeSpec.witness_shaped (enc := enc) (C := Tryd.checked) (os := os) (X := fun w _ => laidMetH Tryd.prog Rows.systabPseudoRow.laid w) false (World.laidAll Tryd.prog os Rows.systabPseudoRow.laid) #[.slice none 0 0, .int .u8 0, .int .i64 0] 8 (World.laidAll_os _ _ _) (World.shaped_of_ZipB (by kernel_rfl) (by kernel_rfl)) (by kernel_rfl) (by kernel_rfl) (by kernel_rfl) (by rw [MakeChecks.laidMetH_plain _ _ _ (by kernel_rfl)]; exact laidMet_laidAll _ (by kernel_rfl) (by kernel_rfl))) ?_
  intro W base args ds gs before hval0 hW _ _ hL _
  have hval : ∀ (j : Nat) t v, Tryd.f8.params[j]? = some t → args[j]? = some v → Value.okWide Tryd.prog W .any base t v := hval0
  have hW' := hW
  obtain ⟨p, q, hA0, hV, rfl, hfz, hnd⟩ := hW
  have hA : DataW.TrodAll enc Tryd.prog W 0 (fun _ => true) true Tryd.f8.params.toList args.toList ds p := hA0
  rw [Tryd.params8] at hA hval
  obtain ⟨v0, vs0, d0, ds0, p0, q0, hargs, rfl, rfl, h0, r0⟩ := trodAll_cons hA
  obtain ⟨v1, vs1, d1, ds1, p1, q1, rfl, rfl, rfl, h1, r1⟩ := trodAll_cons r0
  obtain ⟨v2, vs2, d2, ds2, p2, q2, rfl, rfl, rfl, h2, r2⟩ := trodAll_cons r1
  obtain ⟨rfl, rfl, rfl⟩ := trodAll_nil r2
  obtain rfl : args = #[v0, v1, v2] := by cases args; simp_all
  obtain ⟨rfl, rfl⟩ := trodVars_none hV
  have k0 := h0
  have lt0 : ∀ x ∈ p0, x.block < W.heap.size := by obtain ⟨m, hm⟩ := k0; exact DataW.trod_lt m _ _ _ hm
  have k1 := h1
  have lt1 : ∀ x ∈ p1, x.block < W.heap.size := by obtain ⟨m, hm⟩ := k1; exact DataW.trod_lt m _ _ _ hm
  have k2 := h2
  have lt2 : ∀ x ∈ p2, x.block < W.heap.size := by obtain ⟨m, hm⟩ := k2; exact DataW.trod_lt m _ _ _ hm
  obtain ⟨a0, len0, cap0, rfl⟩ := okWide_slice Tryd.underlying22 (hval 0 22 v0 rfl rfl)
  obtain ⟨g0, w0⟩ := open_rows h0
  obtain ⟨a1, rfl, rfl, rfl, w1⟩ := open_int Tryd.underlying5 (hval 1 5 v1 rfl rfl) h1
  obtain ⟨a2, rfl, rfl, rfl, w2⟩ := open_int Tryd.underlying3 (hval 2 3 v2 rfl rfl) h2
  clear hA0 hval0
  refine (walk_SystabPseudo (w0 := W) a0 len0 cap0 g0 w0 a1 w1 a2 w2 (of_laid hL)).mono fun e W' ⟨he, bel⟩ => ?_
  subst he
  exact ⟨_, rfl, _, _, _, [], _, [], hW', trodAll_mk1 (shut_bool Tryd.underlying4 _), (trodAll_cons_mk (Below.trod laidOut (by kernel_rfl) (of_decide_eq_true (by kernel_rfl)) k0 bel lt0) (trodAll_cons_mk (Below.trod laidOut (by kernel_rfl) (of_decide_eq_true (by kernel_rfl)) k1 bel lt1) (trodAll_cons_mk (Below.trod laidOut (by kernel_rfl) (of_decide_eq_true (by kernel_rfl)) k2 bel lt2) trodAll_mk0))), rfl, bel.frame _, fun h => by cases h⟩

theorem over : Rows.systabPseudoRow.holds Tryd.pinned (OpenSpec.ofChange Rows.systabPseudoSpec) :=
  OpenClaim.holds_of_wide 8 Tryd.f8 rfl rfl rfl rfl rfl rfl rfl ⟨rfl, rfl, rfl, rfl, rfl⟩ rfl rfl rfl rfl rfl (by kernel_rfl) Tryd.func8 (by kernel_rfl)
    (of_decide_eq_true (by kernel_rfl)) (by unfold Func.isWrapper; first | (rw [if_pos (by decide +kernel)]; kernel_rfl) | (rw [if_neg (by decide +kernel)]; exact ⟨rfl, rfl⟩))
    (fun os started H enc _ => lifted os started H enc)
end systabPseudoRow

theorem systabPseudo_proved : Rows.SystabPseudoCardSaid :=
  Claim7.holds_tied_plain_at .later [] [.data, .pinned] true Rows.systabPseudoCard.stood.harness false
    systabPseudoRow.over (fun _ h => by cases h) (by kernel_rfl) (fun _ h => by cases h) systabPseudo_row_tie rfl ⟨rfl, rfl⟩ (by kernel_rfl) rfl
    (fun f fn hf hfn => by
      obtain rfl : f = 8 := Option.some.inj ((show Tryd.prog.funcNamed "strainer/strainerlaw11.SystabPseudo" = some 8 by kernel_rfl).symm.trans hf) |>.symm
      obtain rfl : fn = Tryd.f8 := (Option.some.inj (Tryd.func8.symm.trans hfn)).symm
      exact ⟨by kernel_rfl, fun j t ht => by
        rw [Tryd.params8] at ht
        have hall : ∀ t ∈ [22, 5, 3], Tryd.prog.wantsStandIn t = false := by
          intro t ht
          simp only [List.mem_cons, List.not_mem_nil, or_false] at ht
          rcases ht with rfl | rfl | rfl <;> kernel_rfl
        exact hall t (by simpa using Array.mem_of_getElem? ht)⟩)
    (by kernel_rfl)
#print axioms systabPseudo_proved
end Go.Proofs.YtlninlempefjcaaDoor
