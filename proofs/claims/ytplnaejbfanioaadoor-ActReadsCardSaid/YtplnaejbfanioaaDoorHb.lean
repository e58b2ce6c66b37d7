/-
  act.plain at a number's decimal text; act.Read at a right action's words.
-/
import Derived.Test.YtplnaejbfanioaaDoorHa
import Derived.Test.YtplnaejbfanioaaDoorBv
import Derived.Test.YtplnaejbfanioaaDoorGg
import Derived.RegionTactic
import Derived.Deep.Cut
namespace Go.Proofs.YtplnaejbfanioaaDoor
open Go.Shelf Go.RowKit
set_option linter.unusedVariables false

theorem parse_decM (M : Nat) (hM : M ≤ 18446744073709551615) : ∀ (u : Nat), u ≤ M → ∀ r, Lib.parseUintM M 0 (Lib.decDigits u ++ r) = Lib.parseUintM M u r := by
  intro u
  induction u using Nat.strongRecOn with
  | _ u ih =>
    intro hu r
    by_cases h : u < 10
    · rw [Lib.decDigits_one h, List.singleton_append, Lib.parseUintM, dig_nat h, if_pos (by omega), if_neg (by omega), if_neg (by omega)]
      congr 1
      omega
    · rw [Lib.decDigits, dif_neg h, List.append_assoc, ih (u / 10) (by omega) (by omega), List.singleton_append, Lib.parseUintM, dig_nat (Nat.mod_lt _ (by omega)), if_pos (by omega), if_neg (by omega), if_neg (by omega)]
      congr 1
      omega
theorem parse_ok32 (u : Nat) (hu : u ≤ 4294967295) : Lib.parseUintB 32 (dec u).data.toList = .ok u := by
  show Lib.parseUintB 32 (Lib.decDigits u) = .ok u
  rw [Lib.parseUintB, if_neg (decDigits_ne u)]
  have := parse_decM (2 ^ 32 - 1) (by omega) u (by omega) []
  rw [List.append_nil] at this
  exact this
theorem dec_size (u : Nat) (hu : u ≤ 65535) : (dec u).size ≤ 5 := by
  show (Lib.decDigits u).toArray.size ≤ _
  have h := itoa_size (nm := (u : Int)) (by omega) (by omega)
  rw [Lib.itoa_nonneg] at h
  simpa using h
theorem parseU32_ok (u : Nat) (hu : u ≤ 65535) (w : World) : Calls Tryd.prog 33 #[.string (dec u), .int .i64 10, .int .i64 32] w fun e w' => e = .returned (.tuple #[.int .u64 u, .nilIface]) ∧ Below w.heap.size w w' := by
  refine (Any.strconv_ParseUint_10_at32_ok Tryd.laysPu14 (dec u) (by have := dec_size u hu; omega) u (parse_ok32 u (by omega)) w).mono ?_
  rintro e w' ⟨he, rfl | rfl⟩
  · exact ⟨he, Below.refl _ _⟩
  · exact ⟨he, below_bytes _ _ _⟩
set_option maxRecDepth 100000 in
set_option maxHeartbeats 4000000 in
theorem plain_ok (u : Nat) (hu : u ≤ 65535) (w : World) (ht : TabP w) :
    Calls Tryd.prog 41 #[.string (dec u)] w fun e w' => e = .returned (.tuple #[.int .i64 u, .bool true]) ∧ Below w.heap.size w w' := by
  have HP := Lib.hid (parseU32_ok u hu w)
  have HT := Lib.hid ht
  have HF := Lib.hid fun W hW => fmtU_any u (by omega) W hW
  have hsz := dec_size u hu
  clear ht
  generalize dec u = S at HP HF hsz ⊢
  have e0 : (S.toList != S.toList) = false := by simp
  have e1 : (S.toList == S.toList) = true := by simp
  have q0 : ¬ (S.size : Int) > 9 := by omega
  have q1 : decide ((S.size : Int) > 9) = false := by simpa using q0
  have v0 : IntKind.i64.wrap (u : Int) = u := by rw [IntKind.wrap_i64]; omega
  go_enter Tryd.func41, Tryd.ntmps41
  go_wp2_with fail
  refine HP.out.mono ?_
  rintro e w2 ⟨rfl, hB2⟩
  have HW := Lib.hid (HF.out w2 (tab_on HT.out hB2 (Nat.le_refl _)))
  have HB2 := Lib.hid hB2
  clear hB2
  go_wp2_with (go_at_call 34; refine HW.out.mono ?_; rintro e w3 ⟨rfl, hB3⟩)
  go_ret2
  exact ⟨rfl, HB2.out.trans (hB3.mono HB2.out.size)⟩
theorem results_ctt9 {P : Program} {fn : Func} {p q r : Tmp} {ty : TypeId} (h : fn.results = #[.cell p ty, .tmp q, .tmp r]) (tmps : Array Value) (w : World) (g : Nat) (t : TypeId) (cs : Array Value) (fr : Nat × Nat) (d : TypeDesc) (u v : Value)
    (hp : tmps.getD p undef = .pointer (some ⟨g, 0, none⟩)) (hq : tmps.getD q undef = u) (hr : tmps.getD r undef = v) (hg : w.heap[g]? = some (.cells cs t fr))
    (hu : P.underlying ty = some d) (hd : (match d with | .struct _ | .array _ _ => true | _ => false) = true) (hi : (P.info? ty).map (·.size) = some cs.size) :
    (results fn tmps).run P w = .ok (.tuple #[.agg cs, u, v]) w := by
  have hp' : tmps[p]?.getD undef = .pointer (some ⟨g, 0, none⟩) := by simpa using hp
  have hq' : tmps[q]?.getD undef = u := by simpa using hq
  have hr' : tmps[r]?.getD undef = v := by simpa using hr
  simp [results, h, hp', hq', hr', asAddr, run_loadVar_row w g t ty cs fr d hg hu hd hi, Result.andThen]
theorem infoAct : (Tryd.prog.info? 51).map (·.size) = some 2 := by kernel_rfl
abbrev zA : Array Value := #[.int .i64 0, .int .i64 0]

set_option maxRecDepth 100000 in
set_option maxHeartbeats 8000000 in
theorem readA_plain (j : Nat) (hj : j < 8) (hk : knA j = false) (b len cap : Nat) (hlen : 1 ≤ len) (w : World) (c0 : w.cell? ⟨b, 0, none⟩ = some (.string (kwA j))) :
    Calls Tryd.prog 21 #[.slice (some ⟨b, 0, none⟩) len cap] w fun e w' => e = .returned (.tuple #[.agg #[.int .i64 ((j : Int) + 1), .int .i64 0], .int .i64 1, .int .i64 0]) ∧ Below w.heap.size w w' := by
  have lb : b < w.heap.size := World.block_lt_of_cell? _ _ c0
  obtain ⟨W0, hW0⟩ : ∃ W, (w.alloc (.cells #[.slice (some ⟨b, 0, none⟩) len cap] 22)).alloc (.cells zA 51) = W := ⟨_, rfl⟩
  have hb0 : Below w.heap.size w W0 := by rw [← hW0]; exact ((Below.refl _ _).alloc (Nat.le_refl _) _).alloc (by simp) _
  have rb : RowC W0 w.heap.size #[.slice (some ⟨b, 0, none⟩) len cap] 22 := by rw [← hW0]; exact (RowC.new _ _ _ _ rfl).alloc _
  have r2 : RowC W0 (w.heap.size + 1) zA 51 := by rw [← hW0]; exact RowC.new _ _ _ _ (by simp)
  have kb := rb.cell 0 (.slice (some ⟨b, 0, none⟩) len cap) rfl
  have k0 := (hb0.cell (p := ⟨b, 0, none⟩) lb).trans c0
  have HFW := Lib.hid (find_own len cap b (by omega) j hj w.heap.size W0 kb k0)
  have HB0 := Lib.hid hb0
  have RB := Lib.hid rb
  have R2 := Lib.hid r2
  have HW0 := Lib.hid hW0
  have LB := Lib.hid (Nat.lt_of_lt_of_le lb hb0.size)
  have ie : ((len : Int) == 0) = false := by simp; omega
  have hkb : Hid (W0.cell? ⟨w.heap.size, 0, none⟩ = some (.slice (some ⟨b, 0, none⟩) len cap)) := Lib.hid kb
  have kb' := kb
  rw [← hW0] at kb'
  clear kb k0 hb0 rb r2 hW0 c0 lb
  go_enter Tryd.func21, Tryd.ntmps21
  go_wp2_with fail
  rw [HW0.out]
  clear kb'
  refine HFW.out.mono ?_
  rintro e w2 ⟨⟨b1, b2, rfl, hr1, hr2⟩, hB2⟩
  obtain ⟨F, cap', hkm⟩ := kmA_func b1 b2 j
  have HKM := Lib.hid hkm
  simp only [kindA, hkm]
  rw [hk]
  have hs2 := hB2.size
  obtain ⟨V, hV⟩ : ∃ V, w2.alloc (.cells #[.string (kwA j), .int .u32 (kcA j), .bool false, .func (.func F) #[] cap'] 85) = V := ⟨_, rfl⟩
  have r6 : RowC V w2.heap.size #[.string (kwA j), .int .u32 (kcA j), .bool false, .func (.func F) #[] cap'] 85 := by rw [← hV]; exact RowC.new _ _ _ _ rfl
  have h02 : Below W0.heap.size W0 V := by rw [← hV]; exact hB2.alloc (by omega) _
  have R6 := Lib.hid r6
  have H02 := Lib.hid h02
  have HV := Lib.hid hV
  have q2 := R2.out.below h02 R2.out.lt
  have z0 := q2.cell 0 (.int .i64 0) rfl
  have z1 := q2.cell 1 (.int .i64 0) rfl
  have g0 := q2.frozen 0
  have g1 := q2.frozen 1
  have m2 := r6.cell 2 (.bool false) rfl
  have m3 := r6.cell 3 (.func (.func F) #[] cap') rfl
  have Q2 := Lib.hid q2
  clear r6 h02 hB2 hs2 q2 hkm hV
  go_upto_region 4 with fail
  rw [HV.out]
  have HBQ := HB0.out.trans (H02.out.mono HB0.out.size)
  go_wp2
  exact bodyPost_ret (results_ctt9 Tryd.results21 _ _ (w.heap.size + 1) _ _ (0, 0) _ (.int .i64 1) (.int .i64 0) (by rfl) (by rfl) (by rfl) (show RowC _ (w.heap.size + 1) #[.int .i64 ((j : Int) + 1), .int .i64 0] 51 from (Q2.out.set 0 (.int .i64 ((j : Int) + 1))).set 1 (.int .i64 0)) Tryd.underlying51 (by rfl) (show _ = some 2 from infoAct)) rfl
    ⟨rfl, (HBQ.setCell (Nat.le_succ _) _).setCell (Nat.le_succ _) _⟩

set_option maxRecDepth 100000 in
set_option maxHeartbeats 8000000 in
theorem readA_num (j : Nat) (hj : j < 8) (hk : knA j = true) (u : Nat) (hu : u ≤ 65535) (hmay : mayA j (u : Int) = true) (b len cap : Nat) (hlen : 2 ≤ len) (w : World) (ht : TabP w) (c0 : w.cell? ⟨b, 0, none⟩ = some (.string (kwA j))) (c1 : w.cell? ⟨b, 1, none⟩ = some (.string (dec u))) :
    Calls Tryd.prog 21 #[.slice (some ⟨b, 0, none⟩) len cap] w fun e w' => e = .returned (.tuple #[.agg #[.int .i64 ((j : Int) + 1), .int .i64 u], .int .i64 2, .int .i64 0]) ∧ Below w.heap.size w w' := by
  have lb : b < w.heap.size := World.block_lt_of_cell? _ _ c0
  obtain ⟨W0, hW0⟩ : ∃ W, (w.alloc (.cells #[.slice (some ⟨b, 0, none⟩) len cap] 22)).alloc (.cells zA 51) = W := ⟨_, rfl⟩
  have hb0 : Below w.heap.size w W0 := by rw [← hW0]; exact ((Below.refl _ _).alloc (Nat.le_refl _) _).alloc (by simp) _
  have rb : RowC W0 w.heap.size #[.slice (some ⟨b, 0, none⟩) len cap] 22 := by rw [← hW0]; exact (RowC.new _ _ _ _ rfl).alloc _
  have r2 : RowC W0 (w.heap.size + 1) zA 51 := by rw [← hW0]; exact RowC.new _ _ _ _ (by simp)
  have kb := rb.cell 0 (.slice (some ⟨b, 0, none⟩) len cap) rfl
  have k0 := (hb0.cell (p := ⟨b, 0, none⟩) lb).trans c0
  have HFW := Lib.hid (find_own len cap b (by omega) j hj w.heap.size W0 kb k0)
  have HB0 := Lib.hid hb0
  have RB := Lib.hid rb
  have R2 := Lib.hid r2
  have HW0 := Lib.hid hW0
  have LB := Lib.hid (Nat.lt_of_lt_of_le lb hb0.size)
  have ie : ((len : Int) == 0) = false := by simp; omega
  have hkb : Hid (W0.cell? ⟨w.heap.size, 0, none⟩ = some (.slice (some ⟨b, 0, none⟩) len cap)) := Lib.hid kb
  have kb' := kb
  rw [← hW0] at kb'
  have K1 := Lib.hid ((hb0.cell (p := ⟨b, 1, none⟩) lb).trans c1)
  have HT0 := Lib.hid (tab_on ht hb0 (Nat.le_refl _))
  have il : decide ((len : Int) < 2) = false := by simp; omega
  have il2 : ¬ (len : Int) < 2 := by omega
  have i1 : (1 : Int) < (len : Int) := by omega
  clear c1 ht
  clear kb k0 hb0 rb r2 hW0 c0 lb
  go_enter Tryd.func21, Tryd.ntmps21
  go_wp2_with fail
  rw [HW0.out]
  clear kb'
  refine HFW.out.mono ?_
  rintro e w2 ⟨⟨b1, b2, rfl, hr1, hr2⟩, hB2⟩
  obtain ⟨F, cap', hkm⟩ := kmA_func b1 b2 j
  have HKM := Lib.hid hkm
  simp only [kindA, hkm]
  rw [hk]
  have hs2 := hB2.size
  obtain ⟨V, hV⟩ : ∃ V, w2.alloc (.cells #[.string (kwA j), .int .u32 (kcA j), .bool true, .func (.func F) #[] cap'] 85) = V := ⟨_, rfl⟩
  have r6 : RowC V w2.heap.size #[.string (kwA j), .int .u32 (kcA j), .bool true, .func (.func F) #[] cap'] 85 := by rw [← hV]; exact RowC.new _ _ _ _ rfl
  have h02 : Below W0.heap.size W0 V := by rw [← hV]; exact hB2.alloc (by omega) _
  have R6 := Lib.hid r6
  have H02 := Lib.hid h02
  have HV := Lib.hid hV
  have q2 := R2.out.below h02 R2.out.lt
  have z0 := q2.cell 0 (.int .i64 0) rfl
  have z1 := q2.cell 1 (.int .i64 0) rfl
  have g0 := q2.frozen 0
  have g1 := q2.frozen 1
  have m2 := r6.cell 2 (.bool true) rfl
  have m3 := r6.cell 3 (.func (.func F) #[] cap') rfl
  have Q2 := Lib.hid q2
  have kb := (h02.cell (p := ⟨w.heap.size, 0, none⟩) RB.out.lt).trans hkb.out
  have k1 := (h02.cell (p := ⟨b, 1, none⟩) LB.out).trans K1.out
  have HPL := Lib.hid (plain_ok u hu V (tab_on HT0.out h02 (Nat.le_refl _)))
  have hr1' : RowC V b1 #[.int .i64 4095] 3 := by rw [← hV]; exact hr1.alloc _
  have hr2' : RowC V b2 #[.int .i64 65535] 3 := by rw [← hV]; exact hr2.alloc _
  have RR1 := Lib.hid hr1'
  have RR2 := Lib.hid hr2'
  clear hr1 hr2 hr1' hr2'
  clear r6 h02 hB2 hs2 q2 hkm hV
  go_upto_region 4 with fail
  rw [HV.out]
  go_wp2_with fail
  refine HPL.out.mono ?_
  rintro e w3 ⟨rfl, hB3⟩
  have r6 := R6.out.below hB3 R6.out.lt
  have q2 := Q2.out.below hB3 Q2.out.lt
  have x1 := RR1.out.below hB3 RR1.out.lt
  have x2 := RR2.out.below hB3 RR2.out.lt
  have HBQ' := Lib.hid ((HB0.out.trans (H02.out.mono HB0.out.size)).trans (hB3.mono (by have := HB0.out.size; have := H02.out.size; omega)))
  have mm3 := r6.cell 3 (.func (.func F) #[] cap') rfl
  have zz0 := q2.cell 0 (.int .i64 0) rfl
  have zz1 := q2.cell 1 (.int .i64 0) rfl
  have gg0 := q2.frozen 0
  have gg1 := q2.frozen 1
  have QQ := Lib.hid q2
  clear z0 z1 g0 g1 m2 m3 kb k1 hB3 q2 r6
  have hj35 : j = 3 ∨ j = 5 := by
    unfold knA at hk
    simp at hk
    omega
  rcases hj35 with rfl | rfl
  · have hkm : Value.func (.func 85) #[] #[.pointer (some ⟨b1, 0, none⟩)] = .func (.func F) #[] cap' := HKM.out
    injection hkm with e1 _ e3
    injection e1 with e1
    subst e1 e3
    have HM := Lib.hid (may3_any (u : Int) b1 w3 (x1.cell 0 _ rfl))
    rw [hmay] at HM
    clear x1 x2
    go_wp2_with (go_at_call 85; refine HM.out.mono ?_; rintro e w4 ⟨rfl, rfl⟩)
    have HBQ := HBQ'.out
    exact bodyPost_ret (results_ctt9 Tryd.results21 _ _ (w.heap.size + 1) _ _ (0, 0) _ (.int .i64 2) (.int .i64 0) (by rfl) (by rfl) (by rfl) (show RowC _ (w.heap.size + 1) #[.int .i64 4, .int .i64 u] 51 from (QQ.out.set 0 (.int .i64 4)).set 1 (.int .i64 u)) Tryd.underlying51 (by rfl) (show _ = some 2 from infoAct)) rfl
      ⟨rfl, (HBQ.setCell (Nat.le_succ _) _).setCell (Nat.le_succ _) _⟩
  · have hkm : Value.func (.func 85) #[] #[.pointer (some ⟨b2, 0, none⟩)] = .func (.func F) #[] cap' := HKM.out
    injection hkm with e1 _ e3
    injection e1 with e1
    subst e1 e3
    have HM := Lib.hid (may5_any (u : Int) b2 w3 (x2.cell 0 _ rfl))
    rw [hmay] at HM
    clear x1 x2
    go_wp2_with (go_at_call 85; refine HM.out.mono ?_; rintro e w4 ⟨rfl, rfl⟩)
    have HBQ := HBQ'.out
    exact bodyPost_ret (results_ctt9 Tryd.results21 _ _ (w.heap.size + 1) _ _ (0, 0) _ (.int .i64 2) (.int .i64 0) (by rfl) (by rfl) (by rfl) (show RowC _ (w.heap.size + 1) #[.int .i64 6, .int .i64 u] 51 from (QQ.out.set 0 (.int .i64 6)).set 1 (.int .i64 u)) Tryd.underlying51 (by rfl) (show _ = some 2 from infoAct)) rfl
      ⟨rfl, (HBQ.setCell (Nat.le_succ _) _).setCell (Nat.le_succ _) _⟩
end Go.Proofs.YtplnaejbfanioaaDoor
