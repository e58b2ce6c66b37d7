/-
  The contract of act.find at the closure of act.kindOf, of kindOf, and of Code.
-/
import Derived.Test.YtnlnddmnbeilfaaBa
import Derived.RegionTactic
namespace Go.Proofs.Ytnlnddmnbeilfaa
open Go.RowKit

theorem may_other (j : Nat) (n : Int) (h3 : j ≠ 3) (h5 : j ≠ 5) : mayA j n = (n == 0) := by
  unfold mayA mostA
  rw [if_neg h3, if_neg h5, Bool.eq_iff_iff]
  simp
  omega
theorem km_other (b1 b2 j : Nat) (h3 : j ≠ 3) (h5 : j ≠ 5) : kmA b1 b2 j = .func (.func 58) #[] #[] := by
  unfold kmA
  split
  · exact absurd rfl h3
  · exact absurd rfl h5
  · rfl
/-- A kind's question, asked of a number. -/
theorem may3_any (n : Int) (b1 : Nat) (w : World) (hb : w.cell? ⟨b1, 0, none⟩ = some (.int .i64 4095)) : Calls Try.prog 60 #[.int .i64 n, .pointer (some ⟨b1, 0, none⟩)] w fun e w' => e = .returned (.bool (mayA 3 n)) ∧ w = w' := upto1_any n 4095 b1 w hb
theorem may5_any (n : Int) (b2 : Nat) (w : World) (hb : w.cell? ⟨b2, 0, none⟩ = some (.int .i64 65535)) : Calls Try.prog 60 #[.int .i64 n, .pointer (some ⟨b2, 0, none⟩)] w fun e w' => e = .returned (.bool (mayA 5 n)) ∧ w = w' := upto1_any n 65535 b2 w hb

set_option maxRecDepth 100000 in
set_option maxHeartbeats 4000000 in
theorem kindOf1_any (n kd nm : Int) (b1 b2 j AB : Nat) (w : World) (h1 : w.cell? ⟨b1, 0, none⟩ = some (.int .i64 4095)) (h2 : w.cell? ⟨b2, 0, none⟩ = some (.int .i64 65535)) (ha : w.cell? ⟨AB, 0, none⟩ = some (.int .i64 kd)) (hb : w.cell? ⟨AB, 1, none⟩ = some (.int .i64 nm)) :
    Calls Try.prog 41 #[.int .i64 n, .agg (kindA b1 b2 j), .pointer (some ⟨AB, 0, none⟩)] w fun e w' => e = .returned (.bool (n == kd && mayA j nm)) ∧ Below w.heap.size w w' := by
  have hB : Below w.heap.size w (w.alloc (.cells (kindA b1 b2 j) 71)) := (Below.refl _ _).alloc (Nat.le_refl _) _
  have l1 := World.block_lt_of_cell? _ _ h1
  have l2 := World.block_lt_of_cell? _ _ h2
  have l3 := World.block_lt_of_cell? _ _ ha
  have k1 : (w.alloc (.cells (kindA b1 b2 j) 71)).cell? ⟨b1, 0, none⟩ = some (.int .i64 4095) := (hB.cell (p := ⟨b1, 0, none⟩) l1).trans h1
  have k2 : (w.alloc (.cells (kindA b1 b2 j) 71)).cell? ⟨b2, 0, none⟩ = some (.int .i64 65535) := (hB.cell (p := ⟨b2, 0, none⟩) l2).trans h2
  have a0 : (w.alloc (.cells (kindA b1 b2 j) 71)).cell? ⟨AB, 0, none⟩ = some (.int .i64 kd) := (hB.cell (p := ⟨AB, 0, none⟩) l3).trans ha
  have a1 : (w.alloc (.cells (kindA b1 b2 j) 71)).cell? ⟨AB, 1, none⟩ = some (.int .i64 nm) := (hB.cell (p := ⟨AB, 1, none⟩) l3).trans hb
  have K1 := Lib.hid k1
  have K2 := Lib.hid k2
  have HB := Lib.hid hB
  have c3 : (w.alloc (.cells (kindA b1 b2 j) 71)).cell? ⟨w.heap.size, 3, none⟩ = some (kmA b1 b2 j) := (RowC.new w (kindA b1 b2 j) 71 _ rfl).cell 3 _ rfl
  clear h1 h2 ha hb k1 k2 hB
  cases ht : (n == kd)
  · go_enter Try.func41, Try.ntmps41
    go_wp2
    go_ret
    exact ⟨rfl, HB.out⟩
  · by_cases h3 : j = 3
    · subst h3
      have c3' : (w.alloc (.cells (kindA b1 b2 3) 71)).cell? ⟨w.heap.size, 3, none⟩ = some (.func (.func 60) #[] #[.pointer (some ⟨b1, 0, none⟩)]) := c3
      have HM := Lib.hid (may3_any nm b1 _ K1.out)
      clear c3
      go_enter Try.func41, Try.ntmps41
      go_wp2_with (go_at_call 60; refine HM.out.mono ?_; rintro e w1 ⟨rfl, rfl⟩)
      go_ret
      exact ⟨rfl, HB.out⟩
    by_cases h5 : j = 5
    · subst h5
      have c3' : (w.alloc (.cells (kindA b1 b2 5) 71)).cell? ⟨w.heap.size, 3, none⟩ = some (.func (.func 60) #[] #[.pointer (some ⟨b2, 0, none⟩)]) := c3
      have HM := Lib.hid (may5_any nm b2 _ K2.out)
      clear c3
      go_enter Try.func41, Try.ntmps41
      go_wp2_with (go_at_call 60; refine HM.out.mono ?_; rintro e w1 ⟨rfl, rfl⟩)
      go_ret
      exact ⟨rfl, HB.out⟩
    have c3' := c3
    rw [km_other b1 b2 j h3 h5] at c3'
    have HM := Lib.hid (may_other j nm h3 h5)
    clear c3 h3 h5
    go_enter Try.func41, Try.ntmps41
    go_wp2_with (go_at_call 58; refine (none_any _ _).mono ?_; rintro e w1 ⟨rfl, rfl⟩)
    go_ret
    exact ⟨by rw [HM.out]; rfl, HB.out⟩

theorem kmA_func (b1 b2 j : Nat) : ∃ F cap, kmA b1 b2 j = .func (.func F) #[] cap := by
  unfold kmA
  split
  · exact ⟨_, _, rfl⟩
  · exact ⟨_, _, rfl⟩
  · exact ⟨_, _, rfl⟩
/-- What a look for a kind gives. -/
def FindR (P : Nat → Bool) (w : World) (e : Ending) (w' : World) : Prop :=
  ((∃ j, j < 8 ∧ P j = true ∧ (∀ i, i < j → P i = false) ∧ e = .returned (.tuple #[.int .i64 ((j : Int) + 1), .agg (kindA (w.heap.size + 1 + 1) (w.heap.size + 1 + 1 + 1) j), .bool true])) ∨
   ((∀ i, i < 8 → P i = false) ∧ e = .returned (.tuple #[.int .i64 0, .agg kind0, .bool false]))) ∧
  (RowC w' (w.heap.size + 1 + 1) #[.int .i64 4095] 3 ∧ RowC w' (w.heap.size + 1 + 1 + 1) #[.int .i64 65535] 3) ∧ Below w.heap.size w w'
theorem results_tct {P : Program} {fn : Func} {p q r : Tmp} {ty : TypeId} (h : fn.results = #[.tmp p, .cell q ty, .tmp r]) (tmps : Array Value) (w : World) (g : Nat) (t : TypeId) (cs : Array Value) (fr : Nat × Nat) (d : TypeDesc) (u v : Value)
    (hp : tmps.getD p undef = u) (hq : tmps.getD q undef = .pointer (some ⟨g, 0, none⟩)) (hr : tmps.getD r undef = v) (hg : w.heap[g]? = some (.cells cs t fr))
    (hu : P.underlying ty = some d) (hd : (match d with | .struct _ | .array _ _ => true | _ => false) = true) (hi : (P.info? ty).map (·.size) = some cs.size) :
    (results fn tmps).run P w = .ok (.tuple #[u, .agg cs, v]) w := by
  have hp' : tmps[p]?.getD undef = u := by simpa using hp
  have hq' : tmps[q]?.getD undef = .pointer (some ⟨g, 0, none⟩) := by simpa using hq
  have hr' : tmps[r]?.getD undef = v := by simpa using hr
  simp [results, h, hp', hq', hr', asAddr, run_loadVar_row w g t ty cs fr d hg hu hd hi, Result.andThen]

set_option maxRecDepth 100000 in
set_option maxHeartbeats 8000000 in
theorem find_kindOf (kd nm : Int) (AB : Nat) (w : World) (ha : w.cell? ⟨AB, 0, none⟩ = some (.int .i64 kd)) (hb : w.cell? ⟨AB, 1, none⟩ = some (.int .i64 nm)) :
    Calls Try.prog 40 #[.func (.func 41) #[] #[.pointer (some ⟨AB, 0, none⟩)]] w (FindR (fun j => ((j : Int) + 1) == kd && mayA j nm) w) := by
  have lA := World.block_lt_of_cell? _ _ ha
  have HA := Lib.hid (⟨ha, hb⟩ : w.cell? ⟨AB, 0, none⟩ = some (.int .i64 kd) ∧ w.cell? ⟨AB, 1, none⟩ = some (.int .i64 nm))
  obtain ⟨P, hP⟩ : ∃ P : Nat → Bool, (fun j : Nat => ((j : Int) + 1) == kd && mayA j nm) = P := ⟨_, rfl⟩
  rw [hP]
  have HP := Lib.hid hP
  clear ha hb hP
  have HK := Lib.hid (kinds_any (w.alloc (.cells kind0 71)))
  go_enter Try.func40, Try.ntmps40
  go_wp2_with (go_at_call 51; refine HK.out.mono ?_; rintro e w1 ⟨rfl, hr1, hr2, hB1⟩)
  have ez : (w.alloc (.cells kind0 71)).heap.size = w.heap.size + 1 := by simp
  rw [ez] at hr1 hr2 hB1
  have hb0 : Below w.heap.size w w1 := ((Below.refl _ _).alloc (Nat.le_refl _) _).trans (hB1.mono (by omega))
  have hr0 : RowC w1 w.heap.size kind0 71 := (RowC.new w kind0 71 _ rfl).below hB1 (by omega)
  obtain ⟨b1, hb1⟩ : ∃ b, w.heap.size + 1 + 1 = b := ⟨_, rfl⟩
  obtain ⟨b2, hb2⟩ : ∃ b, w.heap.size + 1 + 1 + 1 = b := ⟨_, rfl⟩
  rw [hb1] at hr1
  rw [hb2] at hr2
  have HB1 := Lib.hid hb1
  have HB2 := Lib.hid hb2
  rw [hb2, hb1]
  clear hb1 hb2 hB1 ez
  go_loopw [9] (fun i wr => ∃ k : Nat, k ≤ 8 ∧ i = .int .i64 k ∧ (∀ i, i < k → P i = false) ∧ (RowC wr b1 #[.int .i64 4095] 3 ∧ RowC wr b2 #[.int .i64 65535] 3 ∧ RowC wr w.heap.size kind0 71) ∧ Below w.heap.size w wr)
    (fun i _ => 8 - (intOf i).toNat)
  case atStart => exact ⟨0, by omega, rfl, fun i h => by omega, ⟨hr1, hr2, hr0⟩, hb0⟩
  case round =>
    obtain ⟨k, hk, rfl, hno, ⟨g1, g2, g0⟩, hB⟩ := hrel
    have HNO := Lib.hid hno
    clear hno
    by_cases hlt : k < 8
    · have hix := ixK b1 b2 k hlt
      obtain ⟨F, cap, hkm⟩ := kmA_func b1 b2 k
      have i1 : (0 : Int) ≤ (k : Int) := by omega
      have i2 : (k : Int) < 8 := by omega
      have hs := hB.size
      have hcl : Calls Try.prog 41 #[.int .i64 ((k : Int) + 1), .agg (kindA b1 b2 k), .pointer (some ⟨AB, 0, none⟩)] (wr.alloc (.cells (kindA b1 b2 k) 71)) fun e w' => e = .returned (.bool (P k)) ∧ Below (wr.alloc (.cells (kindA b1 b2 k) 71)).heap.size (wr.alloc (.cells (kindA b1 b2 k) 71)) w' := by
        have hBa : Below w.heap.size w (wr.alloc (.cells (kindA b1 b2 k) 71)) := hB.alloc hs _
        have := kindOf1_any ((k : Int) + 1) kd nm b1 b2 k AB _ ((g1.alloc (.cells (kindA b1 b2 k) 71)).cell 0 _ rfl) ((g2.alloc (.cells (kindA b1 b2 k) 71)).cell 0 _ rfl) ((hBa.cell (p := ⟨AB, 0, none⟩) lA).trans HA.out.1) ((hBa.cell (p := ⟨AB, 1, none⟩) lA).trans HA.out.2)
        rw [show (((k : Int) + 1) == kd && mayA k nm) = P k from congrFun HP.out k] at this
        exact this
      have hg0 := g0.alloc (.cells (kindA b1 b2 k) 71)
      have hg1 := g1.alloc (.cells (kindA b1 b2 k) 71)
      have hg2 := g2.alloc (.cells (kindA b1 b2 k) 71)
      have hFin : Hid (kindA b1 b2 k = #[.string (kwA k), .int .u32 (kcA k), .bool (knA k), .func (.func F) #[] cap]) := Lib.hid (by unfold kindA; rw [hkm])
      simp only [kindA, hkm] at hix hcl hg0 hg1 hg2
      have HCL := Lib.hid hcl
      have HG0 := Lib.hid hg0
      have HG1 := Lib.hid hg1
      have HG2 := Lib.hid hg2
      have HBW := Lib.hid hB
      clear hcl g1 g2 g0 hB hkm hg0 hg1 hg2
      cases hp : P k
      · rw [hp] at HCL
        have HPK := Lib.hid hp
        clear hp
        go_wp2_with (go_at_call 41; refine HCL.out.mono ?_; rintro e w5 ⟨rfl, hB5⟩)
        have q0 := HG0.out
        have q1 := HG1.out
        have q2 := HG2.out
        exact ⟨⟨k + 1, by omega, by go_num, fun i hi => by
          by_cases h : i = k
          · subst h; exact HPK.out
          · exact HNO.out i (by omega), ⟨q1.below hB5 q1.lt, q2.below hB5 q2.lt, q0.below hB5 q0.lt⟩, (HBW.out.alloc hs _).trans (hB5.mono (by simp; omega))⟩, by simp [intOf]; omega⟩
      · rw [hp] at HCL
        have HPK := Lib.hid hp
        clear hp
        go_wp2_with (go_at_call 41; refine HCL.out.mono ?_; rintro e w5 ⟨rfl, hB5⟩)
        have q0 := HG0.out
        have q1 := HG1.out
        have q2 := HG2.out
        have s1 := q1.below hB5 q1.lt
        have s2 := q2.below hB5 q2.lt
        have r3 := q0.below hB5 q0.lt
        have r6 : RowC w5 wr.heap.size #[.string (kwA k), .int .u32 (kcA k), .bool (knA k), .func (.func F) #[] cap] 71 := (RowC.new wr _ 71 _ rfl).below hB5 (by simp)
        have hB6 : Below w.heap.size w w5 := (HBW.out.alloc hs _).trans (hB5.mono (by simp; omega))
        have c0 := r6.cell 0 _ rfl
        have c1 := r6.cell 1 _ rfl
        have c2 := r6.cell 2 _ rfl
        have c3 := r6.cell 3 _ rfl
        have R1 := Lib.hid s1
        have R2 := Lib.hid s2
        have R3 := Lib.hid r3
        have HB6 := Lib.hid hB6
        clear q1 q2 q0 s1 s2 r6 hB6 hB5
        have d0 := R3.out.cell 0 _ rfl
        have d1 := R3.out.cell 1 _ rfl
        have d2 := R3.out.cell 2 _ rfl
        have d3 := R3.out.cell 3 _ rfl
        have f0 := R3.out.frozen 0
        have f1 := R3.out.frozen 1
        have f2 := R3.out.frozen 2
        have f3 := R3.out.frozen 3
        clear r3
        go_region
        all_goals go_wp2
        have hrow : RowC ((((w5.setCell ⟨w.heap.size, 0, none⟩ (.string (kwA k))).setCell ⟨w.heap.size, 1, none⟩ (.int .u32 (kcA k))).setCell ⟨w.heap.size, 2, none⟩ (.bool (knA k))).setCell ⟨w.heap.size, 3, none⟩ (.func (.func F) #[] cap)).drew w.heap.size #[.string (kwA k), .int .u32 (kcA k), .bool (knA k), .func (.func F) #[] cap] 71 := (((R3.out.set 0 (.string (kwA k))).set 1 (.int .u32 (kcA k))).set 2 (.bool (knA k))).set 3 (.func (.func F) #[] cap)
        have n1 : b1 ≠ w.heap.size := by have := HB1.out; omega
        have n2 : b2 ≠ w.heap.size := by have := HB2.out; omega
        have hr1 : RowC ((((w5.setCell ⟨w.heap.size, 0, none⟩ (.string (kwA k))).setCell ⟨w.heap.size, 1, none⟩ (.int .u32 (kcA k))).setCell ⟨w.heap.size, 2, none⟩ (.bool (knA k))).setCell ⟨w.heap.size, 3, none⟩ (.func (.func F) #[] cap)).drew b1 #[.int .i64 4095] 3 := (((R1.out.setOther 0 _ n1).setOther 1 _ n1).setOther 2 _ n1).setOther 3 _ n1
        have hr2 : RowC ((((w5.setCell ⟨w.heap.size, 0, none⟩ (.string (kwA k))).setCell ⟨w.heap.size, 1, none⟩ (.int .u32 (kcA k))).setCell ⟨w.heap.size, 2, none⟩ (.bool (knA k))).setCell ⟨w.heap.size, 3, none⟩ (.func (.func F) #[] cap)).drew b2 #[.int .i64 65535] 3 := (((R2.out.setOther 0 _ n2).setOther 1 _ n2).setOther 2 _ n2).setOther 3 _ n2
        have hbe : Below w.heap.size w ((((w5.setCell ⟨w.heap.size, 0, none⟩ (.string (kwA k))).setCell ⟨w.heap.size, 1, none⟩ (.int .u32 (kcA k))).setCell ⟨w.heap.size, 2, none⟩ (.bool (knA k))).setCell ⟨w.heap.size, 3, none⟩ (.func (.func F) #[] cap)).drew := ((((HB6.out.setCell (by simp) _).setCell (by simp) _).setCell (by simp) _).setCell (by simp) _).drew
        all_goals
          refine bodyPost_ret (results_tct Try.results40 _ _ w.heap.size _ _ (0, 0) _ (.int .i64 ((k : Int) + 1)) (.bool true) (by rfl) (by rfl) (by rfl) hrow Try.underlying71 (by rfl) (show _ = some 4 from infoK)) rfl ?_
          refine ⟨.inl ⟨k, hlt, HPK.out, HNO.out, ?_⟩, ?_, hbe⟩
          · rw [HB2.out, HB1.out, hFin.out]
          · rw [HB2.out, HB1.out]; exact ⟨hr1, hr2⟩
    · obtain rfl : k = 8 := by omega
      have G0 := Lib.hid g0
      have G1 := Lib.hid g1
      have G2 := Lib.hid g2
      have HBW := Lib.hid hB
      clear g0 g1 g2 hB
      go_wp2_with (refine wpList_store_row (by rfl) 71 _ _ (by rfl) w.heap.size kind0 (by rfl) (by rfl) _ _ G0.out (show _ = some kind0.size from infoK) (by rfl) (by simp [Value.oneCell']) ?_)
      refine bodyPost_ret (results_tct Try.results40 _ _ w.heap.size _ kind0 (0, 0) _ (.int .i64 0) (.bool false) (by rfl) (by rfl) (by rfl) (setRow_heap _ _ _ _ _ _ G0.out) Try.underlying71 (by rfl) (show _ = some kind0.size from infoK)) rfl ?_
      refine ⟨.inr ⟨HNO.out, rfl⟩, ?_, below_setRow HBW.out (Nat.le_refl _) _⟩
      rw [HB2.out, HB1.out]
      exact ⟨G1.out.setRow _ (by have := HB1.out; omega), G2.out.setRow _ (by have := HB2.out; omega)⟩

theorem find_ok (j : Nat) (hj : j < 8) (nm : Int) (hm : mayA j nm = true) (AB : Nat) (w : World) (ha : w.cell? ⟨AB, 0, none⟩ = some (.int .i64 ((j : Int) + 1))) (hb : w.cell? ⟨AB, 1, none⟩ = some (.int .i64 nm)) :
    Calls Try.prog 40 #[.func (.func 41) #[] #[.pointer (some ⟨AB, 0, none⟩)]] w fun e w' => (∃ b1 b2, e = .returned (.tuple #[.int .i64 ((j : Int) + 1), .agg (kindA b1 b2 j), .bool true])) ∧ Below w.heap.size w w' := by
  refine (find_kindOf _ nm AB w ha hb).mono ?_
  rintro e w' ⟨h | h, _, hB⟩
  · obtain ⟨i, hi, hp, _, he⟩ := h
    have : i = j := by
      have := (Bool.and_eq_true _ _ ▸ hp).1
      have h2 : ((i : Int) + 1) = (j : Int) + 1 := by simpa using this
      omega
    subst this
    exact ⟨⟨_, _, he⟩, hB⟩
  · have := h.1 j hj
    simp [hm] at this
theorem find_no (kd nm : Int) (hno : ∀ j : Nat, j < 8 → kd = (j : Int) + 1 → mayA j nm = false) (AB : Nat) (w : World) (ha : w.cell? ⟨AB, 0, none⟩ = some (.int .i64 kd)) (hb : w.cell? ⟨AB, 1, none⟩ = some (.int .i64 nm)) :
    Calls Try.prog 40 #[.func (.func 41) #[] #[.pointer (some ⟨AB, 0, none⟩)]] w fun e w' => e = .returned (.tuple #[.int .i64 0, .agg kind0, .bool false]) ∧ Below w.heap.size w w' := by
  refine (find_kindOf _ nm AB w ha hb).mono ?_
  rintro e w' ⟨h | h, _, hB⟩
  · obtain ⟨i, hi, hp, _, he⟩ := h
    have h1 := Bool.and_eq_true _ _ ▸ hp
    have h2 : ((i : Int) + 1) = kd := by simpa using h1.1
    have := hno i hi h2.symm
    rw [this] at h1
    exact absurd h1.2 (by decide)
  · exact ⟨h.2, hB⟩

end Go.Proofs.Ytnlnddmnbeilfaa
