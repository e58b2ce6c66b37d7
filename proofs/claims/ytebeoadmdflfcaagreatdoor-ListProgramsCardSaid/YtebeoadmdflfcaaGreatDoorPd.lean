/-
  The contract of list.fill: a pattern's marks replaced by an instruction's numbers; list.Line.
-/
import Derived.Test.YtebeoadmdflfcaaGreatDoorPc
namespace Go.Proofs.YtebeoadmdflfcaaGreatDoor
open Go.RowKit Go.Shelf
set_option linter.unusedVariables false

theorem dd_len : ∀ (k u : Nat), u < 10 ^ (k + 1) → (dd u).length ≤ k + 1 := by
  intro k
  induction k with
  | zero => intro u hu; rw [dd, Lib.decDigits, dif_pos (by omega)]; simp
  | succ k ih =>
    intro u hu
    rw [dd, Lib.decDigits]
    split
    · simp
    · have h := ih (u / 10) (by rw [Nat.pow_succ] at hu; omega)
      rw [List.length_append]
      simp
      omega
theorem repB_len (m : UInt8) (new : List UInt8) (N : Nat) (hn : new.length ≤ N) : ∀ s : List UInt8, (repB m new s).length ≤ s.length * (N + 1) := by
  intro s
  induction s with
  | nil => simp [repB]
  | cons b l ih =>
    rw [repB, List.length_append, List.length_cons, Nat.add_mul, Nat.one_mul]
    have : (if b = m then new else [b]).length ≤ N + 1 := by
      split
      · omega
      · simp
    omega
set_option maxHeartbeats 4000000 in
theorem put_any (m : UInt8) (n : Nat) (hn : n < 4294967296) (p : List UInt8) (hp : p.length ≤ 1000000) (b : Nat) (w : World) (he : EnvL w) (hr : RowC w b #[.string ⟨p.toArray⟩] 9) :
    Calls Tryz.prog 41 #[.string ⟨#[m]⟩, .int .u32 n, .pointer (some ⟨b, 0, none⟩)] w fun e w' => e = .returned (.tuple #[]) ∧ RowC w' b #[.string ⟨(repB m (dd n) p).toArray⟩] 9 ∧ ButL b w w' := by
  have h0 := hr.cell 0 _ rfl
  have hlt := hr.lt
  have hz := hr.frozen 0
  have v0 : IntKind.u64.wrap (n : Int) = (n : Int) := IntWalk.u64_in _ (by omega)
  have hdl : (dec n).size ≤ 10 := by
    have := dd_len 9 n (by omega)
    show (Lib.decDigits n).toArray.size ≤ 10
    simpa using this
  have HF : Hid (∀ W, Below w.heap.size w W → Calls Tryz.prog 43 #[.int .u64 n, .int .i64 10] W fun e w' => e = .returned (.string (dec n)) ∧ Below W.heap.size W w') := Lib.hid fun W hW => fmtU_any n (by omega) W (env_on he hW (Nat.le_refl _)).tab
  have HA : Hid (∀ W, Below w.heap.size w W → Calls Tryz.prog 42 #[.string ⟨p.toArray⟩, .string ⟨#[m]⟩, .string (dec n)] W fun e w' => e = .returned (.string ⟨(repB m (dd n) p).toArray⟩) ∧ Below W.heap.size W w') := Lib.hid fun W hW => by
    obtain ⟨q, hq⟩ := (env_on he hW (Nat.le_refl _)).max
    have hc := Lib.countB_le (⟨#[m]⟩ : ByteArray) (Nat.le_refl 1) _ (⟨p.toArray⟩ : ByteArray) (Nat.le_refl _)
    have hs : (⟨p.toArray⟩ : ByteArray).size = p.length := by show p.toArray.size = _; simp
    have h := Tryz.strings_ReplaceAll ⟨p.toArray⟩ ⟨#[m]⟩ (dec n) q W (by omega) hq (Nat.le_refl 1) (by
      have := Nat.mul_le_mul (show Lib.countB ⟨p.toArray⟩ ⟨#[m]⟩ ≤ 1000000 by omega) hdl
      omega)
    rw [show (⟨p.toArray⟩ : ByteArray).data.toList = p from rfl, show (⟨#[m]⟩ : ByteArray).data.toList = [m] from rfl, show (dec n).data.toList = dd n from rfl, repAll] at h
    exact h
  have HR := Lib.hid hr
  obtain ⟨S, hS⟩ : ∃ S : ByteArray, (⟨p.toArray⟩ : ByteArray) = S := ⟨_, rfl⟩
  obtain ⟨D, hD⟩ : ∃ D : ByteArray, dec n = D := ⟨_, rfl⟩
  obtain ⟨R, hRR⟩ : ∃ R : ByteArray, (⟨(repB m (dd n) p).toArray⟩ : ByteArray) = R := ⟨_, rfl⟩
  rw [hS] at h0 HA HR
  rw [hD] at HF HA
  rw [hRR] at HA ⊢
  clear hS hD hRR hr hp he hdl
  go_enter Tryz.func41, Tryz.ntmps41
  go_wp2_with fail
  go_region_with (first
    | (go_at_call 43
       refine (HF.out _ (by first | exact (Below.refl _ w).drew | exact Below.refl _ w)).mono ?_
       rintro e w2 ⟨rfl, hB2⟩
       have hb2 : Below w.heap.size w w2 := by first | exact (Below.refl _ w).drew.trans hB2 | exact hB2
       have h2 := (hb2.cell (p := ⟨b, 0, none⟩) hlt).trans h0)
    | (go_at_call 42
       refine (HA.out _ hb2).mono ?_
       rintro e w3 ⟨rfl, hB3⟩
       have hb3 := hb2.trans (hB3.mono hb2.size)
       have h3 := (hb3.cell (p := ⟨b, 0, none⟩) hlt).trans h0
       have z3 := (hb3.frozen (p := ⟨b, 0, none⟩) hlt).trans hz))
  all_goals go_wp2
  all_goals go_end0
  all_goals exact ⟨rfl, ((HR.out.below hb3 hlt).set 0 (.string R)), (ButL.of hb3).set 0 _⟩

theorem repB_len10 (m : UInt8) (n : Nat) (hn : n < 4294967296) (s : List UInt8) : (repB m (dd n) s).length ≤ s.length * 11 := repB_len m (dd n) 10 (dd_len 9 n (by omega)) s
set_option maxHeartbeats 8000000 in
theorem fill_any (p : List UInt8) (hp : p.length ≤ 20) (c t f k : Nat) (hc : c < 65536) (ht : t < 256) (hf : f < 256) (hk : k < 4294967296) (w : World) (he : EnvL w) :
    Calls Tryz.prog 25 #[.string ⟨p.toArray⟩, .agg (instA c t f k)] w fun e w' => e = .returned (.string ⟨(subst c t f k p).toArray⟩) ∧ Below w.heap.size w w' := by
  obtain ⟨W0, hW0⟩ : ∃ W, (w.alloc (.cells #[.string ⟨p.toArray⟩] 9)).alloc (.cells (instA c t f k) 25) = W := ⟨_, rfl⟩
  have hb0 : Below w.heap.size w W0 := by rw [← hW0]; exact ((Below.refl _ _).alloc (Nat.le_refl _) _).alloc (by simp) _
  have r0 : RowC W0 w.heap.size #[.string ⟨p.toArray⟩] 9 := by rw [← hW0]; exact (RowC.new _ _ _ _ rfl).alloc _
  have r1 : RowC W0 (w.heap.size + 1) (instA c t f k) 25 := by rw [← hW0]; exact RowC.new _ _ _ _ (by simp)
  have k0 := r1.cell 0 (.int .u16 c) rfl
  have v0 : IntKind.u32.wrap (c : Int) = (c : Int) := IntWalk.u32_in _ (by omega)
  have v1 : IntKind.u32.wrap (t : Int) = (t : Int) := IntWalk.u32_in _ (by omega)
  have v2 : IntKind.u32.wrap (f : Int) = (f : Int) := IntWalk.u32_in _ (by omega)
  have HE := Lib.hid he
  have l1 := repB_len10 67 c (by omega) p
  have l2 := repB_len10 84 t (by omega) (repB 67 (dd c) p)
  have l3 := repB_len10 70 f (by omega) (repB 84 (dd t) (repB 67 (dd c) p))
  have HP0 : Hid (∀ W, Below w.heap.size w W → RowC W w.heap.size #[.string ⟨p.toArray⟩] 9 → Calls Tryz.prog 41 #[.string ⟨#[67]⟩, .int .u32 c, .pointer (some ⟨w.heap.size, 0, none⟩)] W fun e w' => e = .returned (.tuple #[]) ∧ RowC w' w.heap.size #[.string ⟨(repB 67 (dd c) p).toArray⟩] 9 ∧ ButL w.heap.size W w') := Lib.hid fun W hW hr => put_any 67 c (by omega) p (by omega) _ W (env_on HE.out hW (Nat.le_refl _)) hr
  have HP1 : Hid (∀ W, Below w.heap.size w W → RowC W w.heap.size #[.string ⟨(repB 67 (dd c) p).toArray⟩] 9 → Calls Tryz.prog 41 #[.string ⟨#[84]⟩, .int .u32 t, .pointer (some ⟨w.heap.size, 0, none⟩)] W fun e w' => e = .returned (.tuple #[]) ∧ RowC w' w.heap.size #[.string ⟨(repB 84 (dd t) (repB 67 (dd c) p)).toArray⟩] 9 ∧ ButL w.heap.size W w') := Lib.hid fun W hW hr => put_any 84 t (by omega) _ (by omega) _ W (env_on HE.out hW (Nat.le_refl _)) hr
  have HP2 : Hid (∀ W, Below w.heap.size w W → RowC W w.heap.size #[.string ⟨(repB 84 (dd t) (repB 67 (dd c) p)).toArray⟩] 9 → Calls Tryz.prog 41 #[.string ⟨#[70]⟩, .int .u32 f, .pointer (some ⟨w.heap.size, 0, none⟩)] W fun e w' => e = .returned (.tuple #[]) ∧ RowC w' w.heap.size #[.string ⟨(repB 70 (dd f) (repB 84 (dd t) (repB 67 (dd c) p))).toArray⟩] 9 ∧ ButL w.heap.size W w') := Lib.hid fun W hW hr => put_any 70 f (by omega) _ (by omega) _ W (env_on HE.out hW (Nat.le_refl _)) hr
  have HP3 : Hid (∀ W, Below w.heap.size w W → RowC W w.heap.size #[.string ⟨(repB 70 (dd f) (repB 84 (dd t) (repB 67 (dd c) p))).toArray⟩] 9 → Calls Tryz.prog 41 #[.string ⟨#[75]⟩, .int .u32 k, .pointer (some ⟨w.heap.size, 0, none⟩)] W fun e w' => e = .returned (.tuple #[]) ∧ RowC w' w.heap.size #[.string ⟨(subst c t f k p).toArray⟩] 9 ∧ ButL w.heap.size W w') := Lib.hid fun W hW hr => by
    rw [← rep_subst]
    exact put_any 75 k hk _ (by omega) _ W (env_on HE.out hW (Nat.le_refl _)) hr
  obtain ⟨R, hR⟩ : ∃ R : ByteArray, (⟨(subst c t f k p).toArray⟩ : ByteArray) = R := ⟨_, rfl⟩
  rw [hR] at HP3 ⊢
  have HB := Lib.hid hb0
  have HW := Lib.hid hW0
  have HR0 := Lib.hid r0
  have HR1 := Lib.hid r1
  clear hb0 hW0 r0 r1 l1 l2 l3 he hR
  go_enter Tryz.func25, Tryz.ntmps25
  go_upto_region 1 with fail
  rw [HW.out]
  go_wp2_with fail
  refine (HP0.out _ HB.out HR0.out).mono ?_
  rintro e w1 ⟨rfl, q1, b1⟩
  have s1 := b1.row HR1.out (by omega)
  have k1 := s1.cell 1 (.int .u8 t) rfl
  have HB1 := Lib.hid (HB.out.trans (b1.below HB.out.size (Nat.le_refl _)))
  have HQ1 := Lib.hid q1
  have HS1 := Lib.hid s1
  clear q1 b1 s1 HP0 k0
  go_wp2_with fail
  refine (HP1.out _ HB1.out HQ1.out).mono ?_
  rintro e w2 ⟨rfl, q1, b1⟩
  have s1 := b1.row HS1.out (by omega)
  have k2 := s1.cell 2 (.int .u8 f) rfl
  have HB2 := Lib.hid (HB1.out.trans (b1.below HB1.out.size (Nat.le_refl _)))
  have HQ2 := Lib.hid q1
  have HS2 := Lib.hid s1
  clear q1 b1 s1 HP1 k1
  go_wp2_with fail
  refine (HP2.out _ HB2.out HQ2.out).mono ?_
  rintro e w3 ⟨rfl, q1, b1⟩
  have s1 := b1.row HS2.out (by omega)
  have k3 := s1.cell 3 (.int .u32 k) rfl
  have HB3 := Lib.hid (HB2.out.trans (b1.below HB2.out.size (Nat.le_refl _)))
  have HQ3 := Lib.hid q1
  clear q1 b1 s1 HP2 k2
  go_wp2_with fail
  refine (HP3.out _ HB3.out HQ3.out).mono ?_
  rintro e w4 ⟨rfl, q1, b1⟩
  have HB4 := Lib.hid (HB3.out.trans (b1.below HB3.out.size (Nat.le_refl _)))
  have k4 := q1.cell 0 _ rfl
  clear q1 b1 HP3 k3
  go_wp2
  go_ret
  exact ⟨rfl, HB4.out⟩
theorem patP_len : ∀ j, j < 41 → (patP j).length ≤ 20 := by decide +kernel
set_option maxRecDepth 100000 in
set_option maxHeartbeats 16000000 in
theorem lineP_any (c t f k : Nat) (hc : c < 65536) (ht : t < 256) (hf : f < 256) (hk : k < 4294967296) (w : World) (he : EnvL w) :
    Calls Tryz.prog 11 #[.agg (instA c t f k)] w fun e w' => e = .returned (.string ⟨(lineL c t f k).toArray⟩) ∧ Below w.heap.size w w' := by
  obtain ⟨W0, hW0⟩ : ∃ W, w.alloc (.cells (instA c t f k) 25) = W := ⟨_, rfl⟩
  have hb0 : Below w.heap.size w W0 := by rw [← hW0]; exact (Below.refl _ _).alloc (Nat.le_refl _) _
  have r0 : RowC W0 w.heap.size (instA c t f k) 25 := by rw [← hW0]; exact RowC.new _ _ _ _ rfl
  obtain ⟨W1, hW1⟩ : ∃ W, W0.alloc (.cells fmA 56) = W := ⟨_, rfl⟩
  have hb1 : Below w.heap.size w W1 := by rw [← hW1]; exact hb0.alloc hb0.size _
  have r1 : RowC W1 w.heap.size (instA c t f k) 25 := by rw [← hW1]; exact r0.alloc _
  have hT : FmP W1 W0.heap.size := by rw [← hW1]; exact FmP.new W0
  have HI := Lib.hid (idx_any c w.heap.size W0.heap.size W1 (r1.cell 0 _ rfl) hT)
  have HFM := Lib.hid (forms_any W0)
  have HE := Lib.hid he
  have HW0 := Lib.hid hW0
  have HW1 := Lib.hid hW1
  have HB1 := Lib.hid hb1
  have HR1 := Lib.hid r1
  have HT1 := Lib.hid hT
  have HFA : Hid (∀ W, Below w.heap.size w W → Calls Tryz.prog 25 #[.string ⟨#[46, 99, 111, 100, 101, 32, 67, 32, 84, 32, 70, 32, 75]⟩, .agg (instA c t f k)] W fun e w' => e = .returned (.string ⟨(subst c t f k anyP).toArray⟩) ∧ Below W.heap.size W w') := Lib.hid fun W hW => fill_any anyP (by decide) c t f k hc ht hf hk W (env_on HE.out hW (Nat.le_refl _))
  obtain ⟨R, hR⟩ : ∃ R : ByteArray, (⟨(lineL c t f k).toArray⟩ : ByteArray) = R := ⟨_, rfl⟩
  have HRR := Lib.hid hR
  rw [hR]
  clear hb0 r0 hb1 r1 hT hW0 hW1 he hR
  go_enter Tryz.func11, Tryz.ntmps11
  go_upto_region 1 with fail
  rw [HW0.out]
  go_wp2_with fail
  refine HFM.out.mono ?_
  rintro e w1 ⟨rfl, rfl⟩
  rw [HW1.out]
  go_wp2_with fail
  refine HI.out.mono ?_
  rintro e w2 ⟨rfl, hB2⟩
  have HR2 := Lib.hid (HR1.out.below hB2 HR1.out.lt)
  have HT2 := Lib.hid (HT1.out.below hB2)
  have HB2 := Lib.hid (HB1.out.trans (hB2.mono HB1.out.size))
  clear hB2 HI HFM HW0 HW1 HR1 HT1 HB1
  generalize W0.heap.size = T at *
  have e0 := HR2.out.cell 0 _ rfl
  have e1 := HR2.out.cell 1 _ rfl
  have e2 := HR2.out.cell 2 _ rfl
  have e3 := HR2.out.cell 3 _ rfl
  cases ha : atP c 41 with
  | none =>
    have HL : (⟨(subst c t f k anyP).toArray⟩ : ByteArray) = R := by rw [← HRR.out]; unfold lineL; rw [ha]
    have HA4 := Lib.hid HFA.out
    rw [HL] at HA4
    have HA2 := HA4
    have ho : outI none = -1 := rfl
    rw [ho]
    clear HL HFA HT2 ha HRR HA2
    have t1 : ((-1 : Int) < 0) := by decide
    go_upto_region 3 with fail
    go_quiet (fail)
    have HB3 : Hid (Below w.heap.size w (w2.drewN nq)) := Lib.hid (bdn HB2.out nq)
    have HA3 := Lib.hid (HA4.out _ HB3.out)
    have f0 : (w2.drewN nq).cell? ⟨w.heap.size, 0, none⟩ = some (.int .u16 c) := e0
    have f1 : (w2.drewN nq).cell? ⟨w.heap.size, 1, none⟩ = some (.int .u8 t) := e1
    have f2 : (w2.drewN nq).cell? ⟨w.heap.size, 2, none⟩ = some (.int .u8 f) := e2
    have f3 : (w2.drewN nq).cell? ⟨w.heap.size, 3, none⟩ = some (.int .u32 k) := e3
    clear e0 e1 e2 e3 HB2 HA4
    generalize w2.drewN nq = w2 at *
    go_wp2_with fail
    refine HA3.out.mono ?_
    rintro e w3 ⟨rfl, hB3⟩
    go_wp2
    go_ret
    exact ⟨rfl, HB3.out.trans (hB3.mono HB3.out.size)⟩
  | some j =>
    obtain ⟨hj, hcj, _⟩ := atP_some ha
    have hw0 := lineL
    have ho : outI (some j) = (j : Int) := rfl
    rw [ho]
    obtain ⟨m0, m1⟩ := HT2.out j hj
    have g0 : (0 : Int) ≤ (j : Int) := by omega
    have g1 : (j : Int) < 41 := by omega
    have g2 : ¬ (j : Int) < 0 := by omega
    have g3 : decide ((j : Int) < 0) = false := decide_eq_false g2
    have n1 : w2.cell? ⟨T, j * 2 + 1, none⟩ = some (.string ⟨(patP j).toArray⟩) := by rw [Nat.mul_comm]; exact m1
    have HWH := Lib.hid fun W => whole_any (patP j) c t f k ht hf hk W
    have HFP : Hid (∀ W, Below w.heap.size w W → Calls Tryz.prog 25 #[.string ⟨(patP j).toArray⟩, .agg (instA c t f k)] W fun e w' => e = .returned (.string ⟨(subst c t f k (patP j)).toArray⟩) ∧ Below W.heap.size W w') := Lib.hid fun W hW => fill_any (patP j) (patP_len j hj) c t f k hc ht hf hk W (env_on HE.out hW (Nat.le_refl _))
    obtain ⟨q, hq⟩ : ∃ q, wholeP (patP j) t f k = q := ⟨_, rfl⟩
    have HLQ : Hid ((⟨(if q = true then subst c t f k (patP j) else subst c t f k anyP).toArray⟩ : ByteArray) = R) := Lib.hid (by rw [← HRR.out]; unfold lineL; rw [ha]; simp only; rw [hq])
    rw [hq] at HWH
    obtain ⟨S, hS⟩ : ∃ S : ByteArray, (⟨(patP j).toArray⟩ : ByteArray) = S := ⟨_, rfl⟩
    rw [hS] at n1 HWH HFP
    clear hw0 m0 m1 hq hS ha HRR HT2
    have NN := Lib.hid n1
    go_upto_region 3 with fail
    go_cut [20] from 9 to 20 (fun s wx => s = .bool (!q) ∧ Below w2.heap.size w2 wx)
    case first =>
      rename_i J1 K1 hJ1 hK1
      go_region_with (go_at_call 24
                      refine (HWH.out _).mono ?_
                      rintro e w3 ⟨rfl, hB3⟩)
      all_goals
        have hb3 : Below w2.heap.size w2 w3 := by first | exact hB3 | exact (Below.refl _ w2).drew.trans hB3
        refine hK1 _ _ (Met.intro (hJ1 _ _ ?_))
        repeat apply Exists.intro
        refine ⟨?_, rfl⟩
        exact ⟨rfl, hb3⟩
    case rest =>
      obtain ⟨rfl, hB3⟩ := hcut
      have HB3 := Lib.hid (HB2.out.trans (hB3.mono HB2.out.size))
      have HR3 := Lib.hid (HR2.out.below hB3 HR2.out.lt)
      have hlT : T < w2.heap.size := World.block_lt_of_cell? _ _ NN.out
      have N3 := Lib.hid ((hB3.cell (p := ⟨T, j * 2 + 1, none⟩) hlT).trans NN.out)
      clear hB3 HR2 NN HB2 hlT n1 HWH e0 e1 e2 e3
      have e0 := HR3.out.cell 0 _ rfl
      have e1 := HR3.out.cell 1 _ rfl
      have e2 := HR3.out.cell 2 _ rfl
      have e3 := HR3.out.cell 3 _ rfl
      cases q
      · have hl : (⟨(subst c t f k anyP).toArray⟩ : ByteArray) = R := HLQ.out
        have HA := Lib.hid (HFA.out _ HB3.out)
        rw [hl] at HA
        clear hl HLQ HFA HFP N3
        go_wp2_with fail
        refine HA.out.mono ?_
        rintro e w4 ⟨rfl, hB4⟩
        go_wp2
        go_ret
        exact ⟨rfl, HB3.out.trans (hB4.mono HB3.out.size)⟩
      · have hl : (⟨(subst c t f k (patP j)).toArray⟩ : ByteArray) = R := HLQ.out
        have HA := Lib.hid HFP.out
        rw [hl] at HA
        have m1 := N3.out
        clear hl HLQ HFA HFP
        go_upto_region 5 with fail
        go_region_with (go_at_call 25
                        refine (HA.out _ (by first | exact HB3.out | exact HB3.out.drew)).mono ?_
                        rintro e w4 ⟨rfl, hB4⟩
                        have hb4 : Below w.heap.size w w4 := by first | exact HB3.out.trans (hB4.mono HB3.out.size) | exact HB3.out.drew.trans (hB4.mono HB3.out.size))
        all_goals go_wp2
        all_goals go_ret
        all_goals exact ⟨rfl, hb4⟩
end Go.Proofs.YtebeoadmdflfcaaGreatDoor
