/-
  Layer 15: Check of any policy by any table.
-/
import Derived.Test.YtccklmleaffgiaaGreatDoorCgp
import Derived.Test.YtccklmleaffgiaaGreatDoorRkp
import Derived.Test.YtccklmleaffgiaaGreatDoorP11
namespace Go.Proofs.YtccklmleaffgiaaGreatDoor
open Go.RowKit Go.Shelf Go.Lib Go.Sort
set_option linter.unusedVariables false

/-- What a rule asks for. -/
def reqK (r : RV) : Value := .agg (reqA r.nm (padC (srt r.L)))
/-- The first rule that is wrong, and how. -/
inductive VC (T : Nat → SR) (tn : Nat) : List Value → Nat → List RV → Nat → Nat → Prop
  | nil (S : List Value) (i : Nat) : VC T tn S i [] 0 0
  | name (S : List Value) (i : Nat) (r : RV) (rs : List RV) (h : (List.range tn).any (isN T r.nm) = false) : VC T tn S i (r :: rs) i 14
  | bes (S : List Value) (i : Nat) (r : RV) (rs : List RV) (h : (List.range tn).any (isN T r.nm) = true) (h2 : r.L.any besF = true) : VC T tn S i (r :: rs) i 16
  | twice (S : List Value) (i : Nat) (r : RV) (rs : List RV) (h : (List.range tn).any (isN T r.nm) = true) (h2 : r.L.any besF = false) (h3 : .agg (reqN r.nm) ∈ S ∨ reqK r ∈ S) : VC T tn S i (r :: rs) i 15
  | go (S : List Value) (i : Nat) (r : RV) (rs : List RV) (a f : Nat) (h : (List.range tn).any (isN T r.nm) = true) (h2 : r.L.any besF = false) (h3 : .agg (reqN r.nm) ∉ S ∧ reqK r ∉ S) (h4 : VC T tn (S ++ [reqK r]) (i + 1) rs a f) : VC T tn S i (r :: rs) a f
/-- What Check tells. -/
def ChkP (k u : Int) (L : List RV) (T : Nat → SR) (tn a f : Nat) : Prop :=
  (rightV k u L = false ∧ a = 0 ∧ f = 13) ∨ (rightV k u L = true ∧ (((∃ p q, RightP T tn p q ∧ q ≠ 0) ∧ a = 0 ∧ f = 18) ∨ (RightP T tn 0 0 ∧ VC T tn [] 0 L a f)))
theorem wf_ric {c : CD} (h : RiC c) (hm : c.m ≤ 18446744073709551615) (hv : c.v ≤ 18446744073709551615) : WfC (cvOf c) := by
  obtain ⟨h1, h2, h3, h4, _⟩ := h
  refine ⟨?_, ?_, ?_, ?_⟩
  · show (Lit.int .i64 c.a).wf = true
    simp [Lit.wf, IntKind.min, IntKind.max, IntKind.signed, IntKind.bits]
    omega
  · show (Lit.int .i64 c.o).wf = true
    simp [Lit.wf, IntKind.min, IntKind.max, IntKind.signed, IntKind.bits]
    omega
  · show (Lit.int .u64 (c.m : Int)).wf = true
    simp [Lit.wf, IntKind.min, IntKind.max, IntKind.signed, IntKind.bits]
    omega
  · show (Lit.int .u64 (c.v : Int)).wf = true
    simp [Lit.wf, IntKind.min, IntKind.max, IntKind.signed, IntKind.bits]
    omega
theorem may_of {k u : Int} {l : List RL} (h : rightV k u (l.map RL.val) = true) {r : RL} (hr : r ∈ l) : r.n ≤ 6 ∧ ∀ i, i < r.n → RiC (r.C i) := by
  unfold rightV at h
  simp only [Bool.and_eq_true, decide_eq_true_eq, List.all_eq_true] at h
  have h2 := h.2.2 r.val (List.mem_map.2 ⟨r, hr, rfl⟩)
  unfold mayV at h2
  simp only [Bool.and_eq_true, decide_eq_true_eq, List.all_eq_true] at h2
  obtain ⟨_, _, h3, h4⟩ := h2
  refine ⟨by simpa [RL.val] using h3, fun i hi => ?_⟩
  exact h4 (r.C i) (List.mem_map.2 ⟨i, List.mem_range.2 hi, rfl⟩)
theorem ixD0 (LB MB : Nat) (W : World) : (Instr.index 77 (.agg (demA LB MB)) (.int .i64 0)).run Tryz.prog W = .ok (.agg #[.func (.func 44) #[] #[.pointer (some ⟨LB, 0, none⟩)], .int .i64 14]) W := by
  have hlt : 76 < Tryz.prog.types.size := of_decide_eq_true (by kernel_rfl)
  have hsz : (Tryz.prog.types[76]'hlt).size = 2 := by kernel_rfl
  simp [Instr.index, run_underlying Tryz.underlying77, asIntOf, demA, go_sem]
theorem ixD1 (LB MB : Nat) (W : World) : (Instr.index 77 (.agg (demA LB MB)) (.int .i64 1)).run Tryz.prog W = .ok (.agg #[.func (.func 46) #[] #[], .int .i64 16]) W := by
  have hlt : 76 < Tryz.prog.types.size := of_decide_eq_true (by kernel_rfl)
  have hsz : (Tryz.prog.types[76]'hlt).size = 2 := by kernel_rfl
  simp [Instr.index, run_underlying Tryz.underlying77, asIntOf, demA, go_sem]
theorem ixD2 (LB MB : Nat) (W : World) : (Instr.index 77 (.agg (demA LB MB)) (.int .i64 2)).run Tryz.prog W = .ok (.agg #[.func (.func 49) #[] #[.pointer (some ⟨MB, 0, none⟩)], .int .i64 15]) W := by
  have hlt : 76 < Tryz.prog.types.size := of_decide_eq_true (by kernel_rfl)
  have hsz : (Tryz.prog.types[76]'hlt).size = 2 := by kernel_rfl
  simp [Instr.index, run_underlying Tryz.underlying77, asIntOf, demA, go_sem]
theorem infoD3 : (Tryz.prog.info? 77).map (·.size) = some 6 := by kernel_rfl
theorem But1.row {b g : Nat} {w w' : World} {cs : Array Value} {T : TypeId} (h : But1 b w w') (hr : RowC w g cs T) (hn : g ≠ b) : RowC w' g cs T := (h.block g hr.lt (fun e => hn (by cases e; rfl))).trans hr
theorem But1.cellAt {b g i : Nat} {w w' : World} {v : Value} (h : But1 b w w') (hc : w.cell? ⟨g, i, none⟩ = some v) (hn : g ≠ b) : w'.cell? ⟨g, i, none⟩ = some v := by
  have hl := World.block_lt_of_cell? _ _ hc
  have he := h.block g hl (fun e => hn (by cases e; rfl))
  rw [← hc]
  simp only [World.cell?, he]
set_option maxRecDepth 100000 in
set_option maxHeartbeats 16000000 in
theorem check_any (k u : Int) (x : Bool) (A : Option Addr) (l : List RL) (c : Nat) (TA : Option Addr) (tn tcap : Nat) (T : Nat → SR) (w : World) (hl : RlL w A l) (hln : l.length ≤ 1000) (h12 : ∀ e ∈ l, e.n ≤ 100000) (htn : tn ≤ 1000000) (ht : TbA w TA tn T) :
    Calls Tryz.prog 17 #[.agg (polA k u x A l.length c), .slice TA tn tcap] w fun e w' => ∃ a f : Nat, e = .returned (.tuple #[.int .i64 a, .int .i64 f]) ∧ ChkP k u (l.map RL.val) T tn a f ∧ Below w.heap.size w w' := by
  obtain ⟨B, hBs⟩ : ∃ B, w.heap.size = B := ⟨_, rfl⟩
  obtain ⟨n, hnl⟩ : ∃ n, l.length = n := ⟨_, rfl⟩
  obtain ⟨W0, hW0⟩ : ∃ W, w.alloc (.cells (polA k u x A n c) 26) = W := ⟨_, rfl⟩
  have hb0 : Below B w W0 := by rw [← hW0, ← hBs]; exact (Below.refl _ _).alloc (Nat.le_refl _) _
  have hr0 : RowC W0 B (polA k u x A n c) 26 := by rw [← hW0, ← hBs]; exact RowC.new _ _ _ _ rfl
  have hl0 := hl.below hb0 (Nat.le_of_eq hBs)
  have ht0 := ht.below hb0 (Nat.le_of_eq hBs)
  have hrt := policyRight_any k u x A l c W0 hl0 hln h12
  rw [hnl] at hrt ⊢
  obtain ⟨rv, hrv⟩ : ∃ rv, rightV k u (l.map RL.val) = rv := ⟨_, rfl⟩
  rw [hrv] at hrt
  have HRT := Lib.hid hrt
  have HRV := Lib.hid hrv
  have HL0 := Lib.hid hl0
  have HT0 := Lib.hid ht0
  have HB0 := Lib.hid hb0
  have HR0 := Lib.hid hr0
  have HW0 := Lib.hid hW0
  have HBS := Lib.hid hBs
  have HNL := Lib.hid hnl
  have HLN := Lib.hid (And.intro hln h12)
  have p0 := hr0.cell 0 (.int .i64 k) rfl
  have p1 := hr0.cell 1 (.int .i64 u) rfl
  have p2 := hr0.cell 2 (.bool x) rfl
  have p3 := hr0.cell 3 (.slice A n c) rfl
  clear hb0 hr0 hl0 ht0 hl ht hrt hrv hnl hln h12
  go_enter Tryz.func17, Tryz.ntmps17
  go_upto_region 1 with fail
  (try rw [HW0.out])
  clear hW0
  go_wp2_with fail
  refine HRT.out.mono ?_
  rintro e w1 ⟨rfl, hB1⟩
  have hS0 : B ≤ W0.heap.size := by have := HB0.out.size; rw [HBS.out] at this; exact this
  have HB1 : Hid (Below B w w1) := Lib.hid (HB0.out.trans (hB1.mono hS0))
  have HL1 := Lib.hid (HL0.out.below hB1 (Nat.le_refl _))
  have HR1 := Lib.hid (HR0.out.below hB1 HR0.out.lt)
  have HRS := Lib.hid (Right_any TA tn tcap T w1 (HT0.out.below hB1 (Nat.le_refl _)))
  have HT1 := Lib.hid (HT0.out.below hB1 (Nat.le_refl _))
  clear hB1 p0 p1 p2 p3 HL0 HR0 HT0 HB0 HRT hS0
  cases rv with
  | false =>
    go_wp2
    go_ret2
    exact ⟨0, 13, rfl, .inl ⟨HRV.out, rfl, rfl⟩, by rw [HBS.out]; exact HB1.out⟩
  | true =>
    go_wp2_with fail
    refine HRS.out.mono ?_
    rintro e w2 ⟨p, q, hpq, rfl, hB2⟩
    have hS1 : B ≤ w1.heap.size := by have := HB1.out.size; rw [HBS.out] at this; exact this
    have HB2 : Hid (Below B w w2) := Lib.hid (HB1.out.trans (hB2.mono hS1))
    have HL2 := Lib.hid (HL1.out.below hB2 (Nat.le_refl _))
    have HR2 := Lib.hid (HR1.out.below hB2 HR1.out.lt)
    have HT2 := Lib.hid (HT1.out.below hB2 (Nat.le_refl _))
    have HPQ := Lib.hid hpq
    have HDM := Lib.hid (demands_any TA tn tcap w2)
    clear hB2 HL1 HR1 HT1 HB1 HRS hpq hS1
    by_cases hq : q = 0
    · subst hq
      have hp0 : p = 0 := by rcases HPQ.out with ⟨_, _, h⟩ | ⟨_, _, _, h, h2⟩ | ⟨_, _, h, _⟩ <;> omega
      subst hp0
      go_wp2_with fail
      refine HDM.out.mono ?_
      rintro e w3 ⟨LB, MB, b, rfl, hlb, hmb, hq3, hne1, hne2, hbb, hl3, hm3, hB3⟩
      obtain ⟨D, hD⟩ : ∃ D, w3.heap.size = D := ⟨_, rfl⟩
      obtain ⟨W4, hW4⟩ : ∃ W, (w3.alloc (.cells #[.nilFunc, .int .i64 0, .nilFunc, .int .i64 0, .nilFunc, .int .i64 0] 77)).setRow D (demA LB MB) = W := ⟨_, rfl⟩
      have hz3 : RowC (w3.alloc (.cells #[.nilFunc, .int .i64 0, .nilFunc, .int .i64 0, .nilFunc, .int .i64 0] 77)) D #[.nilFunc, .int .i64 0, .nilFunc, .int .i64 0, .nilFunc, .int .i64 0] 77 := RowC.new _ _ _ _ hD.symm
      have hb4 : Below w3.heap.size w3 W4 := by rw [← hW4]; exact below_setRow ((Below.refl _ _).alloc (Nat.le_refl _) _) (Nat.le_of_eq hD) _
      have hd4 : RowC W4 D (demA LB MB) 77 := by rw [← hW4]; exact setRow_heap _ _ _ _ _ _ hz3
      have hS2 : B ≤ w2.heap.size := by have := HB2.out.size; rw [HBS.out] at this; exact this
      have hb24 : Below w2.heap.size w2 W4 := bTr hB3 hb4
      have hB4 : Below B w W4 := HB2.out.trans (hb24.mono hS2)
      have hq4 := hq3.below hb4 hq3.lt
      have hbD : b ≠ D := by have := hq3.lt; omega
      have hlb4 := (hb4.cell (p := ⟨LB, 0, none⟩) hl3).trans hlb
      have hmb4 := (hb4.cell (p := ⟨MB, 0, none⟩) hm3).trans hmb
      have hr4 := HR2.out.below hb24 HR2.out.lt
      have hBb : B ≠ b := by have := HR2.out.lt; omega
      have hl4 := HL2.out.below hb24 (Nat.le_refl _)
      have ht4 := HT2.out.below hb24 (Nat.le_refl _)
      have hbw : B ≤ b := by omega
      have HFX : Hid (∀ W, But1 b W4 W → RowC W B (polA k u x A n c) 26 ∧ RowC W D (demA LB MB) 77 ∧ W.cell? ⟨LB, 0, none⟩ = some (.slice TA tn tcap) ∧ W.cell? ⟨MB, 0, none⟩ = some (.map (some b)) ∧ RlL W A l ∧ TbA W TA tn T ∧ Below B w W) := Lib.hid fun W hW => by
        have hbl : Below b W4 W := hW.below (Nat.le_of_lt hq4.lt)
        have hbw2 : Below w2.heap.size w2 W := hb24.trans (hbl.mono hbb)
        exact ⟨hW.row hr4 hBb, hW.row hd4 (fun e => hbD e.symm), hW.cellAt hlb4 hne1, hW.cellAt hmb4 hne2, HL2.out.below hbw2 (Nat.le_refl _), HT2.out.below hbw2 (Nat.le_refl _), hB4.trans (hbl.mono hbw)⟩
      have HZ3 := Lib.hid hz3
      have HW4 : Hid ((w3.alloc (.cells #[.nilFunc, .int .i64 0, .nilFunc, .int .i64 0, .nilFunc, .int .i64 0] 77)).setRow D (demA LB MB) = W4) := Lib.hid hW4
      have HQ4 := Lib.hid hq4
      have HD4 := Lib.hid hd4
      have p3 := hr4.cell 3 (.slice A n c) rfl
      clear hlb hmb hq3 hne1 hne2 hbb hl3 hm3 hB3 hW4 hz3 hb4 hd4 hS2 hb24 hB4 hq4 hbD hlb4 hmb4 hr4 hBb hl4 ht4 hbw
      go_wp2_with (first
        | (refine wpList_store_row (by rfl) 77 _ _ (by rfl) D (demA LB MB) (by rfl) (by rfl) _ _ HZ3.out infoD3 (by rfl) (by simp [demA, Value.oneCell']) ?_; (try rw [HW4.out])))
      clear p3
      go_loopw [28] (fun s wr => ∃ (i : Nat) (S : List Value), i ≤ n ∧ s = .int .i64 i ∧ Hid (But1 b W4 wr ∧ IsReq wr b S ∧ ∀ a f, VC T tn S i ((l.map RL.val).drop i) a f → VC T tn [] 0 (l.map RL.val) a f))
        (fun s _ => n - (intOf s).toNat)
      case atStart => exact ⟨0, [], Nat.zero_le _, rfl, Lib.hid ⟨But1.of (Below.refl _ _) (Nat.le_refl _), HQ4.out, fun a f h => h⟩⟩
      case round =>
        obtain ⟨i, S, hi, rfl, HI⟩ := hrel
        by_cases hlt : i < n
        · skip
          have hrl := (HFX.out wr HI.out.1).2.2.2.2.1
          rcases hrl.1 with h0 | ⟨b2, o2, rfl, hbl, hc⟩
          · have h1 := HNL.out; rw [h0] at h1; simp at h1; omega
          have hil : i < l.length := by rw [HNL.out]; exact hlt
          obtain ⟨q0, q1, q2, q3⟩ := hc i hil
          obtain ⟨r, hr⟩ : ∃ r, l[i]! = r := ⟨_, rfl⟩
          have hrm : r ∈ l := by rw [← hr, getElem!_pos l i hil]; exact List.getElem_mem _
          rw [hr] at q0 q1 q2 q3
          rw [Nat.add_zero] at q0
          have hmay := may_of HRV.out hrm
          have hru := hrl.2 r hrm
          have hdrop : (l.map RL.val).drop i = r.val :: (l.map RL.val).drop (i + 1) := by
            rw [List.drop_eq_getElem_cons (by rw [List.length_map]; exact hil), List.getElem_map, ← hr, getElem!_pos l i hil]
          have HDR := Lib.hid hdrop
          have HMY := Lib.hid hmay
          have HRU : Hid (r.nm.size ≤ maxLen ∧ r.n ≤ r.c ∧ ConA wr r.A r.n r.C) := Lib.hid ⟨hru.1, hru.2.2.2.1, hru.2.2.2.2.2.conA⟩
          obtain ⟨R, hR⟩ : ∃ R, wr.heap.size = R := ⟨_, rfl⟩
          obtain ⟨W5, hW5⟩ : ∃ W, wr.alloc (.cells #[.string r.nm, .int .i64 r.k, .int .i64 r.u, .slice r.A r.n r.c] 50) = W := ⟨_, rfl⟩
          have hb5 : Below R wr W5 := by rw [← hW5, ← hR]; exact (Below.refl _ _).alloc (Nat.le_refl _) _
          have hR5 : RowC W5 R #[.string r.nm, .int .i64 r.k, .int .i64 r.u, .slice r.A r.n r.c] 50 := by rw [← hW5, ← hR]; exact RowC.new _ _ _ _ rfl
          have hG5 : But1 b W4 W5 := HI.out.1.trans (But1.of hb5 (Nat.le_of_eq hR))
          have hq5 := HI.out.2.1.below hb5 (by rw [← hR]; exact HI.out.2.1.lt)
          have hbR : b < R := by rw [← hR]; exact HI.out.2.1.lt
          have HR5 := Lib.hid hR5
          have HBD : Hid (∀ j, j < r.n → (r.C j).m ≤ 18446744073709551615 ∧ (r.C j).v ≤ 18446744073709551615) := Lib.hid fun j hj => by
            rcases hru.2.2.2.2.2.conA with h0 | ⟨_, _, _, _, hcs⟩
            · omega
            · exact (hcs j hj).2.2.2.2
          have HG5 := Lib.hid hG5
          have HQ5 := Lib.hid hq5
          have HC5 : Hid (∀ W, But1 b W4 W → ConA W r.A r.n r.C) := Lib.hid fun W hW => ((HFX.out W hW).2.2.2.2.1.2 r hrm).2.2.2.2.2.conA
          have HD5 := Lib.hid (HFX.out W5 hG5).2.1
          have HBR := Lib.hid hbR
          have HW5 := Lib.hid hW5
          have HRR := Lib.hid hR
          have i1 : (0 : Int) ≤ (i : Int) := by omega
          have i2 : (i : Int) < (n : Int) := by omega
          clear hrl hbl hc hil hr hrm hmay hru hdrop hb5 hR5 hG5 hq5 hbR
          go_upto_region 10 with fail
          (try rw [hR])
          (try rw [hW5])
          clear hW5 hR
          go_wp2_with (refine wpList_load_row (by rfl) 77 _ (by rfl) D (by rfl) _ (demA LB MB) (0, 0) _ HD5.out Tryz.underlying77 (by rfl) infoD3 ?_)
          clear q0 q1 q2 q3 i1 i2
          go_loopw [34] (fun s wq => ∃ kk : Nat, kk ≤ 3 ∧ s = .int .i64 kk ∧ Hid (But1 b W4 wq ∧ RowC wq R #[.string r.nm, .int .i64 r.k, .int .i64 r.u, .slice r.A r.n r.c] 50 ∧ (kk ≤ 2 → IsReq wq b S) ∧ (1 ≤ kk → (List.range tn).any (isN T r.nm) = true) ∧ (2 ≤ kk → r.val.L.any besF = false) ∧ (3 ≤ kk → (.agg (reqN r.nm) ∉ S ∧ reqK r.val ∉ S) ∧ IsReq wq b (S ++ [reqK r.val]))))
            (fun s _ => 3 - (intOf s).toNat)
          case atStart => exact ⟨0, by omega, rfl, Lib.hid ⟨HG5.out, HR5.out, fun _ => HQ5.out, fun h => by omega, fun h => by omega, fun h => by omega⟩⟩
          case round =>
            obtain ⟨kk, hkk, rfl, HJ⟩ := hrel
            have hk4 : kk = 0 ∨ kk = 1 ∨ kk = 2 ∨ kk = 3 := by omega
            clear hkk
            rcases hk4 with rfl | rfl | rfl | rfl
            · obtain ⟨X, hX⟩ : ∃ X, wr.heap.size = X := ⟨_, rfl⟩
              obtain ⟨W6, hW6⟩ : ∃ W, wr.alloc (.cells #[.func (.func 44) #[] #[.pointer (some ⟨LB, 0, none⟩)], .int .i64 14] 76) = W := ⟨_, rfl⟩
              have hb6 : Below wr.heap.size wr W6 := by rw [← hW6]; exact (Below.refl _ _).alloc (Nat.le_refl _) _
              have hd6 : RowC W6 X #[.func (.func 44) #[] #[.pointer (some ⟨LB, 0, none⟩)], .int .i64 14] 76 := by rw [← hW6, ← hX]; exact RowC.new _ _ _ _ rfl
              have hr6 : RowC W6 R #[.string r.nm, .int .i64 r.k, .int .i64 r.u, .slice r.A r.n r.c] 50 := HJ.out.2.1.below hb6 HJ.out.2.1.lt
              have hg6 : But1 b W4 W6 := HJ.out.1.trans (But1.of hb6 (Nat.le_refl _))
              have hq6 : IsReq W6 b S := (HJ.out.2.2.1 (by omega)).below hb6 (HJ.out.2.2.1 (by omega)).lt
              have KD := Lib.hid (demN_any r.nm r.k r.u r.A r.n r.c LB TA tn tcap T W6 (HFX.out W6 hg6).2.2.1 htn (HFX.out W6 hg6).2.2.2.2.2.1)
              have HD6 := Lib.hid hd6
              have HR6 := Lib.hid hr6
              have HG6 := Lib.hid hg6
              have HQ6 := Lib.hid hq6
              have HW6 := Lib.hid hW6
              have hix := ixD0 LB MB
              have d0 := hd6.cell 0 (.func (.func 44) #[] #[.pointer (some ⟨LB, 0, none⟩)]) rfl
              have c0 := hr6.cell 0 (.string r.nm) rfl
              have c1 := hr6.cell 1 (.int .i64 r.k) rfl
              have c2 := hr6.cell 2 (.int .i64 r.u) rfl
              have c3 := hr6.cell 3 (.slice r.A r.n r.c) rfl
              clear hb6 hd6 hr6 hg6 hq6
              go_upto_region 13 with fail
              (try rw [hX])
              (try rw [hW6])
              clear hix hX hW6
              go_wp2_with (go_at_call 44; refine KD.out.mono ?_; rintro e w7 ⟨rfl, hB7⟩; cases hbl : (List.range tn).any (isN T r.nm))
              · have HG7 : Hid (But1 b W4 w7) := Lib.hid (HG6.out.trans (But1.of hB7 (Nat.le_refl _)))
                have d1 := (HD6.out.below hB7 HD6.out.lt).cell 1 (.int .i64 14) rfl
                have HV : Hid (VC T tn [] 0 (l.map RL.val) i 14) := Lib.hid (HI.out.2.2 i 14 (by rw [HDR.out]; exact VC.name S i r.val _ hbl))
                clear hB7 hbl
                go_region
                all_goals go_wp2
                all_goals go_ret2
                all_goals exact ⟨i, 14, rfl, .inr ⟨HRV.out, .inr ⟨HPQ.out, HV.out⟩⟩, by rw [HBS.out]; exact (HFX.out _ HG7.out).2.2.2.2.2.2.drew⟩
              · have HG7 : Hid (But1 b W4 w7) := Lib.hid (HG6.out.trans (But1.of hB7 (Nat.le_refl _)))
                exact ⟨⟨0 + 1, by omega, by go_num, Lib.hid ⟨HG7.out, HR6.out.below hB7 HR6.out.lt, fun _ => HQ6.out.below hB7 HQ6.out.lt, fun _ => hbl, fun h => by omega, fun h => by omega⟩⟩, by simp [intOf]⟩
            · obtain ⟨X, hX⟩ : ∃ X, wr.heap.size = X := ⟨_, rfl⟩
              obtain ⟨W6, hW6⟩ : ∃ W, wr.alloc (.cells #[.func (.func 46) #[] #[], .int .i64 16] 76) = W := ⟨_, rfl⟩
              have hb6 : Below wr.heap.size wr W6 := by rw [← hW6]; exact (Below.refl _ _).alloc (Nat.le_refl _) _
              have hd6 : RowC W6 X #[.func (.func 46) #[] #[], .int .i64 16] 76 := by rw [← hW6, ← hX]; exact RowC.new _ _ _ _ rfl
              have hr6 : RowC W6 R #[.string r.nm, .int .i64 r.k, .int .i64 r.u, .slice r.A r.n r.c] 50 := HJ.out.2.1.below hb6 HJ.out.2.1.lt
              have hg6 : But1 b W4 W6 := HJ.out.1.trans (But1.of hb6 (Nat.le_refl _))
              have hq6 : IsReq W6 b S := (HJ.out.2.2.1 (by omega)).below hb6 (HJ.out.2.2.1 (by omega)).lt
              have KD := Lib.hid (demB_any r.nm r.k r.u r.A r.n r.c r.C W6 (by have := HMY.out.1; omega) (HC5.out W6 hg6))
              have HD6 := Lib.hid hd6
              have HR6 := Lib.hid hr6
              have HG6 := Lib.hid hg6
              have HQ6 := Lib.hid hq6
              have HW6 := Lib.hid hW6
              have hix := ixD1 LB MB
              have d0 := hd6.cell 0 (.func (.func 46) #[] #[]) rfl
              have c0 := hr6.cell 0 (.string r.nm) rfl
              have c1 := hr6.cell 1 (.int .i64 r.k) rfl
              have c2 := hr6.cell 2 (.int .i64 r.u) rfl
              have c3 := hr6.cell 3 (.slice r.A r.n r.c) rfl
              clear hb6 hd6 hr6 hg6 hq6
              go_upto_region 13 with fail
              (try rw [hX])
              (try rw [hW6])
              clear hix hX hW6
              go_wp2_with (go_at_call 46; refine KD.out.mono ?_; rintro e w7 ⟨rfl, hB7⟩; cases hbl : ((List.range r.n).map r.C).any besF)
              · have HG7 : Hid (But1 b W4 w7) := Lib.hid (HG6.out.trans (But1.of hB7 (Nat.le_refl _)))
                exact ⟨⟨1 + 1, by omega, by go_num, Lib.hid ⟨HG7.out, HR6.out.below hB7 HR6.out.lt, fun _ => HQ6.out.below hB7 HQ6.out.lt, fun _ => HJ.out.2.2.2.1 (by omega), fun _ => hbl, fun h => by omega⟩⟩, by simp [intOf]⟩
              · have HG7 : Hid (But1 b W4 w7) := Lib.hid (HG6.out.trans (But1.of hB7 (Nat.le_refl _)))
                have d1 := (HD6.out.below hB7 HD6.out.lt).cell 1 (.int .i64 16) rfl
                have HV : Hid (VC T tn [] 0 (l.map RL.val) i 16) := Lib.hid (HI.out.2.2 i 16 (by rw [HDR.out]; exact VC.bes S i r.val _ (HJ.out.2.2.2.1 (by omega)) hbl))
                clear hB7 hbl
                go_region
                all_goals go_wp2
                all_goals go_ret2
                all_goals exact ⟨i, 16, rfl, .inr ⟨HRV.out, .inr ⟨HPQ.out, HV.out⟩⟩, by rw [HBS.out]; exact (HFX.out _ HG7.out).2.2.2.2.2.2.drew⟩
            · obtain ⟨X, hX⟩ : ∃ X, wr.heap.size = X := ⟨_, rfl⟩
              obtain ⟨W6, hW6⟩ : ∃ W, wr.alloc (.cells #[.func (.func 49) #[] #[.pointer (some ⟨MB, 0, none⟩)], .int .i64 15] 76) = W := ⟨_, rfl⟩
              have hb6 : Below wr.heap.size wr W6 := by rw [← hW6]; exact (Below.refl _ _).alloc (Nat.le_refl _) _
              have hd6 : RowC W6 X #[.func (.func 49) #[] #[.pointer (some ⟨MB, 0, none⟩)], .int .i64 15] 76 := by rw [← hW6, ← hX]; exact RowC.new _ _ _ _ rfl
              have hr6 : RowC W6 R #[.string r.nm, .int .i64 r.k, .int .i64 r.u, .slice r.A r.n r.c] 50 := HJ.out.2.1.below hb6 HJ.out.2.1.lt
              have hg6 : But1 b W4 W6 := HJ.out.1.trans (But1.of hb6 (Nat.le_refl _))
              have hq6 : IsReq W6 b S := (HJ.out.2.2.1 (by omega)).below hb6 (HJ.out.2.2.1 (by omega)).lt
              have KD := Lib.hid (demM_any r.nm r.k r.u r.A r.n r.c r.C MB b S W6 HMY.out.1 HRU.out.2.1 (HC5.out W6 hg6) HRU.out.1 (fun j hj => wf_ric (HMY.out.2 j hj) (HBD.out j hj).1 (HBD.out j hj).2) hq6 (HFX.out W6 hg6).2.2.2.1 _ rfl)
              have HD6 := Lib.hid hd6
              have HXB : Hid (X ≠ b) := Lib.hid (by have := (HJ.out.2.2.1 (by omega)).lt; omega)
              have HR6 := Lib.hid hr6
              have HG6 := Lib.hid hg6
              have HQ6 := Lib.hid hq6
              have HW6 := Lib.hid hW6
              have hix := ixD2 LB MB
              have d0 := hd6.cell 0 (.func (.func 49) #[] #[.pointer (some ⟨MB, 0, none⟩)]) rfl
              have c0 := hr6.cell 0 (.string r.nm) rfl
              have c1 := hr6.cell 1 (.int .i64 r.k) rfl
              have c2 := hr6.cell 2 (.int .i64 r.u) rfl
              have c3 := hr6.cell 3 (.slice r.A r.n r.c) rfl
              clear hb6 hd6 hr6 hg6 hq6
              go_upto_region 13 with fail
              (try rw [hX])
              (try rw [hW6])
              clear hix hX hW6
              go_wp2_with (go_at_call 49; refine KD.out.mono ?_; rintro e w7 ⟨hG7, ⟨hin, rfl, hq7⟩ | ⟨hin, rfl, hq7⟩⟩)
              · have HG7 : Hid (But1 b W4 w7) := Lib.hid (HG6.out.trans hG7)
                have d1 := (hG7.row HD6.out HXB.out).cell 1 (.int .i64 15) rfl
                have HV : Hid (VC T tn [] 0 (l.map RL.val) i 15) := Lib.hid (HI.out.2.2 i 15 (by rw [HDR.out]; exact VC.twice S i r.val _ (HJ.out.2.2.2.1 (by omega)) (HJ.out.2.2.2.2.1 (by omega)) hin))
                clear hG7 hin hq7
                go_region
                all_goals go_wp2
                all_goals go_ret2
                all_goals exact ⟨i, 15, rfl, .inr ⟨HRV.out, .inr ⟨HPQ.out, HV.out⟩⟩, by rw [HBS.out]; exact (HFX.out _ HG7.out).2.2.2.2.2.2.drew⟩
              · exact ⟨⟨2 + 1, by omega, by go_num, Lib.hid ⟨HG6.out.trans hG7, hG7.row HR6.out (Nat.ne_of_gt HBR.out), fun h => by omega, fun _ => HJ.out.2.2.2.1 (by omega), fun _ => HJ.out.2.2.2.2.1 (by omega), fun _ => ⟨hin, hq7⟩⟩⟩, by simp [intOf]⟩
            · have HN : Hid (∀ a f, VC T tn (S ++ [reqK r.val]) (i + 1) ((l.map RL.val).drop (i + 1)) a f → VC T tn [] 0 (l.map RL.val) a f) := Lib.hid fun a f h => HI.out.2.2 a f (by
                rw [HDR.out]
                exact VC.go S i r.val _ a f (HJ.out.2.2.2.1 (by omega)) (HJ.out.2.2.2.2.1 (by omega)) (HJ.out.2.2.2.2.2 (by omega)).1 h)
              have hn1 : n ≤ 1000 := by have := HNL.out; have := HLN.out.1; omega
              go_wp2
              exact ⟨⟨i + 1, S ++ [reqK r.val], by omega, by go_num, Lib.hid ⟨HJ.out.1, (HJ.out.2.2.2.2.2 (by omega)).2, HN.out⟩⟩, by simp [intOf]; omega⟩
        · obtain rfl : i = n := by omega
          have hend : VC T tn [] 0 (l.map RL.val) 0 0 := HI.out.2.2 0 0 (by
            rw [List.drop_eq_nil_of_le (by rw [List.length_map, HNL.out]; exact Nat.le_refl _)]
            exact VC.nil _ _)
          have HEND := Lib.hid hend
          clear hend
          go_wp2
          go_ret2
          exact ⟨0, 0, rfl, .inr ⟨HRV.out, .inr ⟨HPQ.out, HEND.out⟩⟩, by rw [HBS.out]; exact (HFX.out wr HI.out.1).2.2.2.2.2.2⟩
    · have hqz : ((q : Int) != 0) = true := by simpa using hq
      have HQ := Lib.hid hq
      clear hq
      go_wp2
      go_ret2
      exact ⟨0, 18, rfl, .inr ⟨HRV.out, .inl ⟨⟨p, q, HPQ.out, HQ.out⟩, rfl, rfl⟩⟩, by rw [HBS.out]; exact HB2.out⟩
end Go.Proofs.YtccklmleaffgiaaGreatDoor
