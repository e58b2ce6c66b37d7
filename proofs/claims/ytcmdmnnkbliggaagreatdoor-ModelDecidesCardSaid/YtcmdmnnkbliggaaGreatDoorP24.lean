/-
  Layer 17: the program's action and Judge.
-/
import Derived.Test.YtcmdmnnkbliggaaGreatDoorP21
import Derived.Test.YtcmdmnnkbliggaaGreatDoorP22
import Derived.Test.YtcmdmnnkbliggaaGreatDoorP11
import Derived.Test.YtcmdmnnkbliggaaGreatDoorRkp
import Derived.Test.YtcmdmnnkbliggaaGreatDoorP12
namespace Go.Proofs.YtcmdmnnkbliggaaGreatDoor
open Go.RowKit Go.Shelf
set_option linter.unusedVariables false

/-- The code of a right action. -/
def codeOf (d : Int × Int) : Nat := kcA (d.1 - 1).toNat + d.2.toNat
theorem code_lt17 {d : Int × Int} (h : actB d.1 d.2 = true) : codeOf d < 4294967296 := by
  obtain ⟨j, hj, hk, hm⟩ := actB_ok h
  have h1 := code_lt hm
  have h2 := may_bd hm
  unfold codeOf
  rw [show (d.1 - 1).toNat = j by omega]
  omega
theorem actCode_any {d : Int × Int} (h : actB d.1 d.2 = true) (w : World) : Calls Tryz.prog 70 #[.agg #[.int .i64 d.1, .int .i64 d.2]] w fun e w' => e = .returned (.tuple #[.int .u32 (codeOf d : Nat), .int .i64 0]) ∧ Below w.heap.size w w' := by
  obtain ⟨k, u⟩ := d
  obtain ⟨j, hj, hk, hm⟩ := actB_ok h
  have h2 := may_bd hm
  simp only at hk hm h2 ⊢
  subst hk
  have hc : ((codeOf ((j : Int) + 1, u) : Nat) : Int) = (kcA j : Int) + u := by
    unfold codeOf
    simp only
    rw [show ((j : Int) + 1 - 1).toNat = j by omega]
    omega
  rw [hc]
  exact code_ok j hj u hm w
/-- What is done with a record, by its call. -/
def actF (k u : Int) (x : Bool) (L : List RV) (sm : Bool) (ab : Nat) (nm : ByteArray) (mu : Bool) (q : Nat → Nat) : Int × Int :=
  if (!sm || (ab == 1 && !x)) = true then (1, 0) else if nm = ⟨#[]⟩ then (k, u) else if mu = true then bliF k u L nm else decF k u L nm fun i => argF ab (q i)
theorem act_mem {k u : Int} {L : List RV} (h : rightV k u L = true) : actB k u = true ∧ ∀ r ∈ L, actB r.k r.u = true := by
  unfold rightV at h
  simp only [Bool.and_eq_true, decide_eq_true_eq, List.all_eq_true] at h
  refine ⟨h.1, fun r hr => ?_⟩
  have h2 := h.2.2 r hr
  unfold mayV at h2
  simp only [Bool.and_eq_true, decide_eq_true_eq, List.all_eq_true] at h2
  exact h2.2.1
theorem decF_right {k u : Int} {L : List RV} (h : rightV k u L = true) (nm : ByteArray) (f : Nat → Nat) : actB (decF k u L nm f).1 (decF k u L nm f).2 = true := by
  unfold decF
  rcases hf : L.find? (rulH nm f) with _ | r
  · exact (act_mem h).1
  · exact (act_mem h).2 r (List.mem_of_find?_eq_some hf)
theorem bliF_right {k u : Int} {L : List RV} (h : rightV k u L = true) (nm : ByteArray) : actB (bliF k u L nm).1 (bliF k u L nm).2 = true := by
  unfold bliF
  rcases hf : L.find? (fun r => decide (r.nm = nm)) with _ | r
  · rw [hf]; exact (act_mem h).1
  · rw [hf]
    show actB (if r.L.isEmpty = true then (r.k, r.u) else (k, u)).1 (if r.L.isEmpty = true then (r.k, r.u) else (k, u)).2 = true
    split
    · exact (act_mem h).2 r (List.mem_of_find?_eq_some hf)
    · exact (act_mem h).1
theorem actF_right {k u : Int} {L : List RV} (h : rightV k u L = true) (x sm : Bool) (ab : Nat) (nm : ByteArray) (mu : Bool) (q : Nat → Nat) : actB (actF k u x L sm ab nm mu q).1 (actF k u x L sm ab nm mu q).2 = true := by
  unfold actF
  repeat' split
  · decide
  · exact (act_mem h).1
  · exact bliF_right h nm
  · exact decF_right h nm _
set_option maxRecDepth 100000 in
set_option maxHeartbeats 8000000 in
theorem action_any (k u : Int) (x : Bool) (A : Option Addr) (l : List RL) (c : Nat) (sm : Bool) (ab : Nat) (nm : ByteArray) (mu : Bool) (r : RecV) (w : World) (hl : RlL w A l) (hln : l.length ≤ 1000) (h12 : ∀ e ∈ l, e.n ≤ 100000) (hri : ∀ r ∈ l, BoR r.val) (hr : r.ok) :
    Calls Tryz.prog 71 #[.agg (polA k u x A l.length c), .agg #[.bool sm, .int .i64 ab, .string nm, .bool mu], .agg (rcells r)] w fun e w' => e = .returned (.agg #[.int .i64 (actF k u x (l.map RL.val) sm ab nm mu r.q).1, .int .i64 (actF k u x (l.map RL.val) sm ab nm mu r.q).2]) ∧ Below w.heap.size w w' := by
  obtain ⟨n, hnl⟩ : ∃ n, l.length = n := ⟨_, rfl⟩
  obtain ⟨B, hBs⟩ : ∃ B, w.heap.size = B := ⟨_, rfl⟩
  obtain ⟨L, hL⟩ : ∃ L, l.map RL.val = L := ⟨_, rfl⟩
  obtain ⟨D1, D2, hD⟩ : ∃ D1 D2, actF k u x L sm ab nm mu r.q = (D1, D2) := ⟨_, _, rfl⟩
  rw [hL, hD]
  simp only
  obtain ⟨W0, hW0⟩ : ∃ W, (((w.alloc (.cells (polA k u x A n c) 26)).alloc (.cells #[.bool sm, .int .i64 ab, .string nm, .bool mu] 88)).alloc (.cells (rcells r) 78)).alloc (.cells #[.int .i64 0, .int .i64 0] 23) = W := ⟨_, rfl⟩
  have hb0 : Below B w W0 := by rw [← hW0, ← hBs]; exact ((((Below.refl _ _).alloc (Nat.le_refl _) _).alloc (by simp) _).alloc (by simp; omega) _).alloc (by simp; omega) _
  have hp0 : RowC W0 B (polA k u x A n c) 26 := by rw [← hW0, ← hBs]; exact (((RowC.new _ _ _ _ rfl).alloc _).alloc _).alloc _
  have hc0 : RowC W0 (B + 1) #[.bool sm, .int .i64 ab, .string nm, .bool mu] 88 := by rw [← hW0, ← hBs]; exact ((RowC.new _ _ _ _ (by simp)).alloc _).alloc _
  have hr0 : RowC W0 (B + 2) (rcells r) 78 := by rw [← hW0, ← hBs]; exact (RowC.new _ _ _ _ (by simp)).alloc _
  have hz0 : RowC W0 (B + 3) #[.int .i64 0, .int .i64 0] 23 := by rw [← hW0, ← hBs]; exact RowC.new _ _ _ _ (by simp)
  have hS0 : B + 4 = W0.heap.size := by rw [← hW0, ← hBs]; simp
  have hl0 := hl.below hb0 (Nat.le_of_eq hBs)
  have kb := blind_any k u x A l c nm W0 hl0 hln h12
  have kd := fun (W : World) (hW : Below W0.heap.size W0 W) => decide_any k u x A l c nm (fun i => argF ab (r.q i)) W (hl0.below hW (Nat.le_refl _)) hln h12 hri (fun i => by have := hr.2.2.2 i; unfold argF; split <;> omega)
  rw [hL, hnl] at kb
  rw [hL, hnl] at kd
  rw [hnl]
  have KB := Lib.hid kb
  have KD := Lib.hid kd
  have KA := Lib.hid fun W => args_any ab r.n r.a r.p r.q W (fun i _ => hr.2.2.2 i)
  have HD := Lib.hid hD
  have HW0 := Lib.hid hW0
  have HBS := Lib.hid hBs
  have HB0 := Lib.hid hb0
  have HZ0 := Lib.hid hz0
  have HS0 := Lib.hid hS0
  have p0 := hp0.cell 0 (.int .i64 k) rfl
  have p1 := hp0.cell 1 (.int .i64 u) rfl
  have p2 := hp0.cell 2 (.bool x) rfl
  have p3 := hp0.cell 3 (.slice A n c) rfl
  have c0 := hc0.cell 0 (.bool sm) rfl
  have c1 := hc0.cell 1 (.int .i64 ab) rfl
  have c2 := hc0.cell 2 (.string nm) rfl
  have c3 := hc0.cell 3 (.bool mu) rfl
  have d0 := hr0.cell 0 (.int .u32 r.n) rfl
  have d1 := hr0.cell 1 (.int .u32 r.a) rfl
  have d2 := hr0.cell 2 (.int .u64 r.p) rfl
  have d3 := hr0.cell 3 (.int .u64 (r.q 0)) rfl
  have d4 := hr0.cell 4 (.int .u64 (r.q 1)) rfl
  have d5 := hr0.cell 5 (.int .u64 (r.q 2)) rfl
  have d6 := hr0.cell 6 (.int .u64 (r.q 3)) rfl
  have d7 := hr0.cell 7 (.int .u64 (r.q 4)) rfl
  have d8 := hr0.cell 8 (.int .u64 (r.q 5)) rfl
  have HFX : Hid (∀ W, Below W0.heap.size W0 W → RowC W B (polA k u x A n c) 26 ∧ RowC W (B + 1) #[.bool sm, .int .i64 ab, .string nm, .bool mu] 88 ∧ RowC W (B + 2) (rcells r) 78 ∧ RowC W (B + 3) #[.int .i64 0, .int .i64 0] 23 ∧ Below B w W) := Lib.hid fun W hW => ⟨hp0.below hW hp0.lt, hc0.below hW hc0.lt, hr0.below hW hr0.lt, hz0.below hW hz0.lt, hb0.trans (hW.mono (by omega))⟩
  clear hb0 hp0 hc0 hr0 hz0 hl0 hl hnl hL hD h12 hri hr hS0 kb kd
  unfold rcells at HW0 hW0 ⊢
  go_enter Tryz.func71, Tryz.ntmps71
  go_upto_region 1 with fail
  (try rw [HW0.out])
  (try rw [hBs])
  clear hW0 hBs
  have hst : ∀ (d1 d2 : Int) (Wx : World), True := fun _ _ _ => trivial
  by_cases hk : (!sm || (ab == 1 && !x)) = true
  · have hd := HD.out
    unfold actF at hd
    rw [if_pos hk] at hd
    obtain ⟨e1, e2⟩ := Prod.mk.inj hd
    subst e1 e2
    have HZ := Lib.hid (HFX.out W0 (Below.refl _ _))
    clear hd hst HD
    cases sm with
    | false =>
      clear hk
      go_wp2_with (refine wpList_store_row (by rfl) 23 _ _ (by rfl) (B + 3) #[.int .i64 1, .int .i64 0] (by rfl) (by rfl) _ _ HZ.out.2.2.2.1 (show _ = some 2 from infoActP) (by rfl) (by simp [Value.oneCell']) ?_)
      exact bodyPost_ret (results_cell_row Tryz.results71 _ _ (B + 3) _ #[.int .i64 1, .int .i64 0] (0, 0) _ (by rfl) (setRow_heap _ _ _ _ _ _ HZ.out.2.2.2.1) Tryz.underlying23 (by rfl) (show _ = some 2 from infoActP)) rfl ⟨rfl, by rw [HBS.out]; exact below_setRow HZ.out.2.2.2.2 (by omega) _⟩
    | true =>
      have hk2 : ab = 1 ∧ x = false := by simpa using hk
      obtain ⟨rfl, rfl⟩ := hk2
      clear hk
      go_wp2_with (refine wpList_store_row (by rfl) 23 _ _ (by rfl) (B + 3) #[.int .i64 1, .int .i64 0] (by rfl) (by rfl) _ _ HZ.out.2.2.2.1 (show _ = some 2 from infoActP) (by rfl) (by simp [Value.oneCell']) ?_)
      exact bodyPost_ret (results_cell_row Tryz.results71 _ _ (B + 3) _ #[.int .i64 1, .int .i64 0] (0, 0) _ (by rfl) (setRow_heap _ _ _ _ _ _ HZ.out.2.2.2.1) Tryz.underlying23 (by rfl) (show _ = some 2 from infoActP)) rfl ⟨rfl, by rw [HBS.out]; exact below_setRow HZ.out.2.2.2.2 (by omega) _⟩
  have hsm : sm = true := by cases sm <;> simp_all
  subst hsm
  have hkx : (((ab : Int) == 1) && !x) = false := by
    rw [show ((ab : Int) == 1) = (ab == 1) by rw [Bool.eq_iff_iff]; simp; omega]
    simpa using hk
  have hd := HD.out
  unfold actF at hd
  rw [if_neg hk] at hd
  clear hk HD
  obtain ⟨b1, hb1⟩ : ∃ b1, ((ab : Int) == 1) = b1 := ⟨_, rfl⟩
  rw [hb1] at hkx
  by_cases hn0 : nm = ⟨#[]⟩
  · rw [if_pos hn0] at hd
    obtain ⟨e1, e2⟩ := Prod.mk.inj hd
    rw [e1] at p0
    rw [e2] at p1
    subst hn0
    have HZ := Lib.hid (HFX.out W0 (Below.refl _ _))
    clear hd hst e1 e2
    cases b1 <;> cases x <;> simp only [Bool.true_and, Bool.false_and, Bool.not_false, Bool.not_true, reduceCtorEq] at hkx
    all_goals go_wp2_with (refine wpList_store_row (by rfl) 23 _ _ (by rfl) (B + 3) #[.int .i64 D1, .int .i64 D2] (by rfl) (by rfl) _ _ HZ.out.2.2.2.1 (show _ = some 2 from infoActP) (by rfl) (by simp [Value.oneCell']) ?_)
    all_goals exact bodyPost_ret (results_cell_row Tryz.results71 _ _ (B + 3) _ #[.int .i64 D1, .int .i64 D2] (0, 0) _ (by rfl) (setRow_heap _ _ _ _ _ _ HZ.out.2.2.2.1) Tryz.underlying23 (by rfl) (show _ = some 2 from infoActP)) rfl ⟨rfl, by rw [HBS.out]; exact below_setRow HZ.out.2.2.2.2 (by omega) _⟩
  · rw [if_neg hn0] at hd
    clear hst
    have hne : nm.toList.isEmpty = false := by
      rw [Lib.toList_data]
      rcases hq : nm.data.toList with _ | ⟨a, t⟩
      · exact absurd (ByteArray.ext (Array.toList_inj.1 hq)) hn0
      · rfl
    clear hn0
    cases b1 <;> cases x <;> simp only [Bool.true_and, Bool.false_and, Bool.not_false, Bool.not_true, reduceCtorEq] at hkx
    · cases mu with
      | true =>
        have hd1 : bliF k u L nm = (D1, D2) := hd
        have kb := KB.out
        rw [hd1] at kb
        have KB1 := Lib.hid kb
        clear hd hd1 kb KB
        go_wp2_with fail
        refine KB1.out.mono ?_
        rintro e w1 ⟨rfl, hB1⟩
        have HZ := Lib.hid (HFX.out w1 hB1)
        clear hB1
        go_wp2_with (refine wpList_store_row (by rfl) 23 _ _ (by rfl) (B + 3) #[.int .i64 D1, .int .i64 D2] (by rfl) (by rfl) _ _ HZ.out.2.2.2.1 (show _ = some 2 from infoActP) (by rfl) (by simp [Value.oneCell']) ?_)
        exact bodyPost_ret (results_cell_row Tryz.results71 _ _ (B + 3) _ #[.int .i64 D1, .int .i64 D2] (0, 0) _ (by rfl) (setRow_heap _ _ _ _ _ _ HZ.out.2.2.2.1) Tryz.underlying23 (by rfl) (show _ = some 2 from infoActP)) rfl ⟨rfl, by rw [HBS.out]; exact below_setRow HZ.out.2.2.2.2 (by omega) _⟩
      | false =>
        have hd1 : decF k u L nm (fun i => argF ab (r.q i)) = (D1, D2) := hd
        have kd := KD.out
        simp only [hd1] at kd
        have KD1 := Lib.hid kd
        have HM : Hid (∀ w', Below W0.heap.size W0 w' → w'.cell? ⟨B, 0, none⟩ = some (.int .i64 k) ∧ w'.cell? ⟨B, 1, none⟩ = some (.int .i64 u) ∧ w'.cell? ⟨B, 2, none⟩ = some (.bool false) ∧ w'.cell? ⟨B, 3, none⟩ = some (.slice A n c) ∧ w'.cell? ⟨B + 1, 1, none⟩ = some (.int .i64 ab) ∧ w'.cell? ⟨B + 1, 2, none⟩ = some (.string nm) ∧ w'.cell? ⟨B + 2, 0, none⟩ = some (.int .u32 r.n) ∧ w'.cell? ⟨B + 2, 1, none⟩ = some (.int .u32 r.a) ∧ w'.cell? ⟨B + 2, 2, none⟩ = some (.int .u64 r.p) ∧ w'.cell? ⟨B + 2, 3, none⟩ = some (.int .u64 (r.q 0)) ∧ w'.cell? ⟨B + 2, 4, none⟩ = some (.int .u64 (r.q 1)) ∧ w'.cell? ⟨B + 2, 5, none⟩ = some (.int .u64 (r.q 2)) ∧ w'.cell? ⟨B + 2, 6, none⟩ = some (.int .u64 (r.q 3)) ∧ w'.cell? ⟨B + 2, 7, none⟩ = some (.int .u64 (r.q 4)) ∧ w'.cell? ⟨B + 2, 8, none⟩ = some (.int .u64 (r.q 5))) := Lib.hid fun W hW => by
          obtain ⟨h1, h2, h3, _⟩ := HFX.out W hW
          exact ⟨h1.cell 0 _ rfl, h1.cell 1 _ rfl, h1.cell 2 _ rfl, h1.cell 3 _ rfl, h2.cell 1 _ rfl, h2.cell 2 _ rfl, h3.cell 0 _ rfl, h3.cell 1 _ rfl, h3.cell 2 _ rfl, h3.cell 3 _ rfl, h3.cell 4 _ rfl, h3.cell 5 _ rfl, h3.cell 6 _ rfl, h3.cell 7 _ rfl, h3.cell 8 _ rfl⟩
        have HM2 : Hid (∀ w', Below W0.heap.size W0 w' → ((w'.setCell ⟨B + 1 + 1 + 1, 0, none⟩ (.int .i64 D1)).setCell ⟨B + 1 + 1 + 1, 1, none⟩ (.int .i64 D2)).cell? ⟨B, 0, none⟩ = some (.int .i64 k) ∧ ((w'.setCell ⟨B + 1 + 1 + 1, 0, none⟩ (.int .i64 D1)).setCell ⟨B + 1 + 1 + 1, 1, none⟩ (.int .i64 D2)).cell? ⟨B, 1, none⟩ = some (.int .i64 u) ∧ ((w'.setCell ⟨B + 1 + 1 + 1, 0, none⟩ (.int .i64 D1)).setCell ⟨B + 1 + 1 + 1, 1, none⟩ (.int .i64 D2)).cell? ⟨B, 2, none⟩ = some (.bool false) ∧ ((w'.setCell ⟨B + 1 + 1 + 1, 0, none⟩ (.int .i64 D1)).setCell ⟨B + 1 + 1 + 1, 1, none⟩ (.int .i64 D2)).cell? ⟨B, 3, none⟩ = some (.slice A n c) ∧ ((w'.setCell ⟨B + 1 + 1 + 1, 0, none⟩ (.int .i64 D1)).setCell ⟨B + 1 + 1 + 1, 1, none⟩ (.int .i64 D2)).cell? ⟨B + 1, 1, none⟩ = some (.int .i64 ab) ∧ ((w'.setCell ⟨B + 1 + 1 + 1, 0, none⟩ (.int .i64 D1)).setCell ⟨B + 1 + 1 + 1, 1, none⟩ (.int .i64 D2)).cell? ⟨B + 1, 2, none⟩ = some (.string nm) ∧ ((w'.setCell ⟨B + 1 + 1 + 1, 0, none⟩ (.int .i64 D1)).setCell ⟨B + 1 + 1 + 1, 1, none⟩ (.int .i64 D2)).cell? ⟨B + 2, 0, none⟩ = some (.int .u32 r.n) ∧ ((w'.setCell ⟨B + 1 + 1 + 1, 0, none⟩ (.int .i64 D1)).setCell ⟨B + 1 + 1 + 1, 1, none⟩ (.int .i64 D2)).cell? ⟨B + 2, 1, none⟩ = some (.int .u32 r.a) ∧ ((w'.setCell ⟨B + 1 + 1 + 1, 0, none⟩ (.int .i64 D1)).setCell ⟨B + 1 + 1 + 1, 1, none⟩ (.int .i64 D2)).cell? ⟨B + 2, 2, none⟩ = some (.int .u64 r.p) ∧ ((w'.setCell ⟨B + 1 + 1 + 1, 0, none⟩ (.int .i64 D1)).setCell ⟨B + 1 + 1 + 1, 1, none⟩ (.int .i64 D2)).cell? ⟨B + 2, 3, none⟩ = some (.int .u64 (r.q 0)) ∧ ((w'.setCell ⟨B + 1 + 1 + 1, 0, none⟩ (.int .i64 D1)).setCell ⟨B + 1 + 1 + 1, 1, none⟩ (.int .i64 D2)).cell? ⟨B + 2, 4, none⟩ = some (.int .u64 (r.q 1)) ∧ ((w'.setCell ⟨B + 1 + 1 + 1, 0, none⟩ (.int .i64 D1)).setCell ⟨B + 1 + 1 + 1, 1, none⟩ (.int .i64 D2)).cell? ⟨B + 2, 5, none⟩ = some (.int .u64 (r.q 2)) ∧ ((w'.setCell ⟨B + 1 + 1 + 1, 0, none⟩ (.int .i64 D1)).setCell ⟨B + 1 + 1 + 1, 1, none⟩ (.int .i64 D2)).cell? ⟨B + 2, 6, none⟩ = some (.int .u64 (r.q 3)) ∧ ((w'.setCell ⟨B + 1 + 1 + 1, 0, none⟩ (.int .i64 D1)).setCell ⟨B + 1 + 1 + 1, 1, none⟩ (.int .i64 D2)).cell? ⟨B + 2, 7, none⟩ = some (.int .u64 (r.q 4)) ∧ ((w'.setCell ⟨B + 1 + 1 + 1, 0, none⟩ (.int .i64 D1)).setCell ⟨B + 1 + 1 + 1, 1, none⟩ (.int .i64 D2)).cell? ⟨B + 2, 8, none⟩ = some (.int .u64 (r.q 5))) := Lib.hid fun W hW => by
          obtain ⟨g1, g2, g3, _⟩ := HFX.out W hW
          have h1 := (g1.setOther (g := B + 1 + 1 + 1) 0 (.int .i64 D1) (by omega)).setOther (g := B + 1 + 1 + 1) 1 (.int .i64 D2) (by omega)
          have h2 := (g2.setOther (g := B + 1 + 1 + 1) 0 (.int .i64 D1) (by omega)).setOther (g := B + 1 + 1 + 1) 1 (.int .i64 D2) (by omega)
          have h3 := (g3.setOther (g := B + 1 + 1 + 1) 0 (.int .i64 D1) (by omega)).setOther (g := B + 1 + 1 + 1) 1 (.int .i64 D2) (by omega)
          exact ⟨h1.cell 0 _ rfl, h1.cell 1 _ rfl, h1.cell 2 _ rfl, h1.cell 3 _ rfl, h2.cell 1 _ rfl, h2.cell 2 _ rfl, h3.cell 0 _ rfl, h3.cell 1 _ rfl, h3.cell 2 _ rfl, h3.cell 3 _ rfl, h3.cell 4 _ rfl, h3.cell 5 _ rfl, h3.cell 6 _ rfl, h3.cell 7 _ rfl, h3.cell 8 _ rfl⟩
        clear hd hd1 kd KD
        go_upto_region 8 with fail
        go_region_held3 (fun w' => w'.cell? ⟨B, 0, none⟩ = some (.int .i64 k) ∧ w'.cell? ⟨B, 1, none⟩ = some (.int .i64 u) ∧ w'.cell? ⟨B, 2, none⟩ = some (.bool false) ∧ w'.cell? ⟨B, 3, none⟩ = some (.slice A n c) ∧ w'.cell? ⟨B + 1, 1, none⟩ = some (.int .i64 ab) ∧ w'.cell? ⟨B + 1, 2, none⟩ = some (.string nm) ∧ w'.cell? ⟨B + 2, 0, none⟩ = some (.int .u32 r.n) ∧ w'.cell? ⟨B + 2, 1, none⟩ = some (.int .u32 r.a) ∧ w'.cell? ⟨B + 2, 2, none⟩ = some (.int .u64 r.p) ∧ w'.cell? ⟨B + 2, 3, none⟩ = some (.int .u64 (r.q 0)) ∧ w'.cell? ⟨B + 2, 4, none⟩ = some (.int .u64 (r.q 1)) ∧ w'.cell? ⟨B + 2, 5, none⟩ = some (.int .u64 (r.q 2)) ∧ w'.cell? ⟨B + 2, 6, none⟩ = some (.int .u64 (r.q 3)) ∧ w'.cell? ⟨B + 2, 7, none⟩ = some (.int .u64 (r.q 4)) ∧ w'.cell? ⟨B + 2, 8, none⟩ = some (.int .u64 (r.q 5)))
          (first | (with_reducible exact HM.out _ (by assumption)) | (with_reducible exact HM2.out _ (by assumption)) | exact HM.out _ (Below.refl _ _) | exact HM.out _ (Below.refl _ _).drew)
          (first
            | (go_at_call 112
               refine (KA.out _).mono ?_
               rintro e w9 ⟨rfl, hB9⟩
               have hk9 : Below W0.heap.size W0 w9 := (Below.refl _ _).drew.trans hB9)
            | (go_at_call 32
               refine (KD1.out _ hk9).mono ?_
               rintro e w8 ⟨rfl, hB8⟩
               have hk8 : Below W0.heap.size W0 w8 := bTr hk9 hB8
               have hz8 := (HFX.out _ hk8).2.2.2.1
               have z0 := hz8.cell 0 (.int .i64 0) rfl
               have z1 := hz8.cell 1 (.int .i64 0) rfl
               have f0 := hz8.frozen 0
               have f1 := hz8.frozen 1))
        all_goals go_wp2
        all_goals exact bodyPost_ret (results_cell_row Tryz.results71 _ _ (B + 1 + 1 + 1) _ #[.int .i64 D1, .int .i64 D2] (0, 0) _ (by rfl) (show RowC _ (B + 1 + 1 + 1) #[.int .i64 D1, .int .i64 D2] 23 from (hz8.set 0 (.int .i64 D1)).set 1 (.int .i64 D2)) Tryz.underlying23 (by rfl) (show _ = some 2 from infoActP)) rfl ⟨rfl, by rw [HBS.out]; exact ((HFX.out _ hk8).2.2.2.2.setCell (by show B ≤ B + 1 + 1 + 1; omega) _).setCell (by show B ≤ B + 1 + 1 + 1; omega) _⟩
    · cases mu with
      | true =>
        have hd1 : bliF k u L nm = (D1, D2) := hd
        have kb := KB.out
        rw [hd1] at kb
        have KB1 := Lib.hid kb
        clear hd hd1 kb KB
        go_wp2_with fail
        refine KB1.out.mono ?_
        rintro e w1 ⟨rfl, hB1⟩
        have HZ := Lib.hid (HFX.out w1 hB1)
        clear hB1
        go_wp2_with (refine wpList_store_row (by rfl) 23 _ _ (by rfl) (B + 3) #[.int .i64 D1, .int .i64 D2] (by rfl) (by rfl) _ _ HZ.out.2.2.2.1 (show _ = some 2 from infoActP) (by rfl) (by simp [Value.oneCell']) ?_)
        exact bodyPost_ret (results_cell_row Tryz.results71 _ _ (B + 3) _ #[.int .i64 D1, .int .i64 D2] (0, 0) _ (by rfl) (setRow_heap _ _ _ _ _ _ HZ.out.2.2.2.1) Tryz.underlying23 (by rfl) (show _ = some 2 from infoActP)) rfl ⟨rfl, by rw [HBS.out]; exact below_setRow HZ.out.2.2.2.2 (by omega) _⟩
      | false =>
        have hd1 : decF k u L nm (fun i => argF ab (r.q i)) = (D1, D2) := hd
        have kd := KD.out
        simp only [hd1] at kd
        have KD1 := Lib.hid kd
        have HM : Hid (∀ w', Below W0.heap.size W0 w' → w'.cell? ⟨B, 0, none⟩ = some (.int .i64 k) ∧ w'.cell? ⟨B, 1, none⟩ = some (.int .i64 u) ∧ w'.cell? ⟨B, 2, none⟩ = some (.bool true) ∧ w'.cell? ⟨B, 3, none⟩ = some (.slice A n c) ∧ w'.cell? ⟨B + 1, 1, none⟩ = some (.int .i64 ab) ∧ w'.cell? ⟨B + 1, 2, none⟩ = some (.string nm) ∧ w'.cell? ⟨B + 2, 0, none⟩ = some (.int .u32 r.n) ∧ w'.cell? ⟨B + 2, 1, none⟩ = some (.int .u32 r.a) ∧ w'.cell? ⟨B + 2, 2, none⟩ = some (.int .u64 r.p) ∧ w'.cell? ⟨B + 2, 3, none⟩ = some (.int .u64 (r.q 0)) ∧ w'.cell? ⟨B + 2, 4, none⟩ = some (.int .u64 (r.q 1)) ∧ w'.cell? ⟨B + 2, 5, none⟩ = some (.int .u64 (r.q 2)) ∧ w'.cell? ⟨B + 2, 6, none⟩ = some (.int .u64 (r.q 3)) ∧ w'.cell? ⟨B + 2, 7, none⟩ = some (.int .u64 (r.q 4)) ∧ w'.cell? ⟨B + 2, 8, none⟩ = some (.int .u64 (r.q 5))) := Lib.hid fun W hW => by
          obtain ⟨h1, h2, h3, _⟩ := HFX.out W hW
          exact ⟨h1.cell 0 _ rfl, h1.cell 1 _ rfl, h1.cell 2 _ rfl, h1.cell 3 _ rfl, h2.cell 1 _ rfl, h2.cell 2 _ rfl, h3.cell 0 _ rfl, h3.cell 1 _ rfl, h3.cell 2 _ rfl, h3.cell 3 _ rfl, h3.cell 4 _ rfl, h3.cell 5 _ rfl, h3.cell 6 _ rfl, h3.cell 7 _ rfl, h3.cell 8 _ rfl⟩
        have HM2 : Hid (∀ w', Below W0.heap.size W0 w' → ((w'.setCell ⟨B + 1 + 1 + 1, 0, none⟩ (.int .i64 D1)).setCell ⟨B + 1 + 1 + 1, 1, none⟩ (.int .i64 D2)).cell? ⟨B, 0, none⟩ = some (.int .i64 k) ∧ ((w'.setCell ⟨B + 1 + 1 + 1, 0, none⟩ (.int .i64 D1)).setCell ⟨B + 1 + 1 + 1, 1, none⟩ (.int .i64 D2)).cell? ⟨B, 1, none⟩ = some (.int .i64 u) ∧ ((w'.setCell ⟨B + 1 + 1 + 1, 0, none⟩ (.int .i64 D1)).setCell ⟨B + 1 + 1 + 1, 1, none⟩ (.int .i64 D2)).cell? ⟨B, 2, none⟩ = some (.bool true) ∧ ((w'.setCell ⟨B + 1 + 1 + 1, 0, none⟩ (.int .i64 D1)).setCell ⟨B + 1 + 1 + 1, 1, none⟩ (.int .i64 D2)).cell? ⟨B, 3, none⟩ = some (.slice A n c) ∧ ((w'.setCell ⟨B + 1 + 1 + 1, 0, none⟩ (.int .i64 D1)).setCell ⟨B + 1 + 1 + 1, 1, none⟩ (.int .i64 D2)).cell? ⟨B + 1, 1, none⟩ = some (.int .i64 ab) ∧ ((w'.setCell ⟨B + 1 + 1 + 1, 0, none⟩ (.int .i64 D1)).setCell ⟨B + 1 + 1 + 1, 1, none⟩ (.int .i64 D2)).cell? ⟨B + 1, 2, none⟩ = some (.string nm) ∧ ((w'.setCell ⟨B + 1 + 1 + 1, 0, none⟩ (.int .i64 D1)).setCell ⟨B + 1 + 1 + 1, 1, none⟩ (.int .i64 D2)).cell? ⟨B + 2, 0, none⟩ = some (.int .u32 r.n) ∧ ((w'.setCell ⟨B + 1 + 1 + 1, 0, none⟩ (.int .i64 D1)).setCell ⟨B + 1 + 1 + 1, 1, none⟩ (.int .i64 D2)).cell? ⟨B + 2, 1, none⟩ = some (.int .u32 r.a) ∧ ((w'.setCell ⟨B + 1 + 1 + 1, 0, none⟩ (.int .i64 D1)).setCell ⟨B + 1 + 1 + 1, 1, none⟩ (.int .i64 D2)).cell? ⟨B + 2, 2, none⟩ = some (.int .u64 r.p) ∧ ((w'.setCell ⟨B + 1 + 1 + 1, 0, none⟩ (.int .i64 D1)).setCell ⟨B + 1 + 1 + 1, 1, none⟩ (.int .i64 D2)).cell? ⟨B + 2, 3, none⟩ = some (.int .u64 (r.q 0)) ∧ ((w'.setCell ⟨B + 1 + 1 + 1, 0, none⟩ (.int .i64 D1)).setCell ⟨B + 1 + 1 + 1, 1, none⟩ (.int .i64 D2)).cell? ⟨B + 2, 4, none⟩ = some (.int .u64 (r.q 1)) ∧ ((w'.setCell ⟨B + 1 + 1 + 1, 0, none⟩ (.int .i64 D1)).setCell ⟨B + 1 + 1 + 1, 1, none⟩ (.int .i64 D2)).cell? ⟨B + 2, 5, none⟩ = some (.int .u64 (r.q 2)) ∧ ((w'.setCell ⟨B + 1 + 1 + 1, 0, none⟩ (.int .i64 D1)).setCell ⟨B + 1 + 1 + 1, 1, none⟩ (.int .i64 D2)).cell? ⟨B + 2, 6, none⟩ = some (.int .u64 (r.q 3)) ∧ ((w'.setCell ⟨B + 1 + 1 + 1, 0, none⟩ (.int .i64 D1)).setCell ⟨B + 1 + 1 + 1, 1, none⟩ (.int .i64 D2)).cell? ⟨B + 2, 7, none⟩ = some (.int .u64 (r.q 4)) ∧ ((w'.setCell ⟨B + 1 + 1 + 1, 0, none⟩ (.int .i64 D1)).setCell ⟨B + 1 + 1 + 1, 1, none⟩ (.int .i64 D2)).cell? ⟨B + 2, 8, none⟩ = some (.int .u64 (r.q 5))) := Lib.hid fun W hW => by
          obtain ⟨g1, g2, g3, _⟩ := HFX.out W hW
          have h1 := (g1.setOther (g := B + 1 + 1 + 1) 0 (.int .i64 D1) (by omega)).setOther (g := B + 1 + 1 + 1) 1 (.int .i64 D2) (by omega)
          have h2 := (g2.setOther (g := B + 1 + 1 + 1) 0 (.int .i64 D1) (by omega)).setOther (g := B + 1 + 1 + 1) 1 (.int .i64 D2) (by omega)
          have h3 := (g3.setOther (g := B + 1 + 1 + 1) 0 (.int .i64 D1) (by omega)).setOther (g := B + 1 + 1 + 1) 1 (.int .i64 D2) (by omega)
          exact ⟨h1.cell 0 _ rfl, h1.cell 1 _ rfl, h1.cell 2 _ rfl, h1.cell 3 _ rfl, h2.cell 1 _ rfl, h2.cell 2 _ rfl, h3.cell 0 _ rfl, h3.cell 1 _ rfl, h3.cell 2 _ rfl, h3.cell 3 _ rfl, h3.cell 4 _ rfl, h3.cell 5 _ rfl, h3.cell 6 _ rfl, h3.cell 7 _ rfl, h3.cell 8 _ rfl⟩
        clear hd hd1 kd KD
        go_upto_region 8 with fail
        go_region_held3 (fun w' => w'.cell? ⟨B, 0, none⟩ = some (.int .i64 k) ∧ w'.cell? ⟨B, 1, none⟩ = some (.int .i64 u) ∧ w'.cell? ⟨B, 2, none⟩ = some (.bool true) ∧ w'.cell? ⟨B, 3, none⟩ = some (.slice A n c) ∧ w'.cell? ⟨B + 1, 1, none⟩ = some (.int .i64 ab) ∧ w'.cell? ⟨B + 1, 2, none⟩ = some (.string nm) ∧ w'.cell? ⟨B + 2, 0, none⟩ = some (.int .u32 r.n) ∧ w'.cell? ⟨B + 2, 1, none⟩ = some (.int .u32 r.a) ∧ w'.cell? ⟨B + 2, 2, none⟩ = some (.int .u64 r.p) ∧ w'.cell? ⟨B + 2, 3, none⟩ = some (.int .u64 (r.q 0)) ∧ w'.cell? ⟨B + 2, 4, none⟩ = some (.int .u64 (r.q 1)) ∧ w'.cell? ⟨B + 2, 5, none⟩ = some (.int .u64 (r.q 2)) ∧ w'.cell? ⟨B + 2, 6, none⟩ = some (.int .u64 (r.q 3)) ∧ w'.cell? ⟨B + 2, 7, none⟩ = some (.int .u64 (r.q 4)) ∧ w'.cell? ⟨B + 2, 8, none⟩ = some (.int .u64 (r.q 5)))
          (first | (with_reducible exact HM.out _ (by assumption)) | (with_reducible exact HM2.out _ (by assumption)) | exact HM.out _ (Below.refl _ _) | exact HM.out _ (Below.refl _ _).drew)
          (first
            | (go_at_call 112
               refine (KA.out _).mono ?_
               rintro e w9 ⟨rfl, hB9⟩
               have hk9 : Below W0.heap.size W0 w9 := (Below.refl _ _).drew.trans hB9)
            | (go_at_call 32
               refine (KD1.out _ hk9).mono ?_
               rintro e w8 ⟨rfl, hB8⟩
               have hk8 : Below W0.heap.size W0 w8 := bTr hk9 hB8
               have hz8 := (HFX.out _ hk8).2.2.2.1
               have z0 := hz8.cell 0 (.int .i64 0) rfl
               have z1 := hz8.cell 1 (.int .i64 0) rfl
               have f0 := hz8.frozen 0
               have f1 := hz8.frozen 1))
        all_goals go_wp2
        all_goals exact bodyPost_ret (results_cell_row Tryz.results71 _ _ (B + 1 + 1 + 1) _ #[.int .i64 D1, .int .i64 D2] (0, 0) _ (by rfl) (show RowC _ (B + 1 + 1 + 1) #[.int .i64 D1, .int .i64 D2] 23 from (hz8.set 0 (.int .i64 D1)).set 1 (.int .i64 D2)) Tryz.underlying23 (by rfl) (show _ = some 2 from infoActP)) rfl ⟨rfl, by rw [HBS.out]; exact ((HFX.out _ hk8).2.2.2.2.setCell (by show B ≤ B + 1 + 1 + 1; omega) _).setCell (by show B ≤ B + 1 + 1 + 1; omega) _⟩
    · cases mu with
      | true =>
        have hd1 : bliF k u L nm = (D1, D2) := hd
        have kb := KB.out
        rw [hd1] at kb
        have KB1 := Lib.hid kb
        clear hd hd1 kb KB
        go_wp2_with fail
        refine KB1.out.mono ?_
        rintro e w1 ⟨rfl, hB1⟩
        have HZ := Lib.hid (HFX.out w1 hB1)
        clear hB1
        go_wp2_with (refine wpList_store_row (by rfl) 23 _ _ (by rfl) (B + 3) #[.int .i64 D1, .int .i64 D2] (by rfl) (by rfl) _ _ HZ.out.2.2.2.1 (show _ = some 2 from infoActP) (by rfl) (by simp [Value.oneCell']) ?_)
        exact bodyPost_ret (results_cell_row Tryz.results71 _ _ (B + 3) _ #[.int .i64 D1, .int .i64 D2] (0, 0) _ (by rfl) (setRow_heap _ _ _ _ _ _ HZ.out.2.2.2.1) Tryz.underlying23 (by rfl) (show _ = some 2 from infoActP)) rfl ⟨rfl, by rw [HBS.out]; exact below_setRow HZ.out.2.2.2.2 (by omega) _⟩
      | false =>
        have hd1 : decF k u L nm (fun i => argF ab (r.q i)) = (D1, D2) := hd
        have kd := KD.out
        simp only [hd1] at kd
        have KD1 := Lib.hid kd
        have HM : Hid (∀ w', Below W0.heap.size W0 w' → w'.cell? ⟨B, 0, none⟩ = some (.int .i64 k) ∧ w'.cell? ⟨B, 1, none⟩ = some (.int .i64 u) ∧ w'.cell? ⟨B, 2, none⟩ = some (.bool true) ∧ w'.cell? ⟨B, 3, none⟩ = some (.slice A n c) ∧ w'.cell? ⟨B + 1, 1, none⟩ = some (.int .i64 ab) ∧ w'.cell? ⟨B + 1, 2, none⟩ = some (.string nm) ∧ w'.cell? ⟨B + 2, 0, none⟩ = some (.int .u32 r.n) ∧ w'.cell? ⟨B + 2, 1, none⟩ = some (.int .u32 r.a) ∧ w'.cell? ⟨B + 2, 2, none⟩ = some (.int .u64 r.p) ∧ w'.cell? ⟨B + 2, 3, none⟩ = some (.int .u64 (r.q 0)) ∧ w'.cell? ⟨B + 2, 4, none⟩ = some (.int .u64 (r.q 1)) ∧ w'.cell? ⟨B + 2, 5, none⟩ = some (.int .u64 (r.q 2)) ∧ w'.cell? ⟨B + 2, 6, none⟩ = some (.int .u64 (r.q 3)) ∧ w'.cell? ⟨B + 2, 7, none⟩ = some (.int .u64 (r.q 4)) ∧ w'.cell? ⟨B + 2, 8, none⟩ = some (.int .u64 (r.q 5))) := Lib.hid fun W hW => by
          obtain ⟨h1, h2, h3, _⟩ := HFX.out W hW
          exact ⟨h1.cell 0 _ rfl, h1.cell 1 _ rfl, h1.cell 2 _ rfl, h1.cell 3 _ rfl, h2.cell 1 _ rfl, h2.cell 2 _ rfl, h3.cell 0 _ rfl, h3.cell 1 _ rfl, h3.cell 2 _ rfl, h3.cell 3 _ rfl, h3.cell 4 _ rfl, h3.cell 5 _ rfl, h3.cell 6 _ rfl, h3.cell 7 _ rfl, h3.cell 8 _ rfl⟩
        have HM2 : Hid (∀ w', Below W0.heap.size W0 w' → ((w'.setCell ⟨B + 1 + 1 + 1, 0, none⟩ (.int .i64 D1)).setCell ⟨B + 1 + 1 + 1, 1, none⟩ (.int .i64 D2)).cell? ⟨B, 0, none⟩ = some (.int .i64 k) ∧ ((w'.setCell ⟨B + 1 + 1 + 1, 0, none⟩ (.int .i64 D1)).setCell ⟨B + 1 + 1 + 1, 1, none⟩ (.int .i64 D2)).cell? ⟨B, 1, none⟩ = some (.int .i64 u) ∧ ((w'.setCell ⟨B + 1 + 1 + 1, 0, none⟩ (.int .i64 D1)).setCell ⟨B + 1 + 1 + 1, 1, none⟩ (.int .i64 D2)).cell? ⟨B, 2, none⟩ = some (.bool true) ∧ ((w'.setCell ⟨B + 1 + 1 + 1, 0, none⟩ (.int .i64 D1)).setCell ⟨B + 1 + 1 + 1, 1, none⟩ (.int .i64 D2)).cell? ⟨B, 3, none⟩ = some (.slice A n c) ∧ ((w'.setCell ⟨B + 1 + 1 + 1, 0, none⟩ (.int .i64 D1)).setCell ⟨B + 1 + 1 + 1, 1, none⟩ (.int .i64 D2)).cell? ⟨B + 1, 1, none⟩ = some (.int .i64 ab) ∧ ((w'.setCell ⟨B + 1 + 1 + 1, 0, none⟩ (.int .i64 D1)).setCell ⟨B + 1 + 1 + 1, 1, none⟩ (.int .i64 D2)).cell? ⟨B + 1, 2, none⟩ = some (.string nm) ∧ ((w'.setCell ⟨B + 1 + 1 + 1, 0, none⟩ (.int .i64 D1)).setCell ⟨B + 1 + 1 + 1, 1, none⟩ (.int .i64 D2)).cell? ⟨B + 2, 0, none⟩ = some (.int .u32 r.n) ∧ ((w'.setCell ⟨B + 1 + 1 + 1, 0, none⟩ (.int .i64 D1)).setCell ⟨B + 1 + 1 + 1, 1, none⟩ (.int .i64 D2)).cell? ⟨B + 2, 1, none⟩ = some (.int .u32 r.a) ∧ ((w'.setCell ⟨B + 1 + 1 + 1, 0, none⟩ (.int .i64 D1)).setCell ⟨B + 1 + 1 + 1, 1, none⟩ (.int .i64 D2)).cell? ⟨B + 2, 2, none⟩ = some (.int .u64 r.p) ∧ ((w'.setCell ⟨B + 1 + 1 + 1, 0, none⟩ (.int .i64 D1)).setCell ⟨B + 1 + 1 + 1, 1, none⟩ (.int .i64 D2)).cell? ⟨B + 2, 3, none⟩ = some (.int .u64 (r.q 0)) ∧ ((w'.setCell ⟨B + 1 + 1 + 1, 0, none⟩ (.int .i64 D1)).setCell ⟨B + 1 + 1 + 1, 1, none⟩ (.int .i64 D2)).cell? ⟨B + 2, 4, none⟩ = some (.int .u64 (r.q 1)) ∧ ((w'.setCell ⟨B + 1 + 1 + 1, 0, none⟩ (.int .i64 D1)).setCell ⟨B + 1 + 1 + 1, 1, none⟩ (.int .i64 D2)).cell? ⟨B + 2, 5, none⟩ = some (.int .u64 (r.q 2)) ∧ ((w'.setCell ⟨B + 1 + 1 + 1, 0, none⟩ (.int .i64 D1)).setCell ⟨B + 1 + 1 + 1, 1, none⟩ (.int .i64 D2)).cell? ⟨B + 2, 6, none⟩ = some (.int .u64 (r.q 3)) ∧ ((w'.setCell ⟨B + 1 + 1 + 1, 0, none⟩ (.int .i64 D1)).setCell ⟨B + 1 + 1 + 1, 1, none⟩ (.int .i64 D2)).cell? ⟨B + 2, 7, none⟩ = some (.int .u64 (r.q 4)) ∧ ((w'.setCell ⟨B + 1 + 1 + 1, 0, none⟩ (.int .i64 D1)).setCell ⟨B + 1 + 1 + 1, 1, none⟩ (.int .i64 D2)).cell? ⟨B + 2, 8, none⟩ = some (.int .u64 (r.q 5))) := Lib.hid fun W hW => by
          obtain ⟨g1, g2, g3, _⟩ := HFX.out W hW
          have h1 := (g1.setOther (g := B + 1 + 1 + 1) 0 (.int .i64 D1) (by omega)).setOther (g := B + 1 + 1 + 1) 1 (.int .i64 D2) (by omega)
          have h2 := (g2.setOther (g := B + 1 + 1 + 1) 0 (.int .i64 D1) (by omega)).setOther (g := B + 1 + 1 + 1) 1 (.int .i64 D2) (by omega)
          have h3 := (g3.setOther (g := B + 1 + 1 + 1) 0 (.int .i64 D1) (by omega)).setOther (g := B + 1 + 1 + 1) 1 (.int .i64 D2) (by omega)
          exact ⟨h1.cell 0 _ rfl, h1.cell 1 _ rfl, h1.cell 2 _ rfl, h1.cell 3 _ rfl, h2.cell 1 _ rfl, h2.cell 2 _ rfl, h3.cell 0 _ rfl, h3.cell 1 _ rfl, h3.cell 2 _ rfl, h3.cell 3 _ rfl, h3.cell 4 _ rfl, h3.cell 5 _ rfl, h3.cell 6 _ rfl, h3.cell 7 _ rfl, h3.cell 8 _ rfl⟩
        clear hd hd1 kd KD
        go_upto_region 8 with fail
        go_region_held3 (fun w' => w'.cell? ⟨B, 0, none⟩ = some (.int .i64 k) ∧ w'.cell? ⟨B, 1, none⟩ = some (.int .i64 u) ∧ w'.cell? ⟨B, 2, none⟩ = some (.bool true) ∧ w'.cell? ⟨B, 3, none⟩ = some (.slice A n c) ∧ w'.cell? ⟨B + 1, 1, none⟩ = some (.int .i64 ab) ∧ w'.cell? ⟨B + 1, 2, none⟩ = some (.string nm) ∧ w'.cell? ⟨B + 2, 0, none⟩ = some (.int .u32 r.n) ∧ w'.cell? ⟨B + 2, 1, none⟩ = some (.int .u32 r.a) ∧ w'.cell? ⟨B + 2, 2, none⟩ = some (.int .u64 r.p) ∧ w'.cell? ⟨B + 2, 3, none⟩ = some (.int .u64 (r.q 0)) ∧ w'.cell? ⟨B + 2, 4, none⟩ = some (.int .u64 (r.q 1)) ∧ w'.cell? ⟨B + 2, 5, none⟩ = some (.int .u64 (r.q 2)) ∧ w'.cell? ⟨B + 2, 6, none⟩ = some (.int .u64 (r.q 3)) ∧ w'.cell? ⟨B + 2, 7, none⟩ = some (.int .u64 (r.q 4)) ∧ w'.cell? ⟨B + 2, 8, none⟩ = some (.int .u64 (r.q 5)))
          (first | (with_reducible exact HM.out _ (by assumption)) | (with_reducible exact HM2.out _ (by assumption)) | exact HM.out _ (Below.refl _ _) | exact HM.out _ (Below.refl _ _).drew)
          (first
            | (go_at_call 112
               refine (KA.out _).mono ?_
               rintro e w9 ⟨rfl, hB9⟩
               have hk9 : Below W0.heap.size W0 w9 := (Below.refl _ _).drew.trans hB9)
            | (go_at_call 32
               refine (KD1.out _ hk9).mono ?_
               rintro e w8 ⟨rfl, hB8⟩
               have hk8 : Below W0.heap.size W0 w8 := bTr hk9 hB8
               have hz8 := (HFX.out _ hk8).2.2.2.1
               have z0 := hz8.cell 0 (.int .i64 0) rfl
               have z1 := hz8.cell 1 (.int .i64 0) rfl
               have f0 := hz8.frozen 0
               have f1 := hz8.frozen 1))
        all_goals go_wp2
        all_goals exact bodyPost_ret (results_cell_row Tryz.results71 _ _ (B + 1 + 1 + 1) _ #[.int .i64 D1, .int .i64 D2] (0, 0) _ (by rfl) (show RowC _ (B + 1 + 1 + 1) #[.int .i64 D1, .int .i64 D2] 23 from (hz8.set 0 (.int .i64 D1)).set 1 (.int .i64 D2)) Tryz.underlying23 (by rfl) (show _ = some 2 from infoActP)) rfl ⟨rfl, by rw [HBS.out]; exact ((HFX.out _ hk8).2.2.2.2.setCell (by show B ≤ B + 1 + 1 + 1; omega) _).setCell (by show B ≤ B + 1 + 1 + 1; omega) _⟩
end Go.Proofs.YtcmdmnnkbliggaaGreatDoor

/-
  Layer 17: the program's Judge.
-/
namespace Go.Proofs.YtcmdmnnkbliggaaGreatDoor
open Go.RowKit Go.Shelf
set_option linter.unusedVariables false

/-- What Judge tells. -/
def JudP (k u : Int) (x : Bool) (L : List RV) (T : Nat → SR) (tn : Nat) (r : RecV) (cc ee : Nat) : Prop :=
  (rightV k u L = false ∧ cc = 0 ∧ ee = 13) ∨ (rightV k u L = true ∧ (((∃ p q, RightP T tn p q ∧ q ≠ 0) ∧ cc = 0 ∧ ee = 18) ∨ (RightP T tn 0 0 ∧ ee = 0 ∧ ∃ sm ab nm mu, CallP T tn r sm ab nm mu ∧ cc = codeOf (actF k u x L sm ab nm mu r.q))))
theorem boR_all {k u : Int} {L : List RV} (h : rightV k u L = true) (hs : ∀ r ∈ L, SmallV r) : ∀ r ∈ L, BoR r := fun r hr => by
  unfold rightV at h
  simp only [Bool.and_eq_true, decide_eq_true_eq, List.all_eq_true] at h
  exact boR_of (h.2.2 r hr) (hs r hr)
set_option maxRecDepth 100000 in
set_option maxHeartbeats 8000000 in
theorem judge_any (k u : Int) (x : Bool) (A : Option Addr) (l : List RL) (c : Nat) (TA : Option Addr) (tn tcap : Nat) (T : Nat → SR) (r : RecV) (w : World) (hl : RlL w A l) (hln : l.length ≤ 1000) (h12 : ∀ e ∈ l, e.n ≤ 100000) (hs : ∀ r ∈ l, SmallV r.val) (htn : tn ≤ 1000000) (ht : TbA w TA tn T) (hr : r.ok) :
    Calls Tryz.prog 38 #[.agg (polA k u x A l.length c), .slice TA tn tcap, .agg (rcells r)] w fun e w' => ∃ cc ee : Nat, e = .returned (.tuple #[.int .u32 cc, .int .i64 ee]) ∧ JudP k u x (l.map RL.val) T tn r cc ee ∧ Below w.heap.size w w' := by
  obtain ⟨n, hnl⟩ : ∃ n, l.length = n := ⟨_, rfl⟩
  obtain ⟨B, hBs⟩ : ∃ B, w.heap.size = B := ⟨_, rfl⟩
  obtain ⟨L, hL⟩ : ∃ L, l.map RL.val = L := ⟨_, rfl⟩
  obtain ⟨W0, hW0⟩ : ∃ W, (w.alloc (.cells (polA k u x A n c) 26)).alloc (.cells (rcells r) 78) = W := ⟨_, rfl⟩
  have hb0 : Below B w W0 := by rw [← hW0, ← hBs]; exact ((Below.refl _ _).alloc (Nat.le_refl _) _).alloc (by simp) _
  have hp0 : RowC W0 B (polA k u x A n c) 26 := by rw [← hW0, ← hBs]; exact (RowC.new _ _ _ _ rfl).alloc _
  have hr0 : RowC W0 (B + 1) (rcells r) 78 := by rw [← hW0, ← hBs]; exact RowC.new _ _ _ _ (by simp)
  have hS0 : B + 2 = W0.heap.size := by rw [← hW0, ← hBs]; simp
  have hl0 := hl.below hb0 (Nat.le_of_eq hBs)
  have ht0 := ht.below hb0 (Nat.le_of_eq hBs)
  have hrt := policyRight_any k u x A l c W0 hl0 hln h12
  obtain ⟨rv, hrv⟩ : ∃ rv, rightV k u L = rv := ⟨_, rfl⟩
  rw [hL, hnl, hrv] at hrt
  have KR := Lib.hid hrt
  have KS := Lib.hid fun (W : World) (hW : Below W0.heap.size W0 W) => Right_any TA tn tcap T W (ht0.below hW (Nat.le_refl _))
  have KO := Lib.hid fun (W : World) (hW : Below W0.heap.size W0 W) => of_mux TA tn tcap T r hr W htn (ht0.below hW (Nat.le_refl _))
  have KA : Hid (rv = true → ∀ (W : World), Below W0.heap.size W0 W → ∀ sm ab nm mu, Calls Tryz.prog 71 #[.agg (polA k u x A n c), .agg #[.bool sm, .int .i64 (ab : Nat), .string nm, .bool mu], .agg (rcells r)] W fun e w' => e = .returned (.agg #[.int .i64 (actF k u x L sm ab nm mu r.q).1, .int .i64 (actF k u x L sm ab nm mu r.q).2]) ∧ Below W.heap.size W w') := Lib.hid fun hv W hW sm ab nm mu => by
    have h := action_any k u x A l c sm ab nm mu r W (hl0.below hW (Nat.le_refl _)) hln h12 (fun e he => boR_all (by rw [hrv, hv]) (fun v hv2 => by
      rw [← hL] at hv2
      obtain ⟨e2, he2, rfl⟩ := List.mem_map.1 hv2
      exact hs e2 he2) e.val (by rw [← hL]; exact List.mem_map.2 ⟨e, he, rfl⟩)) hr
    rw [hL, hnl] at h
    exact h
  have HFX : Hid (∀ W, Below W0.heap.size W0 W → RowC W B (polA k u x A n c) 26 ∧ RowC W (B + 1) (rcells r) 78 ∧ Below B w W) := Lib.hid fun W hW => ⟨hp0.below hW hp0.lt, hr0.below hW hr0.lt, hb0.trans (hW.mono (by omega))⟩
  rw [hL, hnl]
  have HRV := Lib.hid hrv
  have HW0 := Lib.hid hW0
  have HBS := Lib.hid hBs
  have p0 := hp0.cell 0 (.int .i64 k) rfl
  have p1 := hp0.cell 1 (.int .i64 u) rfl
  have p2 := hp0.cell 2 (.bool x) rfl
  have p3 := hp0.cell 3 (.slice A n c) rfl
  clear hb0 hp0 hr0 hl0 hl hnl hL hrv h12 hs ht0 ht hr hS0 hrt hln
  unfold rcells at HW0 hW0 KO KA ⊢
  go_enter Tryz.func38, Tryz.ntmps38
  go_upto_region 1 with fail
  (try rw [HW0.out])
  (try rw [hBs])
  clear hW0 hBs
  go_wp2_with fail
  refine KR.out.mono ?_
  rintro e w1 ⟨rfl, hB1⟩
  have HB1 := Lib.hid hB1
  clear hB1 p0 p1 p2 p3 KR
  cases rv with
  | false =>
    go_wp2
    go_ret2
    exact ⟨0, 13, rfl, .inl ⟨HRV.out, rfl, rfl⟩, by rw [HBS.out]; exact (HFX.out _ HB1.out).2.2⟩
  | true =>
    have KA1 := Lib.hid (KA.out rfl)
    clear KA
    go_wp2_with fail
    refine (KS.out _ HB1.out).mono ?_
    rintro e w2 ⟨p, q, hpq, rfl, hB2⟩
    have HB2 : Hid (Below W0.heap.size W0 w2) := Lib.hid (bTr HB1.out hB2)
    have HPQ := Lib.hid hpq
    clear hB2 HB1 KS hpq
    by_cases hq : q = 0
    · subst hq
      have hp0 : p = 0 := by rcases HPQ.out with ⟨_, _, h⟩ | ⟨_, _, _, h, h2⟩ | ⟨_, _, h, _⟩ <;> omega
      subst hp0
      have HM : Hid (∀ w', Below w2.heap.size w2 w' → w'.cell? ⟨B, 0, none⟩ = some (.int .i64 k) ∧ w'.cell? ⟨B, 1, none⟩ = some (.int .i64 u) ∧ w'.cell? ⟨B, 2, none⟩ = some (.bool x) ∧ w'.cell? ⟨B, 3, none⟩ = some (.slice A n c) ∧ w'.cell? ⟨B + 1, 0, none⟩ = some (.int .u32 r.n) ∧ w'.cell? ⟨B + 1, 1, none⟩ = some (.int .u32 r.a) ∧ w'.cell? ⟨B + 1, 2, none⟩ = some (.int .u64 r.p) ∧ w'.cell? ⟨B + 1, 3, none⟩ = some (.int .u64 (r.q 0)) ∧ w'.cell? ⟨B + 1, 4, none⟩ = some (.int .u64 (r.q 1)) ∧ w'.cell? ⟨B + 1, 5, none⟩ = some (.int .u64 (r.q 2)) ∧ w'.cell? ⟨B + 1, 6, none⟩ = some (.int .u64 (r.q 3)) ∧ w'.cell? ⟨B + 1, 7, none⟩ = some (.int .u64 (r.q 4)) ∧ w'.cell? ⟨B + 1, 8, none⟩ = some (.int .u64 (r.q 5))) := Lib.hid fun W hW => by
        obtain ⟨h1, h3, _⟩ := HFX.out W (bTr HB2.out hW)
        exact ⟨h1.cell 0 _ rfl, h1.cell 1 _ rfl, h1.cell 2 _ rfl, h1.cell 3 _ rfl, h3.cell 0 _ rfl, h3.cell 1 _ rfl, h3.cell 2 _ rfl, h3.cell 3 _ rfl, h3.cell 4 _ rfl, h3.cell 5 _ rfl, h3.cell 6 _ rfl, h3.cell 7 _ rfl, h3.cell 8 _ rfl⟩
      have HAR := Lib.hid fun (sm : Bool) (ab : Nat) (nm : ByteArray) (mu : Bool) => actF_right HRV.out x sm ab nm mu r.q
      obtain ⟨m0, m1, m2, m3, m4, m5, m6, m7, m8, m9, ma, mb, mc⟩ := HM.out w2 (Below.refl _ _)
      go_upto_region 6 with fail
      go_region_held3 (fun w' => w'.cell? ⟨B, 0, none⟩ = some (.int .i64 k) ∧ w'.cell? ⟨B, 1, none⟩ = some (.int .i64 u) ∧ w'.cell? ⟨B, 2, none⟩ = some (.bool x) ∧ w'.cell? ⟨B, 3, none⟩ = some (.slice A n c) ∧ w'.cell? ⟨B + 1, 0, none⟩ = some (.int .u32 r.n) ∧ w'.cell? ⟨B + 1, 1, none⟩ = some (.int .u32 r.a) ∧ w'.cell? ⟨B + 1, 2, none⟩ = some (.int .u64 r.p) ∧ w'.cell? ⟨B + 1, 3, none⟩ = some (.int .u64 (r.q 0)) ∧ w'.cell? ⟨B + 1, 4, none⟩ = some (.int .u64 (r.q 1)) ∧ w'.cell? ⟨B + 1, 5, none⟩ = some (.int .u64 (r.q 2)) ∧ w'.cell? ⟨B + 1, 6, none⟩ = some (.int .u64 (r.q 3)) ∧ w'.cell? ⟨B + 1, 7, none⟩ = some (.int .u64 (r.q 4)) ∧ w'.cell? ⟨B + 1, 8, none⟩ = some (.int .u64 (r.q 5)))
        (first | (with_reducible exact HM.out _ (by assumption)) | exact HM.out _ (Below.refl _ _) | exact HM.out _ (Below.refl _ _).drew)
        (first
          | (go_at_call 45
             refine (KO.out _ (bTr HB2.out (Below.refl _ _).drew)).mono ?_
             rintro e w7 ⟨sm, ab, nm, mu, hcall, rfl, hB7⟩
             have hk7 : Below w2.heap.size w2 w7 := (Below.refl _ _).drew.trans hB7)
          | (go_at_call 71
             refine (KA1.out _ (bTr HB2.out hk7) sm ab nm mu).mono ?_
             rintro e w8 ⟨rfl, hB8⟩
             have hk8 : Below w2.heap.size w2 w8 := bTr hk7 hB8)
          | (go_at_call 70
             refine (actCode_any (HAR.out sm ab nm mu) _).mono ?_
             rintro e w9 ⟨rfl, hB9⟩
             have hk9 : Below w2.heap.size w2 w9 := bTr hk8 hB9))
      all_goals go_wp2
      all_goals go_ret2
      all_goals exact ⟨_, 0, rfl, .inr ⟨HRV.out, .inr ⟨HPQ.out, rfl, sm, ab, nm, mu, hcall, rfl⟩⟩, by rw [HBS.out]; exact (HFX.out _ (bTr HB2.out hk9)).2.2⟩
    · have hqz : ((q : Int) != 0) = true := by simpa using hq
      have HQ := Lib.hid hq
      clear hq
      go_wp2
      go_ret2
      exact ⟨0, 18, rfl, .inr ⟨HRV.out, .inl ⟨⟨p, q, HPQ.out, HQ.out⟩, rfl, rfl⟩⟩, by rw [HBS.out]; exact (HFX.out _ HB2.out).2.2⟩
end Go.Proofs.YtcmdmnnkbliggaaGreatDoor
