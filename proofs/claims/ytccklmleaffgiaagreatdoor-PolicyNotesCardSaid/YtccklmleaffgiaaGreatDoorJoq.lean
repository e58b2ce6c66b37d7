/-
  Layer 14: policy.Print.
-/
import Derived.Test.YtccklmleaffgiaaGreatDoorJnq
namespace Go.Proofs.YtccklmleaffgiaaGreatDoor
open Go.RowKit Go.Shelf
set_option linter.unusedVariables false

theorem dec_short {v : Nat} (h : v ≤ 18446744073709551615) : (Lib.decDigits v).length ≤ 30 := by
  have h1 := nDigits_le v (by omega)
  rw [← Lib.decDigits_length] at h1
  omega
theorem kw_short (j : Nat) : (kwA j).data.toList.length ≤ 30 := by
  have h := kw_size j
  have e : (kwA j).data.toList.length = (kwA j).size := Array.length_toList
  omega
theorem sg_short (j : Nat) : (sgO j).data.toList.length ≤ 30 := by
  have h := sgO_size j
  have e : (sgO j).data.toList.length = (sgO j).size := Array.length_toList
  omega
theorem act_short {k u : Int} (h : actB k u = true) : (actL k u).length ≤ 2 ∧ ∀ w ∈ actL k u, w.length ≤ 30 := by
  obtain ⟨j, hj, rfl, hm⟩ := actB_ok h
  unfold mayA at hm
  simp only [Bool.and_eq_true, decide_eq_true_eq] at hm
  have hmo := mostA_le j
  unfold actL
  split
  · refine ⟨by simp, fun w hw => ?_⟩
    simp only [List.mem_cons, List.not_mem_nil, or_false] at hw
    rcases hw with rfl | rfl
    · exact kw_short _
    · exact dec_short (by omega)
  · refine ⟨by simp, fun w hw => ?_⟩
    simp only [List.mem_cons, List.not_mem_nil, or_false] at hw
    subst hw
    exact kw_short _
theorem cnd_short {c : CD} (hm : c.m ≤ 18446744073709551615) (hv : c.v ≤ 18446744073709551615) : (cndL c).length ≤ 5 ∧ ∀ w ∈ cndL c, w.length ≤ 30 := by
  unfold cndL
  split
  · refine ⟨by simp, fun w hw => ?_⟩
    simp only [List.mem_cons, List.not_mem_nil, or_false] at hw
    rcases hw with rfl | rfl | rfl | rfl | rfl
    · simp
    · exact sg_short _
    · exact dec_short hm
    · decide
    · exact dec_short hv
  · refine ⟨by simp, fun w hw => ?_⟩
    simp only [List.mem_cons, List.not_mem_nil, or_false] at hw
    rcases hw with rfl | rfl | rfl
    · simp
    · exact sg_short _
    · exact dec_short hv
theorem cnds_short : ∀ (L : List CD) (j : Nat), (∀ c ∈ L, c.m ≤ 18446744073709551615 ∧ c.v ≤ 18446744073709551615) → (cndsL j L).length ≤ 6 * L.length ∧ ∀ w ∈ cndsL j L, w.length ≤ 30
  | [], j, _ => ⟨Nat.le_refl _, fun w hw => by cases hw⟩
  | c :: t, j, h => by
    have h1 := cnd_short (h c (List.mem_cons_self ..)).1 (h c (List.mem_cons_self ..)).2
    have h2 := cnds_short t (j + 1) (fun z hz => h z (List.mem_cons_of_mem _ hz))
    unfold cndsL
    refine ⟨by simp only [List.length_cons, List.length_append]; omega, fun w hw => ?_⟩
    rcases List.mem_cons.1 hw with rfl | hw
    · unfold aheadW
      split <;> decide
    · rcases List.mem_append.1 hw with hw | hw
      · exact h1.2 w hw
      · exact h2.2 w hw
theorem rul_short {r : RV} (h : mayV r = true) (hs : SmallV r) : (rulL r).length ≤ 39 ∧ ∀ w ∈ rulL r, w.length ≤ 30 := by
  unfold mayV at h
  simp only [Bool.and_eq_true, decide_eq_true_eq, List.all_eq_true] at h
  obtain ⟨h1, h2, h3, h4⟩ := h
  have a := act_short h2
  have b := cnds_short r.L 0 hs
  unfold rulL
  refine ⟨by simp only [List.length_cons, List.length_append]; omega, fun w hw => ?_⟩
  rcases List.mem_cons.1 hw with rfl | hw
  · have e : r.nm.data.toList.length = r.nm.size := Array.length_toList
    have := (nameB_nm h1).2.1
    omega
  · rcases List.mem_append.1 hw with hw | hw
    · exact a.2 w hw
    · exact b.2 w hw
theorem pol_short {k u : Int} (x : Bool) {L : List RV} (h : rightV k u L = true) (hs : ∀ r ∈ L, SmallV r) : ∀ ws ∈ polL k u x L, ws.length ≤ 39 ∧ ∀ w ∈ ws, w.length ≤ 30 := fun ws hws => by
  unfold rightV at h
  simp only [Bool.and_eq_true, decide_eq_true_eq, List.all_eq_true] at h
  obtain ⟨h1, h2, h3⟩ := h
  have a := act_short h1
  unfold polL at hws
  rcases List.mem_cons.1 hws with rfl | hws
  · refine ⟨by simp only [List.length_cons]; omega, fun w hw => ?_⟩
    rcases List.mem_cons.1 hw with rfl | hw
    · decide
    · exact a.2 w hw
  · rcases List.mem_append.1 hws with hws | hws
    · cases x with
      | false => cases hws
      | true =>
        simp only [if_true, List.mem_cons, List.not_mem_nil, or_false] at hws
        subst hws
        refine ⟨by decide, fun w hw => ?_⟩
        simp only [List.mem_cons, List.not_mem_nil, or_false] at hw
        rcases hw with rfl | rfl <;> decide
    · obtain ⟨r, hr, rfl⟩ := List.mem_map.1 hws
      exact rul_short (h3 r hr) (hs r hr)
theorem sum_short (ws : List (List UInt8)) (h : ∀ w ∈ ws, w.length ≤ 30) : (ws.map fun x => x.length + 1).sum ≤ ws.length * 31 := by
  induction ws with
  | nil => exact Nat.le_refl _
  | cons a t ih =>
    have h1 := ih fun w hw => h w (List.mem_cons_of_mem _ hw)
    have h2 := h a (List.mem_cons_self ..)
    simp only [List.map_cons, List.sum_cons, List.length_cons]
    omega
theorem joinF_short : ∀ (l : List (List (List UInt8))), (∀ ws ∈ l, ws.length ≤ 39 ∧ ∀ w ∈ ws, w.length ≤ 30) → (joinF l).length ≤ l.length * 1300
  | [], _ => Nat.le_refl _
  | ws :: t, h => by
    have h1 := joinF_short t fun z hz => h z (List.mem_cons_of_mem _ hz)
    have h2 := h ws (List.mem_cons_self ..)
    have h3 := joinW_len ws
    have h4 := sum_short ws h2.2
    have e : joinF (ws :: t) = (joinW ws ++ [10]) ++ joinF t := joinF_append [ws] t |>.trans (by simp [joinF])
    rw [e]
    simp only [List.length_append, List.length_cons, List.length_nil]
    omega
theorem polL_len (k u : Int) (x : Bool) (L : List RV) : (polL k u x L).length ≤ L.length + 2 := by
  unfold polL
  cases x <;> simp
theorem text_small {k u : Int} (x : Bool) {L : List RV} (h : rightV k u L = true) (hs : ∀ r ∈ L, SmallV r) : (joinF (polL k u x L)).length ≤ 1000000 := by
  have h1 := joinF_short _ (pol_short x h hs)
  have h2 := polL_len k u x L
  unfold rightV at h
  simp only [Bool.and_eq_true, decide_eq_true_eq] at h
  omega
theorem chunk_words {k u : Int} {x : Bool} {L : List RV} {ws : List (List UInt8)} (h : ws ∈ chunkL k u x L) (hL : ∀ r ∈ L, r.L.length ≤ 6) : ws.length ≤ 140737488355328 := by
  unfold chunkL at h
  rcases List.mem_cons.1 h with rfl | h
  · simp
  · rcases List.mem_append.1 h with h | h
    · cases x with
      | false => cases h
      | true =>
        simp only [if_true, List.mem_cons, List.not_mem_nil, or_false] at h
        subst h
        simp
    · obtain ⟨r, hr, rfl⟩ := List.mem_map.1 h
      have h1 := hL r hr
      unfold pieceR
      simp only [List.length_cons]
      rw [piecesC_len]
      omega
/-- What Print tells. -/
def PrintP (w : World) (k u : Int) (x : Bool) (L : List RV) (e : Ending) (w' : World) : Prop :=
  (∃ (s : ByteArray) (er : Int), e = .returned (.tuple #[.string s, .int .i64 er]) ∧ ((er = 0 ∧ rightV k u L = true ∧ s = ⟨(joinF (polL k u x L)).toArray⟩ ∧ s.size ≤ 65536) ∨ (er == 0) = false)) ∧ Below w.heap.size w w'

set_option maxRecDepth 100000 in
set_option maxHeartbeats 8000000 in
theorem printP_any (k u : Int) (x : Bool) (A : Option Addr) (l : List RL) (c : Nat) (w : World) (hl : RlL w A l) (hn : l.length ≤ 1000) (h12 : ∀ e ∈ l, e.n ≤ 100000) (hs : ∀ r ∈ l, SmallV r.val) (ht : TabP w) :
    Calls Tryz.prog 8 #[.agg (polA k u x A l.length c)] w (PrintP w k u x (l.map RL.val)) := by
  obtain ⟨n, hnl⟩ : ∃ n, l.length = n := ⟨_, rfl⟩
  obtain ⟨H, hH⟩ : ∃ H, w.heap.size = H := ⟨_, rfl⟩
  obtain ⟨W0, hW0⟩ : ∃ W, w.alloc (.cells (polA k u x A n c) 26) = W := ⟨_, rfl⟩
  have hB0 : Below H w W0 := by rw [← hW0, ← hH]; exact (Below.refl _ _).alloc (Nat.le_refl _) _
  have hP0 : RowC W0 H (polA k u x A n c) 26 := by rw [← hW0, ← hH]; exact RowC.new _ _ _ _ rfl
  have KR := Lib.hid (policyRight_any k u x A l c W0 (hl.below hB0 (Nat.le_of_eq hH)) hn h12)
  rw [hnl] at KR ⊢
  have p0 := hP0.cell 0 (.int .i64 k) rfl
  have p1 := hP0.cell 1 (.int .i64 u) rfl
  have p2 := hP0.cell 2 (.bool x) rfl
  have p3 := hP0.cell 3 (.slice A n c) rfl
  have HNL := Lib.hid hnl
  have HL := Lib.hid hl
  have HS := Lib.hid hs
  have HT := Lib.hid ht
  have HB0 := Lib.hid hB0
  have HP0 := Lib.hid hP0
  have HW := Lib.hid hW0
  have HH := Lib.hid hH
  obtain ⟨rv, hrv⟩ : ∃ rv, rightV k u (l.map RL.val) = rv := ⟨_, rfl⟩
  rw [hrv] at KR
  have HRV := Lib.hid hrv
  clear hnl hl hs ht hB0 hP0 hW0 hrv h12
  go_enter Tryz.func8, Tryz.ntmps8
  go_upto_region 1 with fail
  rw [HW.out]
  (try rw [hH])
  clear hH
  go_wp2_with fail
  refine KR.out.mono ?_
  rintro e w1 ⟨rfl, hB1⟩
  have HB1 := Lib.hid (show Below H w w1 from HB0.out.trans (hB1.mono (Nat.le_of_lt HP0.out.lt)))
  have HP1 := Lib.hid (HP0.out.below hB1 HP0.out.lt)
  clear hB1 p0 p1 p2 p3
  cases rv with
  | false =>
    go_wp2
    go_ret2
    exact ⟨⟨_, _, rfl, .inr rfl⟩, by rw [HH.out]; exact HB1.out⟩
  | true =>
    have p0 := HP1.out.cell 0 (.int .i64 k) rfl
    have p1 := HP1.out.cell 1 (.int .i64 u) rfl
    have p2 := HP1.out.cell 2 (.bool x) rfl
    have p3 := HP1.out.cell 3 (.slice A n c) rfl
    have hrv := HRV.out
    have hrv' := hrv
    unfold rightV at hrv'
    simp only [Bool.and_eq_true, decide_eq_true_eq, List.all_eq_true, List.length_map] at hrv'
    have KL := Lib.hid (linesOf_any k u x A l c w1 (HL.out.below HB1.out (Nat.le_of_eq HH.out)) hrv'.2.1 hrv'.1 (fun r hr => by
      have hm := hrv'.2.2 r.val (List.mem_map.2 ⟨r, hr, rfl⟩)
      refine ⟨hm, HS.out r hr, ?_⟩
      unfold mayV at hm
      simp only [Bool.and_eq_true] at hm
      have := (nameB_nm hm.1).2.1
      have e : r.val.nm = r.nm := rfl
      rw [e] at this
      omega) (tab_on HT.out HB1.out (Nat.le_of_eq HH.out)))
    rw [HNL.out] at KL
    have hsmall := text_small x hrv fun v hv => by
      obtain ⟨r, hr, rfl⟩ := List.mem_map.1 hv
      exact HS.out r hr
    have HSM := Lib.hid hsmall
    have hs1 := Lib.hid (show H ≤ w1.heap.size by rw [← HH.out]; exact HB1.out.size)
    clear hrv hrv' hsmall
    go_wp2_with fail
    refine KL.out.mono ?_
    rintro e w2 ⟨A2, c2, ls, rfl, hown, hlr, hch, hB2⟩
    have hjf : joinF (ls.map (·.ws)) = joinF (polL k u x (l.map RL.val)) := by rw [hch, join_chunks]
    have KJ := Lib.hid (join_any A2 c2 ls w2 hown.cel hlr (by rw [hjf]; have := HSM.out; omega) (fun y hy => by
      have hmem : y.ws ∈ chunkL k u x (l.map RL.val) := by rw [← hch]; exact List.mem_map.2 ⟨y, hy, rfl⟩
      exact chunk_words hmem (fun r hr => by
        have := HRV.out
        unfold rightV at this
        simp only [Bool.and_eq_true, List.all_eq_true] at this
        have hm := this.2.2 r hr
        unfold mayV at hm
        simp only [Bool.and_eq_true, decide_eq_true_eq] at hm
        exact hm.2.2.1)))
    rw [hjf] at KJ
    obtain ⟨S, hS⟩ : ∃ S : ByteArray, ⟨(joinF (polL k u x (l.map RL.val))).toArray⟩ = S := ⟨_, rfl⟩
    rw [hS] at KJ
    have hSz : S.size ≤ 1000000 := by
      rw [← hS]
      show (joinF (polL k u x (l.map RL.val))).toArray.size ≤ _
      rw [List.size_toArray]
      exact HSM.out
    have HSE := Lib.hid hS
    have HB2 := Lib.hid (HB1.out.trans (hB2.mono hs1.out))
    have hs2 := Lib.hid (Nat.le_trans hs1.out hB2.size)
    clear hown hlr hch hB2 hjf hS p0 p1 p2 p3
    go_wp2_with fail
    refine KJ.out.mono ?_
    rintro e w3 ⟨rfl, hB3⟩
    have HB3 := Lib.hid (HB2.out.trans (hB3.mono hs2.out))
    clear hB3
    by_cases hlong : S.size ≤ 65536
    · have i1 : ¬ (65536 : Int) < (S.size : Int) := by omega
      have HLG := Lib.hid hlong
      clear hlong hSz
      go_wp2
      go_ret2
      exact ⟨⟨_, _, rfl, .inl ⟨rfl, HRV.out, HSE.out.symm, HLG.out⟩⟩, by rw [HH.out]; exact HB3.out⟩
    · have i1 : (65536 : Int) < (S.size : Int) := by omega
      clear hlong hSz
      go_wp2
      go_ret2
      exact ⟨⟨_, _, rfl, .inr rfl⟩, by rw [HH.out]; exact HB3.out⟩
end Go.Proofs.YtccklmleaffgiaaGreatDoor
