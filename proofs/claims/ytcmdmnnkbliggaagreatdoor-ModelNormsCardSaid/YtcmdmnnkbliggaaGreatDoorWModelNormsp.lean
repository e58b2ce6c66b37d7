/-
  The law ModelNorms holds for every input: a policy's normal form judges as the policy does, of every record that is not multiplexed, and of every one if the policy has no conditions for names with a multiplexer. No condition.
-/
import Derived.Test.YtcmdmnnkbliggaaGreatDoorRows
import Derived.Test.YtcmdmnnkbliggaaGreatDoorCards
import Derived.Test.YtcmdmnnkbliggaaGreatDoorTie
import Derived.Test.YtcmdmnnkbliggaaGreatDoorP29
import Derived.Test.YtcmdmnnkbliggaaGreatDoorP25
import Derived.Test.YtcmdmnnkbliggaaGreatDoorP26
import Derived.Test.YtcmdmnnkbliggaaGreatDoorP23
import Derived.Test.YtcmdmnnkbliggaaGreatDoorP28
import Derived.Test.YtcmdmnnkbliggaaGreatDoorP13
import Derived.Lay
import Derived.MakeChecks
import Derived.WalkKit
import Derived.ProofKit
import Derived.OpenShut
import Derived.ShutString
import Derived.ChangeOld
import Derived.Below
import Derived.Lib.SmallJoins
import Derived.SevenTiedAt
import Derived.LaidMore
import Derived.Stop.Joined
import Derived.RegionTactic
import Derived.Deep.Cut
import Derived.Deep.CutRange
import Derived.Deep.RegionHeld3
namespace Go.Proofs.YtcmdmnnkbliggaaGreatDoor
open Go.RowKit Go.Shelf
set_option linter.unusedVariables false

theorem small_of17 {R : Nat → RL} {n : Nat} {l : List RL} (h : l.map RL.val = (List.range n).map (fun i => (R i).val)) (hR : ∀ i, i < n → (R i).n ≤ 12) : ∀ e ∈ l, e.n ≤ 100000 := fun e he => by
  have h1 : e.val ∈ (List.range n).map (fun i => (R i).val) := by rw [← h]; exact List.mem_map.2 ⟨e, he, rfl⟩
  obtain ⟨i, hi, hv⟩ := List.mem_map.1 h1
  have h2 := hR i (List.mem_range.1 hi)
  have h3 : e.val.L.length = e.n := by simp [RL.val]
  have h4 : (R i).val.L.length = (R i).n := by simp [RL.val]
  rw [hv] at h4
  omega
theorem small_ru17 {w : World} {r : RL} (h : RuT w r) : SmallV r.val := fun c hc => by
  obtain ⟨i, hi, rfl⟩ := List.mem_map.1 hc
  rw [List.mem_range] at hi
  rcases h.2.2.2.2.2.conA with h0 | ⟨b, o, _, _, hcs⟩
  · omega
  · exact (hcs i hi).2.2.2.2
theorem RlL.nil17 (w : World) : RlL w none [] := ⟨.inl rfl, fun _ h => by cases h⟩
/-- Has a rule conditions for a name with a multiplexer? -/
def BlindP (T : Nat → SR) (tn : Nat) (L : List RV) (b : Bool) : Prop := b = false → ∀ v ∈ L, v.L ≠ [] → ∀ d m, WaysP T tn v.nm d m → m = false
theorem ways_mux {T : Nat → SR} {tn : Nat} (ht : RightP T tn 0 0) {r : RecV} {sm : Bool} {ab : Nat} {nm : ByteArray} (hc : CallP T tn r sm ab nm true) : nm = ⟨#[]⟩ ∨ ∃ d, WaysP T tn nm d true := by
  have hok : AllOk tn T := by
    rcases ht with ⟨_, _, h⟩ | ⟨_, _, _, h, h2⟩ | ⟨_, h, _⟩
    · cases h
    · exact absurd h2.symm h
    · exact h
  rcases hc with ⟨_, _, _, _, h⟩ | ⟨_, _, _, ⟨_, _, _, h⟩ | ⟨_, h, _⟩⟩
  · cases h
  · rcases h with ⟨j, hj, h1, _, rfl⟩ | ⟨_, h1⟩
    · right
      have hf := isN_first hok hj
      refine ⟨decide ((T j).n2 ≥ 0), .inl ⟨j, hj, hf.1, hf.2, rfl, ?_⟩⟩
      unfold isSub at h1
      simp only [Bool.and_eq_true] at h1
      have e : (T j).mx = ((kindF r.n : Nat) : Int) := eq_of_beq h1.1.2
      rw [e]
      exact h1.1.1.symm
    · exact .inl h1
  · cases h
theorem blind_mux {T : Nat → SR} {tn : Nat} (ht : RightP T tn 0 0) {r : RecV} {sm : Bool} {ab : Nat} {nm : ByteArray} (hc : CallP T tn r sm ab nm true) {L : List RV} (hm : ∀ v ∈ L, mayV v = true) (hx : ¬ ∀ v ∈ L, v.nm = nm → v.L = []) {b : Bool} (hb : BlindP T tn L b) : b = true := by
  cases b with
  | true => rfl
  | false =>
    exfalso
    refine hx fun v hv hn => Classical.byContradiction fun hne => ?_
    rcases ways_mux ht hc with h | ⟨d, h⟩
    · have h1 := hm v hv
      unfold mayV at h1
      simp only [Bool.and_eq_true] at h1
      exact (nameB_nm h1.1).1 (by rw [hn, h]; rfl)
    · rw [← hn] at h
      have := hb rfl v hv hne d true h
      cases this
theorem ways_uniq {T : Nat → SR} {n : Nat} {s : ByteArray} {d m d' m' : Bool} (h : WaysP T n s d m) (h' : WaysP T n s d' m') : m = m' := by
  rcases h with ⟨j, h1, h2, h3, _, rfl⟩ | ⟨h1, _, rfl⟩ <;> rcases h' with ⟨i, g1, g2, g3, _, rfl⟩ | ⟨g1, _, rfl⟩
  · have : j = i := by
      rcases Nat.lt_trichotomy j i with h | h | h
      · have := g3 j h; rw [h2] at this; cases this
      · exact h
      · have := h3 i h; rw [g2] at this; cases this
    rw [this]
  · have := g1 j h1; rw [h2] at this; cases this
  · have := h1 i g1; rw [g2] at this; cases this
  · rfl
theorem blind_step {T : Nat → SR} {tn : Nat} {L : List RV} {i : Nat} {v : RV} {bb m d : Bool} (h : BlindP T tn (L.take i) bb) (hi : L[i]? = some v) (hw : WaysP T tn v.nm d m) : BlindP T tn (L.take (i + 1)) (bb || (m && !v.L.isEmpty)) := by
  intro hb y hy hne d' m' hw'
  rw [Bool.or_eq_false_iff] at hb
  rw [List.take_add_one, hi, List.mem_append] at hy
  rcases hy with hy | hy
  · exact h hb.1 y hy hne d' m' hw'
  · have hy : y = v := by simpa using hy
    subst hy
    have h1 := hb.2
    rw [ways_uniq hw' hw]
    cases m with
    | false => rfl
    | true =>
      exfalso
      rw [Bool.true_and] at h1
      have : y.L.isEmpty = true := by simpa using h1
      exact hne (List.isEmpty_iff.1 this)
set_option maxRecDepth 100000 in
set_option maxHeartbeats 16000000 in
theorem walk_ModelNorms {w0 : World} (k u : Int) (x : Bool) (A : Option Addr) (n c : Nat) (R : Nat → RL) (wk : (Lit.int .i64 k).wf = true) (wu : (Lit.int .i64 u).wf = true) (hnc : n ≤ c) (hcm : c ≤ maxLen) (hR : RlA w0 A n R) (TA : Option Addr) (tn tcap : Nat) (T : Nat → SR) (hT : TbA w0 TA tn T) (g : RecV) (hg : g.ok) (hTab : TabP w0) :
    Calls Tryz.prog 11 #[.agg (polA k u x A n c), .slice TA tn tcap, .agg (rcells g)] w0 fun e w' => e = .returned (.bool true) ∧ Below w0.heap.size w0 w' := by
  obtain ⟨B, hBs⟩ : ∃ B, w0.heap.size = B := ⟨_, rfl⟩
  obtain ⟨W0, hW0⟩ : ∃ W, (w0.alloc (.cells (polA k u x A n c) 39)).alloc (.cells (rcells g) 74) = W := ⟨_, rfl⟩
  have hB0 : Below B w0 W0 := by rw [← hW0, ← hBs]; exact ((Below.refl _ _).alloc (Nat.le_refl _) _).alloc (by simp) _
  have hP0 : RowC W0 B (polA k u x A n c) 39 := by rw [← hW0, ← hBs]; exact (RowC.new _ _ _ _ rfl).alloc _
  have hG0 : RowC W0 (B + 1) (rcells g) 74 := by rw [← hW0, ← hBs]; exact RowC.new _ _ _ _ (by simp)
  have hS0 : B + 2 = W0.heap.size := by rw [← hW0, ← hBs]; simp
  have HRT : Hid (∀ W, Below B w0 W → RlA W A n R ∧ TbA W TA tn T ∧ TabP W) := Lib.hid fun W hW => ⟨hR.below hW (Nat.le_of_eq hBs), hT.below hW (Nat.le_of_eq hBs), tab_on hTab hW (Nat.le_of_eq hBs)⟩
  have HFX : Hid (∀ W, Below W0.heap.size W0 W → RowC W B (polA k u x A n c) 39 ∧ RowC W (B + 1) (rcells g) 74 ∧ Below B w0 W) := Lib.hid fun W hW => ⟨hP0.below hW hP0.lt, hG0.below hW hG0.lt, hB0.trans (hW.mono (by omega))⟩
  have HL := Lib.hid (light17_any k u x A n c R W0 hnc hcm (HRT.out _ hB0).1)
  have HW := Lib.hid hW0
  have HBS := Lib.hid hBs
  have HS0 := Lib.hid hS0
  have HGOK := Lib.hid hg
  have p0 := hP0.cell 0 (.int .i64 k) rfl
  have p1 := hP0.cell 1 (.int .i64 u) rfl
  have p2 := hP0.cell 2 (.bool x) rfl
  have p3 := hP0.cell 3 (.slice A n c) rfl
  clear hB0 hP0 hG0 hR hT hTab wk wu hW0 hS0 hg
  unfold rcells at HW HFX ⊢
  go_enter Tryz.func11, Tryz.ntmps11
  go_upto_region 1 with fail
  rw [HW.out]
  (try rw [hBs])
  clear hBs
  go_wp2_with fail
  refine HL.out.mono ?_
  rintro e w1 ⟨⟨bl, rfl, hlight⟩, hB1⟩
  have HB1 := Lib.hid hB1
  clear hB1 p0 p1 p2 p3 HL
  rcases bl with _ | _
  · go_wp2
    go_ret
    exact ⟨rfl, by rw [HBS.out]; exact (HFX.out _ HB1.out).2.2⟩
  have HLP := Lib.hid (hlight rfl)
  have hn40 := HLP.out.1
  clear hlight
  have HFEW := Lib.hid (few17_any TA tn tcap T w1 (HRT.out _ (HFX.out _ HB1.out).2.2).2.1)
  go_wp2_with fail
  refine HFEW.out.mono ?_
  rintro e w2 ⟨⟨hfew, rfl⟩ | ⟨hfew, rfl⟩, rfl⟩
  rotate_left
  · go_wp2
    go_ret
    exact ⟨rfl, by rw [HBS.out]; exact (HFX.out _ HB1.out).2.2⟩
  have ht40 := hfew.1
  clear hfew HFEW
  have HAW := Lib.hid fun (W : World) (hW : Below B w0 W) => awake17_any W (HRT.out W hW).2.2
  have hq := (HFX.out w1 HB1.out).1
  have q0 := hq.cell 0 (.int .i64 k) rfl
  have q1 := hq.cell 1 (.int .i64 u) rfl
  have q2 := hq.cell 2 (.bool x) rfl
  have q3 := hq.cell 3 (.slice A n c) rfl
  have KO := Lib.hid (of17_any k u x A n c R w1 hn40 (fun i hi => (HLP.out.2 i hi).2) (HRT.out _ (HFX.out _ HB1.out).2.2).1)
  clear hq
  go_wp2_with fail
  refine KO.out.mono ?_
  rintro e w2 ⟨A2, c2, l2, rfl, hl2, hrow2, hv2, hB2⟩
  have HB2 : Hid (Below W0.heap.size W0 w2) := Lib.hid (bTr HB1.out hB2)
  have KRW := Lib.hid (rows17_any TA tn tcap T w2 (by omega) (HRT.out _ (HFX.out _ HB2.out).2.2).2.1)
  clear q0 q1 q2 q3 KO
  go_wp2_with fail
  refine KRW.out.mono ?_
  rintro e w3 ⟨A7, c7, rfl, hown7, hB3⟩
  obtain ⟨L, hL⟩ : ∃ L, l2.map RL.val = L := ⟨_, rfl⟩
  obtain ⟨C, hC⟩ : ∃ C, w3.heap.size = C := ⟨_, rfl⟩
  obtain ⟨W4, hW4⟩ : ∃ W, w3.alloc (.cells (polA k u x A2 n c2) 26) = W := ⟨_, rfl⟩
  have hB4 : Below w3.heap.size w3 W4 := by rw [← hW4]; exact (Below.refl _ _).alloc (Nat.le_refl _) _
  have hX4 : RowC W4 C (polA k u x A2 n c2) 26 := by rw [← hW4, ← hC]; exact RowC.new _ _ _ _ rfl
  have hO4 := (hrow2.rl.below hB3 (Nat.le_refl _)).below hB4 (Nat.le_refl _)
  have hT4 := (own_TbA hown7).below hB4 (Nat.le_refl _)
  have hB04 : Below W0.heap.size W0 W4 := bTr (bTr HB2.out hB3) hB4
  have hsm : ∀ e ∈ l2, SmallV e.val := fun e he => small_ru17 (hrow2.2 e he)
  have h12 : ∀ e ∈ l2, e.n ≤ 100000 := small_of17 hv2 fun i hi => (HLP.out.2 i hi).2
  have HFY : Hid (∀ W, Below W4.heap.size W4 W → RowC W C (polA k u x A2 n c2) 26 ∧ RlL W A2 l2 ∧ TbA W A7 tn T ∧ RowC W (B + 1) #[.int .u32 g.n, .int .u32 g.a, .int .u64 g.p, .int .u64 (g.q 0), .int .u64 (g.q 1), .int .u64 (g.q 2), .int .u64 (g.q 3), .int .u64 (g.q 4), .int .u64 (g.q 5)] 74 ∧ Below B w0 W) := Lib.hid fun W hW => ⟨hX4.below hW hX4.lt, hO4.below hW (Nat.le_refl _), hT4.below hW (Nat.le_refl _), (HFX.out _ (bTr hB04 hW)).2.1, (HFX.out _ (bTr hB04 hW)).2.2⟩
  have kn := policyN_any k u x A2 l2 c2 W4 hO4 (by omega) h12
  rw [hl2, hL] at kn
  have KN := Lib.hid kn
  have KJ : Hid (∀ W, Below W4.heap.size W4 W → Calls Tryz.prog 38 #[.agg (polA k u x A2 n c2), .slice A7 tn c7, .agg (rcells g)] W fun e w' => ∃ cc ee : Nat, e = .returned (.tuple #[.int .u32 cc, .int .i64 ee]) ∧ JudP k u x L T tn g cc ee ∧ Below W.heap.size W w') := Lib.hid fun W hW => by
    have h := judge_any k u x A2 l2 c2 A7 tn c7 T g W (HFY.out W hW).2.1 (by omega) h12 hsm (by omega) (HFY.out W hW).2.2.1 HGOK.out
    rw [hl2, hL] at h
    exact h
  have HSM : Hid (∀ v ∈ L, SmallV v) := Lib.hid fun v hv => by
    rw [← hL] at hv
    obtain ⟨e, he, rfl⟩ := List.mem_map.1 hv
    exact hsm e he
  have KRC := Lib.hid fun W => record17_any g W
  have HW4 := Lib.hid hW4
  have HLE := Lib.hid (And.intro hl2 hL)
  unfold rcells at KRC KJ
  have p0 := hX4.cell 0 (.int .i64 k) rfl
  have p1 := hX4.cell 1 (.int .i64 u) rfl
  have p2 := hX4.cell 2 (.bool x) rfl
  have p3 := hX4.cell 3 (.slice A2 n c2) rfl
  clear hB4 hX4 hO4 hT4 hB04 hsm h12 hrow2 hv2 hB2 hB3 hown7 KRW kn hl2 hL
  go_upto_region 4 with fail
  (try rw [hC])
  (try rw [HW4.out])
  clear hC hW4
  go_wp2_with fail
  refine KN.out.mono ?_
  rintro e w5 ⟨A4, c4, ls, k4, u4, x4, er, rfl, hrow5, hB5, hln5, hsm5, hor⟩
  obtain ⟨m4, hm4⟩ : ∃ m4, ls.length = m4 := ⟨_, rfl⟩
  rw [hm4]
  clear p0 p1 p2 p3 KN
  obtain ⟨D, hD⟩ : ∃ D, w5.heap.size = D := ⟨_, rfl⟩
  obtain ⟨W6, hW6⟩ : ∃ W, w5.alloc (.cells (polA k4 u4 x4 A4 m4 c4) 26) = W := ⟨_, rfl⟩
  have hB6 : Below w5.heap.size w5 W6 := by rw [← hW6]; exact (Below.refl _ _).alloc (Nat.le_refl _) _
  have hN6 : RowC W6 D (polA k4 u4 x4 A4 m4 c4) 26 := by rw [← hW6, ← hD]; exact RowC.new _ _ _ _ rfl
  have hO6 := hrow5.rl.below hB6 (Nat.le_refl _)
  have HB6 : Hid (Below W4.heap.size W4 W6) := Lib.hid (bTr hB5 hB6)
  have HN6 := Lib.hid hN6
  have HO6 := Lib.hid hO6
  have HOR := Lib.hid hor
  have HM4 := Lib.hid hm4
  have HSM5 := Lib.hid hsm5
  have HW6 := Lib.hid hW6
  clear hrow5 hB5 hB6 hN6 hO6 hor hsm5 hln5 hm4
  go_upto_region 5 with fail
  (try rw [hD])
  (try rw [HW6.out])
  clear hD hW6
  have HM : Hid (∀ w', Below W6.heap.size W6 w' → w'.cell? ⟨C, 0, none⟩ = some (.int .i64 k) ∧ w'.cell? ⟨C, 1, none⟩ = some (.int .i64 u) ∧ w'.cell? ⟨C, 2, none⟩ = some (.bool x) ∧ w'.cell? ⟨C, 3, none⟩ = some (.slice A2 n c2) ∧ w'.cell? ⟨B + 1, 0, none⟩ = some (.int .u32 g.n) ∧ w'.cell? ⟨B + 1, 1, none⟩ = some (.int .u32 g.a) ∧ w'.cell? ⟨B + 1, 2, none⟩ = some (.int .u64 g.p) ∧ w'.cell? ⟨B + 1, 3, none⟩ = some (.int .u64 (g.q 0)) ∧ w'.cell? ⟨B + 1, 4, none⟩ = some (.int .u64 (g.q 1)) ∧ w'.cell? ⟨B + 1, 5, none⟩ = some (.int .u64 (g.q 2)) ∧ w'.cell? ⟨B + 1, 6, none⟩ = some (.int .u64 (g.q 3)) ∧ w'.cell? ⟨B + 1, 7, none⟩ = some (.int .u64 (g.q 4)) ∧ w'.cell? ⟨B + 1, 8, none⟩ = some (.int .u64 (g.q 5))) := Lib.hid fun W hW => by
    obtain ⟨h1, _, _, h2, _⟩ := HFY.out W (bTr HB6.out hW)
    exact ⟨h1.cell 0 _ rfl, h1.cell 1 _ rfl, h1.cell 2 _ rfl, h1.cell 3 _ rfl, h2.cell 0 _ rfl, h2.cell 1 _ rfl, h2.cell 2 _ rfl, h2.cell 3 _ rfl, h2.cell 4 _ rfl, h2.cell 5 _ rfl, h2.cell 6 _ rfl, h2.cell 7 _ rfl, h2.cell 8 _ rfl⟩
  obtain ⟨m0, m1, m2, m3, m5, m6, m7, m8, m9, ma, mb, mc, md⟩ := HM.out W6 (Below.refl _ _)
  go_region_held3 (fun w' => w'.cell? ⟨C, 0, none⟩ = some (.int .i64 k) ∧ w'.cell? ⟨C, 1, none⟩ = some (.int .i64 u) ∧ w'.cell? ⟨C, 2, none⟩ = some (.bool x) ∧ w'.cell? ⟨C, 3, none⟩ = some (.slice A2 n c2) ∧ w'.cell? ⟨B + 1, 0, none⟩ = some (.int .u32 g.n) ∧ w'.cell? ⟨B + 1, 1, none⟩ = some (.int .u32 g.a) ∧ w'.cell? ⟨B + 1, 2, none⟩ = some (.int .u64 g.p) ∧ w'.cell? ⟨B + 1, 3, none⟩ = some (.int .u64 (g.q 0)) ∧ w'.cell? ⟨B + 1, 4, none⟩ = some (.int .u64 (g.q 1)) ∧ w'.cell? ⟨B + 1, 5, none⟩ = some (.int .u64 (g.q 2)) ∧ w'.cell? ⟨B + 1, 6, none⟩ = some (.int .u64 (g.q 3)) ∧ w'.cell? ⟨B + 1, 7, none⟩ = some (.int .u64 (g.q 4)) ∧ w'.cell? ⟨B + 1, 8, none⟩ = some (.int .u64 (g.q 5)))
    (first | (with_reducible exact HM.out _ (by assumption)) | exact HM.out _ (Below.refl _ _) | exact HM.out _ (Below.refl _ _).drew)
    (first
      | (go_at_call 40
         refine (KRC.out _).mono ?_
         rintro e w8 ⟨rfl, hB8⟩
         have hk8 : Below W6.heap.size W6 w8 := (Below.refl _ _).drew.trans hB8)
      | (go_at_call 38
         refine (KJ.out _ (bTr HB6.out hk8)).mono ?_
         rintro e v1 ⟨cc, ee, rfl, hj, hB9⟩
         have hk9 : Below W6.heap.size W6 v1 := bTr hk8 hB9))
  have HJ := Lib.hid hj
  have HV1 := Lib.hid hk9
  clear m0 m1 m2 m3 m5 m6 m7 m8 m9 ma mb mc md hk8 hk9 hB8 hB9 hj KJ
  have HBV := Lib.hid (HFY.out _ (bTr HB6.out HV1.out)).2.2.2.2
  by_cases hz : er = 0 ∧ ee = 0
  rotate_left
  · have KW := Lib.hid (HAW.out v1 HBV.out)
    have HSV : Hid (B ≤ v1.heap.size) := Lib.hid (by have := HBV.out.size; rw [HBS.out] at this; exact this)
    have hcond : ((er != 0) || ((ee : Int) != 0)) = true := by
      by_cases h : er = 0
      · have h2 : ee ≠ 0 := fun e => hz ⟨h, e⟩
        simp; omega
      · simp [h]
    obtain ⟨b1, hb1⟩ : ∃ b1, (er != 0) = b1 := ⟨_, rfl⟩
    obtain ⟨b2, hb2⟩ : ∃ b2, ((ee : Int) != 0) = b2 := ⟨_, rfl⟩
    rw [hb1, hb2] at hcond
    clear hz
    go_upto_region 6 with fail
    go_cut [49] from 44 to 49 (fun s wx => s = .bool true ∧ v1 = wx)
    case first =>
      cases b1 <;> cases b2 <;> simp only [Bool.or_false, Bool.or_true, reduceCtorEq] at hcond
      all_goals go_wp2
      all_goals go_meet
      all_goals exact ⟨rfl, rfl⟩
    case rest =>
    obtain ⟨rfl, rfl⟩ := hcut
    go_wp2_with fail
    refine KW.out.mono ?_
    rintro e v2 ⟨rfl, hV2⟩
    go_wp2
    go_ret
    exact ⟨rfl, by rw [HBS.out]; exact HBV.out.trans (hV2.mono HSV.out)⟩
  obtain ⟨rfl, rfl⟩ := hz
  obtain ⟨hrt, e1, e2, e3, hvn⟩ : rightV k u L = true ∧ k4 = k ∧ u4 = u ∧ x4 = x ∧ ls.map RL.val = nP k u L := by
    rcases HOR.out with ⟨h1, _, h2, h3, h4, h5⟩ | ⟨_, h, _⟩
    · exact ⟨h1, h2, h3, h4, h5⟩
    · cases h
  subst e1 e2 e3
  have hlen : m4 ≤ n := by
    have h1 := nP_len k4 u4 L
    rw [← hvn, List.length_map, HM4.out] at h1
    have h2 : L.length = n := by rw [← HLE.out.2, List.length_map, HLE.out.1]
    omega
  have KJ2 : Hid (∀ W, Below W6.heap.size W6 W → Calls Tryz.prog 38 #[.agg (polA k4 u4 x4 A4 m4 c4), .slice A7 tn c7, .agg #[.int .u32 g.n, .int .u32 g.a, .int .u64 g.p, .int .u64 (g.q 0), .int .u64 (g.q 1), .int .u64 (g.q 2), .int .u64 (g.q 3), .int .u64 (g.q 4), .int .u64 (g.q 5)]] W fun e w' => ∃ cc ee : Nat, e = .returned (.tuple #[.int .u32 cc, .int .i64 ee]) ∧ JudP k4 u4 x4 (nP k4 u4 L) T tn g cc ee ∧ Below W.heap.size W w') := Lib.hid fun W hW => by
    have h := judge_any k4 u4 x4 A4 ls c4 A7 tn c7 T g W (HO6.out.below hW (Nat.le_refl _)) (by rw [HM4.out]; omega) (fun e he => by have := HSM5.out e he; omega) (fun e he => small_ru17 (HO6.out.2 e he)) (by omega) (HFY.out _ (bTr HB6.out hW)).2.2.1 HGOK.out
    rw [HM4.out, hvn] at h
    exact h
  have HM2 : Hid (∀ w', Below v1.heap.size v1 w' → w'.cell? ⟨D, 0, none⟩ = some (.int .i64 k4) ∧ w'.cell? ⟨D, 1, none⟩ = some (.int .i64 u4) ∧ w'.cell? ⟨D, 2, none⟩ = some (.bool x4) ∧ w'.cell? ⟨D, 3, none⟩ = some (.slice A4 m4 c4) ∧ w'.cell? ⟨B + 1, 0, none⟩ = some (.int .u32 g.n) ∧ w'.cell? ⟨B + 1, 1, none⟩ = some (.int .u32 g.a) ∧ w'.cell? ⟨B + 1, 2, none⟩ = some (.int .u64 g.p) ∧ w'.cell? ⟨B + 1, 3, none⟩ = some (.int .u64 (g.q 0)) ∧ w'.cell? ⟨B + 1, 4, none⟩ = some (.int .u64 (g.q 1)) ∧ w'.cell? ⟨B + 1, 5, none⟩ = some (.int .u64 (g.q 2)) ∧ w'.cell? ⟨B + 1, 6, none⟩ = some (.int .u64 (g.q 3)) ∧ w'.cell? ⟨B + 1, 7, none⟩ = some (.int .u64 (g.q 4)) ∧ w'.cell? ⟨B + 1, 8, none⟩ = some (.int .u64 (g.q 5))) := Lib.hid fun W hW => by
    have h1 := HN6.out.below (bTr HV1.out hW) HN6.out.lt
    obtain ⟨_, _, _, h2, _⟩ := HFY.out W (bTr HB6.out (bTr HV1.out hW))
    exact ⟨h1.cell 0 _ rfl, h1.cell 1 _ rfl, h1.cell 2 _ rfl, h1.cell 3 _ rfl, h2.cell 0 _ rfl, h2.cell 1 _ rfl, h2.cell 2 _ rfl, h2.cell 3 _ rfl, h2.cell 4 _ rfl, h2.cell 5 _ rfl, h2.cell 6 _ rfl, h2.cell 7 _ rfl, h2.cell 8 _ rfl⟩
  have HRTV := Lib.hid hrt
  obtain ⟨m0, m1, m2, m3, m5, m6, m7, m8, m9, ma, mb, mc, md⟩ := HM2.out v1 (Below.refl _ _)
  clear hvn hrt HM
  go_upto_region 8 with fail
  go_region_held3 (fun w' => w'.cell? ⟨D, 0, none⟩ = some (.int .i64 k4) ∧ w'.cell? ⟨D, 1, none⟩ = some (.int .i64 u4) ∧ w'.cell? ⟨D, 2, none⟩ = some (.bool x4) ∧ w'.cell? ⟨D, 3, none⟩ = some (.slice A4 m4 c4) ∧ w'.cell? ⟨B + 1, 0, none⟩ = some (.int .u32 g.n) ∧ w'.cell? ⟨B + 1, 1, none⟩ = some (.int .u32 g.a) ∧ w'.cell? ⟨B + 1, 2, none⟩ = some (.int .u64 g.p) ∧ w'.cell? ⟨B + 1, 3, none⟩ = some (.int .u64 (g.q 0)) ∧ w'.cell? ⟨B + 1, 4, none⟩ = some (.int .u64 (g.q 1)) ∧ w'.cell? ⟨B + 1, 5, none⟩ = some (.int .u64 (g.q 2)) ∧ w'.cell? ⟨B + 1, 6, none⟩ = some (.int .u64 (g.q 3)) ∧ w'.cell? ⟨B + 1, 7, none⟩ = some (.int .u64 (g.q 4)) ∧ w'.cell? ⟨B + 1, 8, none⟩ = some (.int .u64 (g.q 5)))
    (first | (with_reducible exact HM2.out _ (by assumption)) | exact HM2.out _ (Below.refl _ _) | exact HM2.out _ (Below.refl _ _).drew)
    (first
      | (go_at_call 40
         refine (KRC.out _).mono ?_
         rintro e w8 ⟨rfl, hB8⟩
         have hk8 : Below v1.heap.size v1 w8 := (Below.refl _ _).drew.trans hB8)
      | (go_at_call 38
         refine (KJ2.out _ (bTr HV1.out hk8)).mono ?_
         rintro e v2 ⟨cc2, ee2, rfl, hj, hB9⟩
         have hk9 : Below v1.heap.size v1 v2 := bTr hk8 hB9))
  obtain ⟨hz2, hor2⟩ := jud_norm HJ.out rfl HSM.out HGOK.out hj
  subst hz2
  have HOR2 := Lib.hid hor2
  have HV2 : Hid (Below W4.heap.size W4 v2) := Lib.hid (bTr HB6.out (bTr HV1.out hk9))
  clear m0 m1 m2 m3 m5 m6 m7 m8 m9 ma mb mc md hk8 hk9 hB8 hB9 hj KJ2 HM2 hor2
  have KWY : Hid (∀ W, Below W4.heap.size W4 W → ∀ nm, Calls Tryz.prog 44 #[.slice A7 tn c7, .string nm] W fun e w' => ∃ d m, WaysP T tn nm d m ∧ e = .returned (.tuple #[.bool d, .bool m]) ∧ Below W.heap.size W w') := Lib.hid fun W hW nm => ways_any A7 tn c7 T nm W (by omega) (HFY.out W hW).2.2.1
  go_wp2
  go_loopw [15, 16] (fun b s wq => ∃ (i : Nat) (bb : Bool), i ≤ n ∧ b = .bool bb ∧ s = .int .i64 i ∧ Hid (Below v2.heap.size v2 wq ∧ BlindP T tn (L.take i) bb)) (fun _ s _ => n - (intOf s).toNat)
  case atStart => exact ⟨0, false, Nat.zero_le _, rfl, rfl, Lib.hid ⟨Below.refl _ _, fun _ v hv => by cases hv⟩⟩
  case round =>
    obtain ⟨i, bb, hi, rfl, rfl, HI⟩ := hrel
    have hfy := HFY.out _ (bTr HV2.out HI.out.1)
    have p3 := hfy.1.cell 3 (.slice A2 n c2) rfl
    by_cases hlt : i < n
    · have hli : i < l2.length := by rw [HLE.out.1]; exact hlt
      rcases hfy.2.1.1 with h0 | ⟨b2, o2, rfl, hbl, hc⟩
      · rw [h0] at hli; exact absurd hli (Nat.not_lt_zero _)
      obtain ⟨q0, q1, q2, q3⟩ := hc i hli
      obtain ⟨r, hr⟩ : ∃ r, l2[i]! = r := ⟨_, rfl⟩
      rw [hr] at q0 q1 q2 q3
      rw [Nat.add_zero] at q0
      have hLi : L[i]? = some r.val := by
        rw [← HLE.out.2, List.getElem?_map, List.getElem?_eq_getElem hli, ← hr, getElem!_pos l2 i hli]
        rfl
      have HLI := Lib.hid hLi
      have HQ3 : Hid (∀ W, Below wr.heap.size wr W → W.cell? ⟨C, 3, none⟩ = some (.slice (some ⟨b2, o2, none⟩) n c2) ∧ W.cell? ⟨b2, o2 + i * 4 + 3, none⟩ = some (.slice r.A r.n r.c)) := Lib.hid fun W hW => ⟨(HFY.out _ (bTr HV2.out (bTr HI.out.1 hW))).1.cell 3 _ rfl, (hW.cell (p := ⟨b2, o2 + i * 4 + 3, none⟩) hbl).trans q3⟩
      have KY := Lib.hid (KWY.out wr (bTr HV2.out HI.out.1) r.nm)
      have i1 : (0 : Int) ≤ (i : Int) := by omega
      have i2 : (i : Int) < (n : Int) := by omega
      have hemp : r.val.L.isEmpty = decide (r.n = 0) := by
        by_cases h : r.n = 0
        · simp [RL.val, h]
        · simp [RL.val, h]
      have HEMP := Lib.hid hemp
      clear hfy hbl hc hr hli hLi q1 q2 q3 hemp
      go_wp2_with fail
      refine KY.out.mono ?_
      rintro e w9 ⟨d, m, hway, rfl, hB9⟩
      have hB9' : Below v2.heap.size v2 w9 := bTr HI.out.1 hB9
      have HSTEP := Lib.hid (blind_step HI.out.2 HLI.out hway)
      have HB9 := Lib.hid hB9'
      obtain ⟨x3, y3⟩ := HQ3.out w9 hB9
      clear hway hB9 hB9' p3 q0 KY HQ3
      by_cases h0 : r.n = 0
      · have g1 : decide ((r.n : Int) > 0) = false := decide_eq_false (by omega)
        have g2 : ¬ 0 < r.n := by omega
        have HS2 : Hid (BlindP T tn (L.take (i + 1)) bb) := Lib.hid (by
          have h := HSTEP.out
          rw [HEMP.out, decide_eq_true h0] at h
          simpa using h)
        clear h0 HSTEP
        cases bb <;> cases m
        all_goals go_wp2
        all_goals (refine ⟨?_, by simp [intOf]; omega⟩; (repeat apply Exists.intro); refine ⟨?_, rfl⟩; exact ⟨i + 1, _, by omega, rfl, by go_num, Lib.hid ⟨HB9.out, HS2.out⟩⟩)
      · have g1 : decide ((r.n : Int) > 0) = true := decide_eq_true (by omega)
        have g2 : 0 < r.n := by omega
        have HS2 : Hid (BlindP T tn (L.take (i + 1)) (bb || m)) := Lib.hid (by
          have h := HSTEP.out
          rw [HEMP.out, decide_eq_false h0] at h
          simpa using h)
        clear h0 HSTEP
        cases bb <;> cases m
        all_goals go_wp2
        all_goals (refine ⟨?_, by simp [intOf]; omega⟩; (repeat apply Exists.intro); refine ⟨?_, rfl⟩; exact ⟨i + 1, _, by omega, rfl, by go_num, Lib.hid ⟨HB9.out, HS2.out⟩⟩)
    · obtain rfl : i = n := by omega
      have hbl : BlindP T tn L bb := by
        have h := HI.out.2
        rw [List.take_of_length_le (by rw [← HLE.out.2, List.length_map, HLE.out.1]; exact Nat.le_refl _)] at h
        exact h
      have hsz : B ≤ wr.heap.size := by have h := (HFY.out _ (bTr HV2.out HI.out.1)).2.2.2.2.size; rw [HBS.out] at h; exact h
      have HBW := Lib.hid hfy.2.2.2.2
      have HSZ := Lib.hid hsz
      have HKW := Lib.hid HAW
      by_cases hcc : cc2 = cc
      · subst hcc
        have KW := Lib.hid (HAW.out wr HBW.out)
        clear hfy hbl hsz
        go_wp2_with fail
        refine KW.out.mono ?_
        rintro e w9 ⟨rfl, hB9⟩
        go_wp2
        go_ret
        exact ⟨rfl, by rw [HBS.out]; exact HBW.out.trans (hB9.mono HSZ.out)⟩
      · obtain ⟨sm, ab, nm, hcall, hx⟩ := HOR2.out.resolve_left hcc
        have hmay : ∀ v ∈ L, mayV v = true := by
          have h := HRTV.out
          unfold rightV at h
          simp only [Bool.and_eq_true, decide_eq_true_eq, List.all_eq_true] at h
          exact h.2.2
        have hrp := (jud_ok HJ.out rfl).2.1
        obtain rfl : bb = true := blind_mux hrp hcall hmay hx hbl
        have hne : ((cc : Int) == (cc2 : Int)) = false := by simp; omega
        have hne2 : ¬ ((cc : Int) = (cc2 : Int)) := by omega
        have HCALL := Lib.hid hcall
        have hg := hfy.2.2.2.1
        have KOF := of_mux A7 tn c7 T g HGOK.out
        have KOF2 := Lib.hid fun (W : World) (hW : Below W4.heap.size W4 W) => KOF W (by omega) (HFY.out W hW).2.2.1
        unfold rcells at KOF2
        have d0 := hg.cell 0 (.int .u32 g.n) rfl
        have d1 := hg.cell 1 (.int .u32 g.a) rfl
        have d2 := hg.cell 2 (.int .u64 g.p) rfl
        have d3 := hg.cell 3 (.int .u64 (g.q 0)) rfl
        have d4 := hg.cell 4 (.int .u64 (g.q 1)) rfl
        have d5 := hg.cell 5 (.int .u64 (g.q 2)) rfl
        have d6 := hg.cell 6 (.int .u64 (g.q 3)) rfl
        have d7 := hg.cell 7 (.int .u64 (g.q 4)) rfl
        have d8 := hg.cell 8 (.int .u64 (g.q 5)) rfl
        clear hfy hbl hsz hcc hx hmay hrp hcall hg KOF
        go_wp2_with fail
        refine (KRC.out _).mono ?_
        rintro e w8 ⟨rfl, hB8⟩
        have HB8 : Hid (Below W4.heap.size W4 w8) := Lib.hid (bTr HV2.out (bTr HI.out.1 hB8))
        clear d0 d1 d2 d3 d4 d5 d6 d7 d8 hB8
        go_wp2_with fail
        refine (KOF2.out w8 HB8.out).mono ?_
        rintro e w9 ⟨sm', ab', nm', mu', hcall', rfl, hB9⟩
        obtain ⟨rfl, rfl, rfl, rfl⟩ := CallP.uniq HCALL.out hcall'
        have HB9 : Hid (Below W4.heap.size W4 w9) := Lib.hid (bTr HB8.out hB9)
        have KW := Lib.hid (HAW.out w9 (HFY.out _ HB9.out).2.2.2.2)
        have HSZ9 : Hid (B ≤ w9.heap.size) := Lib.hid (by have h := (HFY.out _ HB9.out).2.2.2.2.size; rw [HBS.out] at h; exact h)
        have hfld := fun W => fld3 (.bool sm) (.int .i64 (ab : Nat)) (.string nm) (.bool true) W
        clear hcall' hB9
        go_wp2_with fail
        refine KW.out.mono ?_
        rintro e v9 ⟨rfl, hV9⟩
        go_wp2
        go_ret
        exact ⟨rfl, by rw [HBS.out]; exact (HFY.out _ HB9.out).2.2.2.2.trans (hV9.mono HSZ9.out)⟩
theorem of_laid {W : World} (h : laidMetH Tryz.prog Rows.modelNormsRow.laid W) : TabP W := by
  rw [MakeChecks.laidMetH_plain _ _ _ (by kernel_rfl)] at h
  exact tab_of_third h
end Go.Proofs.YtcmdmnnkbliggaaGreatDoor
