/-
  The law PolicyMore holds for every input: a policy's text with the line of a rule more behind it has that rule more. No condition.
-/
import Derived.Test.YtlpcallgkciklaaGreatDoorRows
import Derived.Test.YtlpcallgkciklaaGreatDoorCards
import Derived.Test.YtlpcallgkciklaaGreatDoorTie
import Derived.Test.YtlpcallgkciklaaGreatDoorMq
import Derived.Test.YtlpcallgkciklaaGreatDoorTab
import Derived.Lay
import Derived.MakeChecks
import Derived.WalkKit
import Derived.ProofKit
import Derived.OpenShut
import Derived.ShutString
import Derived.ChangeOld
import Derived.Below
import Derived.Lib.SmallJoins
import Derived.SevenTiedAt
import Derived.LaidMore
import Derived.Stop.Joined
import Derived.RegionTactic
import Derived.Deep.Cut
import Derived.Deep.CutRange
import Derived.Deep.RegionHeld3
namespace Go.Proofs.YtlpcallgkciklaaGreatDoor
open Go.RowKit Go.Shelf
set_option linter.unusedVariables false

theorem small_of {R : Nat → RL} {n : Nat} {l : List RL} (h : l.map RL.val = (List.range n).map (fun i => (R i).val)) (hR : ∀ i, i < n → (R i).n ≤ 12) : ∀ e ∈ l, e.n ≤ 100000 := fun e he => by
  have h1 : e.val ∈ (List.range n).map (fun i => (R i).val) := by rw [← h]; exact List.mem_map.2 ⟨e, he, rfl⟩
  obtain ⟨i, hi, hv⟩ := List.mem_map.1 h1
  have h2 := hR i (List.mem_range.1 hi)
  have h3 : e.val.L.length = e.n := by simp [RL.val]
  have h4 : (R i).val.L.length = (R i).n := by simp [RL.val]
  rw [hv] at h4
  omega
theorem small_ru {w : World} {r : RL} (h : RuT w r) : SmallV r.val := fun c hc => by
  obtain ⟨i, hi, rfl⟩ := List.mem_map.1 hc
  rw [List.mem_range] at hi
  rcases h.2.2.2.2.2.conA with h0 | ⟨b, o, _, _, hcs⟩
  · omega
  · exact (hcs i hi).2.2.2.2
/-- A right policy's own text is parsed as the policy. -/
theorem parse_own {k u : Int} {x : Bool} {L : List RV} (hr : rightV k u L = true) (hs : ∀ r ∈ L, SmallV r) (s : ByteArray) (hse : s = ⟨(joinF (polL k u x L)).toArray⟩) (hsz : s.size ≤ 65536) (w : World) (ht : TabP w) : Calls Tryz.prog 16 #[.string s] w (ParseP w k u x L) := by
  subst hse
  have hd : (⟨(joinF (polL k u x L)).toArray⟩ : ByteArray).data.toList = joinF (polL k u x L) := rfl
  refine parseP_ok _ hsz (polL k u x L) (by rw [hd, lines_pol x hr]) (by rw [hd, lines_pol x hr, numF_ws]) (List.cons_ne_nil _ _) k u x L (runs_lines x hr hs) w ht

theorem small_vals {w : World} {A : Option Addr} {n : Nat} {R : Nat → RL} (h : RlA w A n R) : ∀ r ∈ (List.range n).map (fun i => (R i).val), SmallV r := fun r hr => by
  obtain ⟨i, hi, rfl⟩ := List.mem_map.1 hr
  rw [List.mem_range] at hi
  intro c hc
  obtain ⟨q, hq, rfl⟩ := List.mem_map.1 hc
  rw [List.mem_range] at hq
  rcases (h.rest i hi).2.2.2.2.2 with h0 | ⟨b, o, _, _, hcs⟩
  · omega
  · exact (hcs q hq).2.2.2.2
theorem print_of {k u : Int} {x : Bool} {n c1 base : Nat} {R : Nat → RL} {A1 : Option Addr} {l1 : List RL} {w : World} (hR : ∀ i, i < n → (R i).n ≤ 12) (hq : l1.length = n ∧ RowL w base A1 l1 c1 ∧ l1.map RL.val = (List.range n).map (fun i => (R i).val)) (hn : n ≤ 1000) (ht : TabP w) :
    Calls Tryz.prog 15 #[.agg (polA k u x A1 n c1)] w (PrintP w k u x ((List.range n).map fun i => (R i).val)) := by
  have h := printP_any k u x A1 l1 c1 w hq.2.1.rl (by omega) (small_of hq.2.2 hR) (fun r hr => small_ru (hq.2.1.2 r hr)) ht
  rw [hq.1, hq.2.2] at h
  exact h
theorem bAl2 {V w : World} {o : Obj} (h : Below V.heap.size V w) : Below V.heap.size V (w.alloc o) := h.alloc h.size o
theorem more_text (k u : Int) (x : Bool) (r : RV) {t hd tl : ByteArray} (hte : t = ⟨(joinF (polL k u x [r])).toArray⟩) (hhe : hd = ⟨(joinF (polL k u x [])).toArray⟩) (htl : tl = ⟨(joinF [rulL r]).toArray⟩) : t = hd ++ tl := by
  subst hte hhe htl
  apply ByteArray.ext
  rw [ByteArray.data_append]
  have h := join_more k u x [] r
  rw [List.nil_append] at h
  rw [h]
  simp
theorem more_text2 (k u : Int) (x : Bool) (r : RV) {s tl : ByteArray} {L : List RV} (hse : s = ⟨(joinF (polL k u x L)).toArray⟩) (htl : tl = ⟨(joinF [rulL r]).toArray⟩) : s ++ tl = ⟨(joinF (polL k u x (L ++ [r]))).toArray⟩ := by
  subst hse htl
  apply ByteArray.ext
  rw [ByteArray.data_append, join_more]
  simp
theorem ext_left (a b : ByteArray) : (a ++ b).extract 0 a.size = a := by
  apply ByteArray.ext
  rw [ByteArray.data_extract, ByteArray.data_append]
  show (a.data ++ b.data).extract 0 a.data.size = a.data
  simp
theorem ext_right (a b : ByteArray) : (a ++ b).extract a.size (a.size + b.size) = b := ByteArray.extract_append_eq_right rfl rfl
theorem bAl3 {X : Nat} {V w : World} {o : Obj} (hX : X ≤ V.heap.size) (h : Below X V w) : Below X V (w.alloc o) := h.alloc (Nat.le_trans hX h.size) o
theorem bTr5 {X : Nat} {V w w' : World} (h : Below X V w) (h' : Below X w w') : Below X V w' := h.trans h'
theorem own_new (w : World) (base k : Nat) (hk : k = w.heap.size) (hb : base ≤ w.heap.size) {F : Nat → Value} : OwnC (w.alloc (.cells #[] 44)) base 44 4 (some ⟨k, 0, none⟩) 0 0 F := by
  subst hk
  unfold OwnC
  exact World.ownsRow_made w #[] 0 hb (by simp [maxLen]) rfl
theorem own_drew {w : World} {base z n c : Nat} {E : TypeId} {A : Option Addr} {F : Nat → Value} (h : OwnC w base E z A n c F) : OwnC w.drew base E z A n c F := h
theorem rowc_drewP {w : World} {b : Nat} {cs : Array Value} {T : TypeId} (h : RowC w b cs T) : RowC w.drew b cs T := h
theorem rowc_grownP {w w' : World} {row : Option Nat} {b : Nat} {cs : Array Value} {T : TypeId} (hg : w.grownBy w' row) (h : RowC w b cs T) (hne : some b ≠ row) : RowC w' b cs T := (hg.block b h.lt hne).trans h
set_option maxRecDepth 100000 in
set_option maxHeartbeats 16000000 in
theorem walk_PolicyMore {w0 : World} (k u : Int) (x : Bool) (A : Option Addr) (n c : Nat) (R : Nat → RL) (wk : (Lit.int .i64 k).wf = true) (wu : (Lit.int .i64 u).wf = true) (hnc : n ≤ c) (hcm : c ≤ maxLen) (hR : RlA w0 A n R) (k' u' : Int) (x' : Bool) (A' : Option Addr) (n' c' : Nat) (R' : Nat → RL) (wk' : (Lit.int .i64 k').wf = true) (wu' : (Lit.int .i64 u').wf = true) (hnc' : n' ≤ c') (hcm' : c' ≤ maxLen) (hR' : RlA w0 A' n' R') (ht : TabP w0) :
    Calls Tryz.prog 5 #[.agg (polA k u x A n c), .agg (polA k' u' x' A' n' c')] w0 fun e w' => e = .returned (.bool true) ∧ Below w0.heap.size w0 w' := by
  obtain ⟨B, hBs⟩ : ∃ B, w0.heap.size = B := ⟨_, rfl⟩
  obtain ⟨W0, hW0⟩ : ∃ W, (w0.alloc (.cells (polA k u x A n c) 26)).alloc (.cells (polA k' u' x' A' n' c') 26) = W := ⟨_, rfl⟩
  have hB0 : Below B w0 W0 := by rw [← hW0, ← hBs]; exact ((Below.refl _ _).alloc (Nat.le_refl _) _).alloc (by simp) _
  have hP0 : RowC W0 B (polA k u x A n c) 26 := by rw [← hW0, ← hBs]; exact (RowC.new _ _ _ _ rfl).alloc _
  have hQ0 : RowC W0 (B + 1) (polA k' u' x' A' n' c') 26 := by rw [← hW0, ← hBs]; exact RowC.new _ _ _ _ (by simp)
  have hR0 := hR.below hB0 (by rw [hBs]; exact Nat.le_refl _)
  have hR0' := hR'.below hB0 (by rw [hBs]; exact Nat.le_refl _)
  have HL := Lib.hid (light14_any k u x A n c R W0 hnc hcm hR0)
  have HB0 := Lib.hid hB0
  have HP0 := Lib.hid hP0
  have HQ0 := Lib.hid hQ0
  have HR0 := Lib.hid hR0
  have HR0' := Lib.hid hR0'
  have HN' := Lib.hid (And.intro hnc' hcm')
  have HT := Lib.hid (tab_on ht hB0 (by rw [hBs]; exact Nat.le_refl _))
  have HW := Lib.hid hW0
  have HBS := Lib.hid hBs
  have p0 := hP0.cell 0 (.int .i64 k) rfl
  have p1 := hP0.cell 1 (.int .i64 u) rfl
  have p2 := hP0.cell 2 (.bool x) rfl
  have p3 := hP0.cell 3 (.slice A n c) rfl
  clear hB0 hP0 hQ0 hR hR0 hR' hR0' wk wu wk' wu' ht hnc' hcm' hW0
  go_enter Tryz.func5, Tryz.ntmps5
  go_upto_region 1 with fail
  rw [HW.out]
  (try rw [hBs])
  clear hBs
  go_wp2_with fail
  refine HL.out.mono ?_
  rintro e w1 ⟨⟨bl, rfl, hlight⟩, hB1⟩
  have HB01 := Lib.hid (HB0.out.trans (hB1.mono (by have := HB0.out.size; rw [HBS.out] at this; exact this)))
  have HP1 := Lib.hid (HP0.out.below hB1 HP0.out.lt)
  have HQ1 := Lib.hid (HQ0.out.below hB1 HQ0.out.lt)
  have HR1 := Lib.hid (HR0.out.below hB1 (Nat.le_refl _))
  have HR1' := Lib.hid (HR0'.out.below hB1 (Nat.le_refl _))
  have HT1 := Lib.hid (tab_on HT.out hB1 (Nat.le_refl _))
  have HS1 := Lib.hid (show B ≤ w1.heap.size by have := HB01.out.size; rw [HBS.out] at this; exact this)
  clear hB1 p0 p1 p2 p3 HP0 HQ0 HR0 HR0' HT HB0
  cases bl with
  | false =>
    go_wp2
    go_ret
    exact ⟨rfl, by rw [HBS.out]; exact HB01.out⟩
  | true =>
    have HLP := Lib.hid (hlight rfl)
    have q0 := HQ1.out.cell 0 (.int .i64 k') rfl
    have q1 := HQ1.out.cell 1 (.int .i64 u') rfl
    have q2 := HQ1.out.cell 2 (.bool x') rfl
    have q3 := HQ1.out.cell 3 (.slice A' n' c') rfl
    have HL' := Lib.hid (light14_any k' u' x' A' n' c' R' w1 HN'.out.1 HN'.out.2 HR1'.out)
    clear hlight
    go_wp2_with fail
    refine HL'.out.mono ?_
    rintro e V ⟨⟨bl', rfl, hlight'⟩, hB2⟩
    have HB02 := Lib.hid (HB01.out.trans (hB2.mono HS1.out))
    have HP2 := Lib.hid (HP1.out.below hB2 HP1.out.lt)
    have HQ2 := Lib.hid (HQ1.out.below hB2 HQ1.out.lt)
    have HR2 := Lib.hid (HR1.out.below hB2 (Nat.le_refl _))
    have HR2' := Lib.hid (HR1'.out.below hB2 (Nat.le_refl _))
    have HT2 := Lib.hid (tab_on HT1.out hB2 (Nat.le_refl _))
    have HS2 := Lib.hid (show B ≤ V.heap.size by have := HB02.out.size; rw [HBS.out] at this; exact this)
    clear hB2 q0 q1 q2 q3 HP1 HQ1 HR1 HR1' HT1 HB01 HS1 HL HL'
    cases bl' with
    | false =>
      go_wp2
      go_ret
      exact ⟨rfl, by rw [HBS.out]; exact HB02.out⟩
    | true =>
      have HLP' := Lib.hid (hlight' rfl)
      clear hlight'
      have q3 := HQ2.out.cell 3 (.slice A' n' c') rfl
      by_cases hn0 : n' = 0
      · have i0 : ((n' : Int) == 0) = true := by simp [hn0]
        clear hn0
        go_wp2
        go_ret
        exact ⟨rfl, by rw [HBS.out]; exact HB02.out⟩
      · have i0 : ((n' : Int) == 0) = false := by simp [hn0]
        have hpos : 1 ≤ n' := by omega
        have HPOS := Lib.hid hpos
        have j1 : (1 : Int) ≤ (c' : Int) := by have := HN'.out.1; omega
        have j2 : 1 ≤ c' := by have := HN'.out.1; omega
        have HS4 : Hid (∀ W, Below V.heap.size V W → W.cell? ⟨B, 0, none⟩ = some (.int .i64 k) ∧ W.cell? ⟨B, 1, none⟩ = some (.int .i64 u) ∧ W.cell? ⟨B, 2, none⟩ = some (.bool x) ∧ W.cell? ⟨B + 1, 3, none⟩ = some (.slice A' n' c')) := Lib.hid fun W hW => by
          have h1 := HP2.out.below hW HP2.out.lt
          have h2 := HQ2.out.below hW HQ2.out.lt
          exact ⟨h1.cell 0 _ rfl, h1.cell 1 _ rfl, h1.cell 2 _ rfl, h2.cell 3 _ rfl⟩
        clear hn0 hpos
        go_wp2_with fail
        go_region_held3 (fun w' => w'.cell? ⟨B, 0, none⟩ = some (.int .i64 k) ∧ w'.cell? ⟨B, 1, none⟩ = some (.int .i64 u) ∧ w'.cell? ⟨B, 2, none⟩ = some (.bool x) ∧ w'.cell? ⟨B + 1, 3, none⟩ = some (.slice A' n' c'))
          (with_reducible exact HS4.out _ (by repeat (first | assumption | exact Below.refl _ _ | apply Below.drew | apply bAl2 | apply Below.setCell)))
          (fail)
        obtain ⟨O, hO⟩ : ∃ O, V.heap.size = O := ⟨_, rfl⟩
        obtain ⟨V3, hV3⟩ : ∃ W, (V.alloc (.cells #[.int .i64 k, .int .i64 u, .bool x, .slice A' 1 c'] 26)).drew = W := ⟨_, rfl⟩
        have hb3 : Below V.heap.size V V3 := by rw [← hV3]; exact ((Below.refl _ V).alloc (Nat.le_refl _) _).drew
        have hO3 : RowC V3 O (polA k u x A' 1 c') 26 := by rw [← hV3, ← hO]; exact RowC.new _ _ _ _ rfl
        have HFX : Hid (∀ W, Below V3.heap.size V3 W → RowC W B (polA k u x A n c) 26 ∧ RowC W (B + 1) (polA k' u' x' A' n' c') 26 ∧ RowC W O (polA k u x A' 1 c') 26 ∧ RlA W A n R ∧ RlA W A' n' R' ∧ TabP W ∧ Below B w0 W ∧ B + 2 ≤ W.heap.size) := Lib.hid fun W hW => by
          have h1 := HP2.out.below hb3 HP2.out.lt
          have h2 := HQ2.out.below hb3 HQ2.out.lt
          refine ⟨h1.below hW h1.lt, h2.below hW h2.lt, hO3.below hW hO3.lt, (HR2.out.below hb3 (Nat.le_refl _)).below hW (Nat.le_refl _), (HR2'.out.below hb3 (Nat.le_refl _)).below hW (Nat.le_refl _), tab_on (tab_on HT2.out hb3 (Nat.le_refl _)) hW (Nat.le_refl _), HB02.out.trans ((hb3.trans (hW.mono hb3.size)).mono HS2.out), ?_⟩
          have := h2.lt
          have := hW.size
          omega
        have hR1 : ∀ i, i < n → (R i).n ≤ 12 := fun i hi => (HLP.out.2 i hi).2
        have hR2 : ∀ i, i < n' → (R' i).n ≤ 12 := fun i hi => (HLP'.out.2 i hi).2
        have HRR := Lib.hid (And.intro hR1 hR2)
        have HNN := Lib.hid (And.intro HLP.out.1 HLP'.out.1)
        have HV3 := Lib.hid hV3
        have HO := Lib.hid hO
        have f0 := (HFX.out V3 (Below.refl _ _)).1
        have p0 := f0.cell 0 (.int .i64 k) rfl
        have p1 := f0.cell 1 (.int .i64 u) rfl
        have p2 := f0.cell 2 (.bool x) rfl
        have p3 := f0.cell 3 (.slice A n c) rfl
        have K1 := Lib.hid (of14_any k u x A n c R V3 (by have := HLP.out.1; omega) hR1 (HFX.out V3 (Below.refl _ _)).2.2.2.1)
        clear hb3 hO3 hR1 hR2 f0 HS4 j1 j2 q3 HP2 HQ2 HR2 HR2' HT2 HB02 hV3
        rw [hO]
        rw [HV3.out]
        clear hO
        go_wp2_with fail
        refine K1.out.mono ?_
        rintro e w4 ⟨A4, c4, l4, rfl, hl4, hrow4, hv4, hB4⟩
        have hb4 : Below V3.heap.size V3 w4 := hB4
        have K2 := Lib.hid (print_of (k := k) (u := u) (x := x) HRR.out.1 ⟨hl4, hrow4, hv4⟩ (by have := HNN.out.1; omega) (HFX.out w4 hb4).2.2.2.2.2.1)
        have HB4 := Lib.hid hb4
        clear hl4 hrow4 hv4 hB4 hb4 K1 p0 p1 p2 p3
        go_wp2_with fail
        refine K2.out.mono ?_
        rintro e w5 ⟨⟨s, es, rfl, hos⟩, hB5⟩
        have hb5 : Below V3.heap.size V3 w5 := bTr HB4.out hB5
        have HB5 := Lib.hid hb5
        have HOS := Lib.hid hos
        have f5 := HFX.out w5 hb5
        have q0 := f5.2.2.1.cell 0 (.int .i64 k) rfl
        have q1 := f5.2.2.1.cell 1 (.int .i64 u) rfl
        have q2 := f5.2.2.1.cell 2 (.bool x) rfl
        have q3 := f5.2.2.1.cell 3 (.slice A' 1 c') rfl
        have K3 := Lib.hid (of14_any k u x A' 1 c' R' w5 (by decide) (fun i hi => HRR.out.2 i (by have := HPOS.out; omega)) (f5.2.2.2.2.1.take HPOS.out))
        clear hos hB5 hb5 f5 K2
        go_wp2_with fail
        refine K3.out.mono ?_
        rintro e w6 ⟨A6, c6, l6, rfl, hl6, hrow6, hv6, hB6⟩
        have hb6 : Below V3.heap.size V3 w6 := bTr HB5.out hB6
        have K4 := Lib.hid (print_of (k := k) (u := u) (x := x) (fun i hi => HRR.out.2 i (by have := HPOS.out; omega)) ⟨hl6, hrow6, hv6⟩ (by decide) (HFX.out w6 hb6).2.2.2.2.2.1)
        have HB6 := Lib.hid hb6
        clear hl6 hrow6 hv6 hB6 hb6 K3 q0 q1 q2 q3
        go_wp2_with fail
        refine K4.out.mono ?_
        rintro e w7 ⟨⟨t, et, rfl, hot⟩, hB7⟩
        have hb7 : Below V3.heap.size V3 w7 := bTr HB6.out hB7
        have HB7 := Lib.hid hb7
        have HOT := Lib.hid hot
        have f7 := HFX.out w7 hb7
        have q0 := f7.1.cell 0 (.int .i64 k) rfl
        have q1 := f7.1.cell 1 (.int .i64 u) rfl
        have q2 := f7.1.cell 2 (.bool x) rfl
        have K5 := Lib.hid (of14_any k u x none 0 0 R w7 (by decide) (fun i hi => absurd hi (Nat.not_lt_zero _)) (.inl rfl))
        clear hot hB7 hb7 f7 K4
        go_wp2_with fail
        refine K5.out.mono ?_
        rintro e w8 ⟨A8, c8, l8, rfl, hl8, hrow8, hv8, hB8⟩
        have hb8 : Below V3.heap.size V3 w8 := bTr HB7.out hB8
        have K6 := Lib.hid (print_of (k := k) (u := u) (x := x) (R := R) (fun i hi => absurd hi (Nat.not_lt_zero _)) ⟨hl8, hrow8, hv8⟩ (by decide) (HFX.out w8 hb8).2.2.2.2.2.1)
        have HB8 := Lib.hid hb8
        clear hl8 hrow8 hv8 hB8 hb8 K5 q0 q1 q2
        go_wp2_with fail
        refine K6.out.mono ?_
        rintro e w9 ⟨⟨hd, eh, rfl, hoh⟩, hB9⟩
        have hb9 : Below V3.heap.size V3 w9 := bTr HB8.out hB9
        have HB9 := Lib.hid hb9
        have HOH := Lib.hid hoh
        have KW := Lib.hid (awake14_any w9 (HFX.out w9 hb9).2.2.2.2.2.1)
        clear hoh hB9 hb9 K6
        rcases HOS.out with ⟨rfl, hsr, hse, hsz⟩ | h1
        · rcases HOT.out with ⟨rfl, htr, hte, htz⟩ | h2
          · rcases HOH.out with ⟨rfl, hhr, hhe, hhz⟩ | h3
            · obtain ⟨tl, htl⟩ : ∃ tl : ByteArray, tl = ⟨(joinF [rulL (R' 0).val]).toArray⟩ := ⟨_, rfl⟩
              obtain ⟨L, hL⟩ : ∃ L, (List.range n).map (fun i => (R i).val) = L := ⟨_, rfl⟩
              have hLn : L.length = n := by rw [← hL]; simp
              have e1 : t = hd ++ tl := more_text k u x (R' 0).val hte hhe htl
              have e2 : s ++ tl = ⟨(joinF (polL k u x (L ++ [(R' 0).val]))).toArray⟩ := more_text2 k u x (R' 0).val (by rw [← hL]; exact hse) htl
              have hr2 : rightV k u (L ++ [(R' 0).val]) = true := right_more (by rw [← hL]; exact hsr) htr (by rw [hLn]; exact HNN.out.1)
              have hsm : ∀ r ∈ L ++ [(R' 0).val], SmallV r := by
                have f9 := HFX.out w9 HB9.out
                intro r hr
                rcases List.mem_append.1 hr with hr | hr
                · rw [← hL] at hr
                  exact small_vals f9.2.2.2.1 r hr
                · exact small_vals (f9.2.2.2.2.1.take HPOS.out) r hr
              have e3 : (s ++ tl).size ≤ 65536 := by
                rw [e2]
                have h1 := more_small x hr2 hsm (by simp; have := HNN.out.1; omega)
                simpa [ByteArray.size] using h1
              have t1 : t.size = hd.size + tl.size := by rw [e1]; exact ByteArray.size_append
              have t2 : t.extract 0 hd.size = hd := by rw [e1]; exact ext_left hd tl
              have t3 : t.extract hd.size (hd.size + tl.size) = tl := by rw [e1]; exact ext_right hd tl
              have t4 : (s ++ tl).size = s.size + tl.size := ByteArray.size_append
              have KP := Lib.hid (parse_own (k := k) (u := u) (x := x) hr2 hsm (s ++ tl) e2 e3)
              have t5 : s.size + tl.size ≤ 65536 := by omega
              have t6 : ((t.size : Int) < (hd.size : Int)) = False := by simp; omega
              have HL2 := Lib.hid hL
              have HLN := Lib.hid hLn
              clear hsr hse htr hte hhr hhe HOS HOT HOH e1 e2 e3 htl hr2 hsm hL hLn
              have KP9 := Lib.hid (KP.out w9 (HFX.out w9 HB9.out).2.2.2.2.2.1)
              clear KP
              go_wp2_with fail
              refine KP9.out.mono ?_
              rintro e w10 ⟨A10, c10, l10, rfl, hrow10, hv10, hB10⟩
              have hb10 : Below V3.heap.size V3 w10 := bTr HB9.out hB10
              obtain ⟨m10, hm10⟩ : ∃ m, l10.length = m := ⟨_, rfl⟩
              obtain ⟨X, hX⟩ : ∃ X, w10.heap.size = X := ⟨_, rfl⟩
              obtain ⟨W11, hW11⟩ : ∃ W, w10.alloc (.cells (polA k u x A10 m10 c10) 31) = W := ⟨_, rfl⟩
              obtain ⟨W12, hW12⟩ : ∃ W, W11.alloc (.cells #[.int .i64 k, .int .i64 u, .bool x, .slice A n c] 26) = W := ⟨_, rfl⟩
              have hs11 : W11.heap.size = X + 1 := by rw [← hW11, ← hX]; simp
              have hs12 : W12.heap.size = X + 2 := by rw [← hW12]; simp [hs11]
              have hb11 : Below X w10 W11 := by rw [← hW11, ← hX]; exact (Below.refl _ _).alloc (Nat.le_refl _) _
              have hb12 : Below X w10 W12 := by rw [← hW12]; exact hb11.alloc (by rw [hs11]; omega) _
              have hx12 : RowC W12 X (polA k u x A10 m10 c10) 31 := by rw [← hW12, ← hW11, ← hX]; exact (RowC.new _ _ _ _ rfl).alloc _
              have hy12 : RowC W12 (X + 1) (polA k u x A n c) 26 := by rw [← hW12]; exact RowC.new _ _ _ _ hs11.symm
              have hVX : V3.heap.size ≤ X := by rw [← hX]; exact hb10.size
              have hv11 : Below V3.heap.size V3 W11 := hb10.trans (hb11.mono hVX)
              have hv12 : Below V3.heap.size V3 W12 := hb10.trans (hb12.mono hVX)
              have f11 := (HFX.out W11 hv11).1
              have f12 := HFX.out W12 hv12
              obtain ⟨b', o', hA', hblt, hcs⟩ : ∃ b o, A' = some ⟨b, o, none⟩ ∧ b < X ∧ ∀ W, Below X W12 W → W.cell? ⟨b, o, none⟩ = some (.string (R' 0).nm) ∧ W.cell? ⟨b, o + 1, none⟩ = some (.int .i64 (R' 0).k) ∧ W.cell? ⟨b, o + 2, none⟩ = some (.int .i64 (R' 0).u) ∧ W.cell? ⟨b, o + 3, none⟩ = some (.slice (R' 0).A (R' 0).n (R' 0).c) := by
                have h1 := (HFX.out V3 (Below.refl _ _)).2.2.2.2.1
                have h2 := f12.2.2.2.2.1
                rcases h1 with h0 | ⟨b, o, hA, hl, hc⟩
                · have := HPOS.out; omega
                · refine ⟨b, o, hA, by omega, fun W hW => ?_⟩
                  have hh := hv12.trans (hW.mono hVX)
                  obtain ⟨y0, y1, y2, y3, _⟩ := hc 0 (by have := HPOS.out; omega)
                  refine ⟨?_, ?_, ?_, ?_⟩
                  · exact (hh.cell (p := ⟨b, o, none⟩) hl).trans (by simpa using y0)
                  · exact (hh.cell (p := ⟨b, o + 1, none⟩) hl).trans (by simpa using y1)
                  · exact (hh.cell (p := ⟨b, o + 2, none⟩) hl).trans (by simpa using y2)
                  · exact (hh.cell (p := ⟨b, o + 3, none⟩) hl).trans (by simpa using y3)
              subst hA'
              have HM : Hid (∀ W, Below X W12 W → W.cell? ⟨B, 3, none⟩ = some (.slice A n c) ∧ W.cell? ⟨B + 1, 3, none⟩ = some (.slice (some ⟨b', o', none⟩) n' c') ∧ W.cell? ⟨b', o', none⟩ = some (.string (R' 0).nm) ∧ W.cell? ⟨b', o' + 1, none⟩ = some (.int .i64 (R' 0).k) ∧ W.cell? ⟨b', o' + 2, none⟩ = some (.int .i64 (R' 0).u) ∧ W.cell? ⟨b', o' + 3, none⟩ = some (.slice (R' 0).A (R' 0).n (R' 0).c)) := Lib.hid fun W hW => by
                have f := HFX.out W (hv12.trans (hW.mono hVX))
                exact ⟨f.1.cell 3 _ rfl, f.2.1.cell 3 _ rfl, hcs W hW⟩
              have HXS : Hid (X ≤ W12.heap.size) := Lib.hid (by omega)
              have p0 := f11.cell 0 (.int .i64 k) rfl
              have p1 := f11.cell 1 (.int .i64 u) rfl
              have p2 := f11.cell 2 (.bool x) rfl
              have p3 := f11.cell 3 (.slice A n c) rfl
              have HV10 := Lib.hid hv10
              have HM10 := Lib.hid hm10
              have hrl10 := hrow10.rl
              have HRL : Hid (∀ W, Below X W12 W → RlL W A10 l10) := Lib.hid fun W hW => hrl10.below (hb12.trans hW) (Nat.le_of_eq hX)
              have HX12 := Lib.hid hx12
              have HY12 := Lib.hid hy12
              have HV12 := Lib.hid hv12
              have HVX := Lib.hid hVX
              have HS12 := Lib.hid hs12
              have HW11 := Lib.hid hW11
              have HW12 := Lib.hid hW12
              have HB0X := Lib.hid hblt
              clear hrl10 hrow10 hv10 hB10 hb10 hb11 hb12 hx12 hy12 hVX hv11 hv12 f11 f12 hcs hs12 hW11 hW12 hblt KP9 hsz htz hhz t1 t2 t3 t4 t5 t6
              go_upto_region 12 with fail
              (try rw [hm10])
              (try rw [hX])
              (try rw [HW11.out])
              clear hm10 hX
              go_upto_region 13 with fail
              (try rw [hs11])
              (try rw [HW12.out])
              clear hs11 p0 p1 p2 p3
              have n0 := HPOS.out
              have n1 : (0 : Int) < (n' : Int) := by omega
              have n2 : 0 < n' := by omega
              have c3 := HY12.out.cell 3 (.slice A n c) rfl
              have d3 := HY12.out.frozen 3
              have HXS2 : Hid (X + 2 ≤ W12.heap.size) := Lib.hid (by rw [HS12.out]; exact Nat.le_refl _)
              have HRA : Hid (∀ W, Below X W12 W → RlA W A n R ∧ RlA W (some ⟨b', o', none⟩) n' R' ∧ TabP W ∧ Below B w0 W) := Lib.hid fun W hW => by
                have f := HFX.out W (HV12.out.trans (hW.mono HVX.out))
                exact ⟨f.2.2.2.1, f.2.2.2.2.1, f.2.2.2.2.2.1, f.2.2.2.2.2.2.1⟩
              have HNC := Lib.hid (And.intro hnc hcm)
              clear hnc hcm
              go_region_held3 (fun w' => w'.cell? ⟨B, 3, none⟩ = some (.slice A n c) ∧ w'.cell? ⟨B + 1, 3, none⟩ = some (.slice (some ⟨b', o', none⟩) n' c') ∧ w'.cell? ⟨b', o', none⟩ = some (.string (R' 0).nm) ∧ w'.cell? ⟨b', o' + 1, none⟩ = some (.int .i64 (R' 0).k) ∧ w'.cell? ⟨b', o' + 2, none⟩ = some (.int .i64 (R' 0).u) ∧ w'.cell? ⟨b', o' + 3, none⟩ = some (.slice (R' 0).A (R' 0).n (R' 0).c))
                (with_reducible exact HM.out _ (by first | ((repeat (first | assumption | exact Below.refl _ _ | apply Below.drew | apply bAl3 (HXS.out))); done) | (refine Below.setCell ?_ (Nat.le_succ _) _; (repeat (first | assumption | exact Below.refl _ _ | apply Below.drew | apply bAl3 (HXS.out))); done)))
                (first
                  | (refine step_rulesA (by rfl) _ _ (by rfl) (base := X + 2) (R := R) (F := fun _ => undef) (by rfl) (by first | exact own_new _ _ _ (by simp [HS12.out]) (by simp [HS12.out]) | exact own_drew (own_new _ _ _ (by simp [HS12.out]) (by simp [HS12.out])) | exact own_drew ((own_new _ _ _ (by simp [HS12.out]) (by simp [HS12.out])).alloc _) | exact (own_new _ _ _ (by simp [HS12.out]) (by simp [HS12.out])).alloc _ | exact (own_drew (own_new _ _ _ (by simp [HS12.out]) (by simp [HS12.out]))).alloc _) (by rfl) (HRA.out _ (by (repeat (first | assumption | exact Below.refl _ _ | apply Below.drew | apply bAl3 (HXS.out))))).1 HNC.out.1 HNC.out.2 (by have := HNN.out.1; omega) (by simp [HS12.out]) ?_
                     rintro A5 c5 w5 hown5 hgr5 hB5
                     have hk5b : Below (X + 2) W12 w5 := bTr5 (by (repeat (first | assumption | exact Below.refl _ _ | apply Below.drew | apply bAl3 (HXS2.out)))) hB5
                     have hk5 : Below X W12 w5 := hk5b.mono (by omega)
                     have c3 := (HY12.out.below hk5b (by omega)).cell 3 (.slice A n c) rfl
                     have d3 := (HY12.out.below hk5b (by omega)).frozen 3)
                  | (refine step_oneA (by rfl) _ _ (by rfl) (base := X + 2) (R := R) (r := R' 0) (by rfl) (by first | exact hown5 | exact hown5.alloc _ | exact own_drew hown5 | exact own_drew (hown5.alloc _) | exact (own_drew hown5).alloc _) (by rfl) (by first | exact RowC.new _ _ _ _ (by rfl) | exact rowc_drewP (RowC.new _ _ _ _ (by rfl)) | (refine rowc_grownP hgr5 ?_ (by simp [Value.ownBlock]); first | exact RowC.new _ _ _ _ (by simp) | exact rowc_drewP (RowC.new _ _ _ _ (by simp)) | exact (RowC.new _ _ _ _ (by simp)).alloc _ | exact rowc_drewP ((RowC.new _ _ _ _ (by simp)).alloc _) | exact (rowc_drewP (RowC.new _ _ _ _ (by simp))).alloc _)) (by have := HNN.out.1; omega) (by have := hk5b.size; simp [HS12.out] at *; omega) ?_
                     rintro A6 c6 w6 hown6 hB6
                     have hk6b : Below (X + 2) W12 w6 := bTr5 (by (repeat (first | assumption | exact Below.refl _ _ | apply Below.drew | apply bAl3 (HXS2.out)))) hB6
                     have hk6 : Below X W12 w6 := hk6b.mono (by omega)
                     have c3 := (HY12.out.below hk6b (by omega)).cell 3 (.slice A n c) rfl
                     have d3 := (HY12.out.below hk6b (by omega)).frozen 3))
              all_goals
                obtain ⟨w7', hw7⟩ : ∃ W, w6.setCell ⟨X + 1, 3, none⟩ (.slice A6 (n + 1) c6) = W := ⟨_, rfl⟩
                have hk7 : Below X W12 w7' := by rw [← hw7]; exact hk6.setCell (Nat.le_succ _) _
                have hx7 : RowC w7' X (polA k u x A10 m10 c10) 31 := by rw [← hw7]; exact (HX12.out.below hk6b (by omega)).setOther 3 _ (by omega)
                have hy7 : RowC w7' (X + 1) (polA k u x A6 (n + 1) c6) 26 := by rw [← hw7]; exact (HY12.out.below hk6b (by omega)).set 3 _
                have hown7 : OwnC w7' (X + 2) 44 4 A6 (n + 1) c6 (rF fun i => if i < n then R i else R' 0) := by rw [← hw7]; exact hown6.set_low (by omega) 3 _
                have f7 := HRA.out w7' hk7
                have hra7 : RlA w7' A6 (n + 1) (fun i => if i < n then R i else R' 0) := rla_of_own (w0 := w0) (A0 := none) (R0 := R) hown7 (fun i hi => by
                  by_cases h : i < n
                  · simp only [if_pos h]; exact f7.1.rest i h
                  · simp only [if_neg h]; exact f7.2.1.rest 0 (by have := HPOS.out; omega))
                have hrl7 : RlL w7' A10 l10 := HRL.out w7' hk7
                have KT := Lib.hid (told14_any k u k u x x A10 A6 l10 c10 (n + 1) c6 (fun i => if i < n then R i else R' 0) w7' hrl7 (by have h1 := congrArg List.length HV10.out; have := HLN.out; have := HNN.out.1; simp at h1; omega) (by have := HNN.out.1; omega) (fun i hi => by
                  by_cases h : i < n
                  · simp only [if_pos h]; exact HRR.out.1 i h
                  · simp only [if_neg h]; exact HRR.out.2 0 (by have := HPOS.out; omega)) hra7)
                rw [HM10.out] at KT
                have HVS : Hid (l10.map RL.val = (List.range (n + 1)).map fun i => (if i < n then R i else R' 0).val) := Lib.hid (by
                  rw [HV10.out, List.range_succ, List.map_append, ← HL2.out]
                  congr 1
                  · exact List.map_congr_left fun i hi => by rw [if_pos (List.mem_range.1 hi)]
                  · simp)
                have HB7 := Lib.hid f7.2.2.2
                have HT7 := Lib.hid f7.2.2.1
                have HS7 : Hid (B ≤ w7'.heap.size) := Lib.hid (by have h1 := f7.2.2.2.size; rw [HBS.out] at h1; exact h1)
                have x0 := hx7.cell 0 (.int .i64 k) rfl
                have x1 := hx7.cell 1 (.int .i64 u) rfl
                have x2 := hx7.cell 2 (.bool x) rfl
                have x3 := hx7.cell 3 (.slice A10 m10 c10) rfl
                have y0 := hy7.cell 0 (.int .i64 k) rfl
                have y1 := hy7.cell 1 (.int .i64 u) rfl
                have y2 := hy7.cell 2 (.bool x) rfl
                have y3 := hy7.cell 3 (.slice A6 (n + 1) c6) rfl
                have HW7 := Lib.hid hw7
                clear hw7 hk7 hx7 hy7 hown7 f7 hra7 hrl7 c3 d3 hown6 hB6 hk6b hk6 n0 n1 n2
                rw [HW7.out]
                go_wp2_with fail
                refine KT.out.mono ?_
                rintro e w13 ⟨⟨b13, rfl, hb13⟩, hB13⟩
                obtain rfl : b13 = true := hb13.2 ⟨rfl, rfl, rfl, HVS.out⟩
                have HB13 := Lib.hid (HB7.out.trans (hB13.mono HS7.out))
                have HS13 := Lib.hid (Nat.le_trans HS7.out hB13.size)
                have KA := Lib.hid (awake14_any w13 (tab_on HT7.out hB13 (Nat.le_refl _)))
                clear hb13 hB13 x0 x1 x2 x3 y0 y1 y2 y3
                go_wp2_with fail
                refine KA.out.mono ?_
                rintro e w14 ⟨rfl, hB14⟩
                go_wp2
                go_ret
                exact ⟨rfl, by rw [HBS.out]; exact HB13.out.trans (hB14.mono HS13.out)⟩
            · have h3' : (eh != 0) = true := by simpa using h3
              clear hsr hse hsz htr hte htz HOS HOT HOH
              go_wp2_with fail
              refine KW.out.mono ?_
              rintro e w10 ⟨rfl, hB10⟩
              go_wp2
              go_ret
              have f9 := HFX.out w9 HB9.out
              exact ⟨rfl, by rw [HBS.out]; exact f9.2.2.2.2.2.2.1.trans (hB10.mono (by omega))⟩
          · have h2' : (et != 0) = true := by simpa using h2
            clear hsr hse hsz HOS HOT HOH
            go_wp2_with fail
            refine KW.out.mono ?_
            rintro e w10 ⟨rfl, hB10⟩
            go_wp2
            go_ret
            have f9 := HFX.out w9 HB9.out
            exact ⟨rfl, by rw [HBS.out]; exact f9.2.2.2.2.2.2.1.trans (hB10.mono (by omega))⟩
        · have h1' : (es != 0) = true := by simpa using h1
          clear HOS HOT HOH
          go_wp2_with fail
          refine KW.out.mono ?_
          rintro e w10 ⟨rfl, hB10⟩
          go_wp2
          go_ret
          have f9 := HFX.out w9 HB9.out
          exact ⟨rfl, by rw [HBS.out]; exact f9.2.2.2.2.2.2.1.trans (hB10.mono (by omega))⟩

theorem of_laid {W : World} (h : laidMetH Tryz.prog Rows.policyMoreRow.laid W) : TabP W := by
  rw [MakeChecks.laidMetH_plain _ _ _ (by kernel_rfl)] at h
  exact tab_of_third h

namespace policyMoreRow
open Go.ChangeShapes Go.WideShapes Go.ChangeAt Go.RowKit Go.Joins
open Go.ChangeMaps (open_string shut_string)
set_option linter.unusedVariables false
theorem own : ownKnob Tryz.prog.godebug = none := by kernel_rfl
theorem laidOut : laidOutB Tryz.prog = true := by kernel_rfl
set_option maxRecDepth 100000 in
theorem lifted (os : Os) (started : os.Started) (H : Type) (enc : TypeId × Value → H) :
    ReturnsInHanded {} Tryz.checked os 5 .any (fun w args => (Rows.policyMoreSpec.pre enc Tryz.prog Tryz.f5 [] false w args ∧ laidMetH Tryz.prog Rows.policyMoreRow.laid w) ∧ sizedMet enc Tryz.prog Tryz.f5 (OpenSpec.ofChange Rows.policyMoreSpec) false w args) (Rows.policyMoreSpec.post enc Tryz.prog Tryz.f5 false true false false) := by
  refine returnsInHanded_of_change_and (C := Tryz.checked) (X := fun w _ => laidMetH Tryz.prog Rows.policyMoreRow.laid w) (fun _ _ _ hh h => h.of_heap hh) own started (by kernel_rfl) Tryz.func5
    (ChangeSpec.witness_shaped (enc := enc) (C := Tryz.checked) (os := os) (X := fun w _ => laidMetH Tryz.prog Rows.policyMoreRow.laid w) false (World.laidAll Tryz.prog os Rows.policyMoreRow.laid) #[.agg #[.int .i64 0, .int .i64 0, .bool false, .slice none 0 0], .agg #[.int .i64 0, .int .i64 0, .bool false, .slice none 0 0]] 8 (World.laidAll_os _ _ _) (World.shaped_of_ZipB (by kernel_rfl) (by kernel_rfl)) (by kernel_rfl) (by kernel_rfl) (by kernel_rfl) (by rw [MakeChecks.laidMetH_plain _ _ _ (by kernel_rfl)]; exact laidMet_laidAll _ (by kernel_rfl) (by kernel_rfl))) ?_
  intro W base args ds gs before hval0 hW _ _ hL _
  have hval : ∀ (j : Nat) t v, Tryz.f5.params[j]? = some t → args[j]? = some v → Value.okWide Tryz.prog W .any base t v := hval0
  have hW' := hW
  obtain ⟨p, q, hA0, hV, rfl, hfz, hnd⟩ := hW
  have hA : DataW.TrodAll enc Tryz.prog W 0 (fun _ => true) true Tryz.f5.params.toList args.toList ds p := hA0
  rw [Tryz.params5] at hA hval
  obtain ⟨v0, vs0, d0, ds0, p0, q0, hargs, rfl, rfl, h0, r0⟩ := trodAll_cons hA
  obtain ⟨v1, vs1, d1, ds1, p1, q1, rfl, rfl, rfl, h1, r1⟩ := trodAll_cons r0
  obtain ⟨rfl, rfl, rfl⟩ := trodAll_nil r1
  obtain rfl : args = #[v0, v1] := by cases args; simp_all
  obtain ⟨rfl, rfl⟩ := trodVars_none hV
  have k0 := h0
  have lt0 : ∀ x ∈ p0, x.block < W.heap.size := by obtain ⟨m, hm⟩ := k0; exact DataW.trod_lt m _ _ _ hm
  have k1 := h1
  have lt1 : ∀ x ∈ p1, x.block < W.heap.size := by obtain ⟨m, hm⟩ := k1; exact DataW.trod_lt m _ _ _ hm
  obtain ⟨pk0, pu0, px0, pA0, pn0, pc0, pR0, rfl, pa0, pb0, pl0, pm0, pt0⟩ := open_policy (hval 0 26 v0 rfl rfl) h0
  obtain ⟨pk1, pu1, px1, pA1, pn1, pc1, pR1, rfl, pa1, pb1, pl1, pm1, pt1⟩ := open_policy (hval 1 26 v1 rfl rfl) h1
  clear hA0 hval0
  refine (walk_PolicyMore (w0 := W) pk0 pu0 px0 pA0 pn0 pc0 pR0 pa0 pb0 pl0 pm0 pt0 pk1 pu1 px1 pA1 pn1 pc1 pR1 pa1 pb1 pl1 pm1 pt1 (of_laid hL)).mono fun e W' ⟨he, bel⟩ => ?_
  subst he
  exact ⟨_, rfl, _, _, _, [], _, [], hW', trodAll_mk1 (shut_bool Tryz.underlying4 _), (trodAll_cons_mk (Below.trod laidOut (by kernel_rfl) (of_decide_eq_true (by kernel_rfl)) k0 bel lt0) (trodAll_cons_mk (Below.trod laidOut (by kernel_rfl) (of_decide_eq_true (by kernel_rfl)) k1 bel lt1) trodAll_mk0)), rfl, bel.frame _, fun h => by cases h⟩

theorem over : Rows.policyMoreRow.holds Tryz.pinned (OpenSpec.ofChange Rows.policyMoreSpec) :=
  OpenClaim.holds_of_wide 5 Tryz.f5 rfl rfl rfl rfl rfl rfl rfl ⟨rfl, rfl, rfl, rfl, rfl⟩ rfl rfl rfl rfl rfl (by kernel_rfl) Tryz.func5 (by kernel_rfl)
    (of_decide_eq_true (by kernel_rfl)) (by unfold Func.isWrapper; first | (rw [if_pos (by decide +kernel)]; kernel_rfl) | (rw [if_neg (by decide +kernel)]; exact ⟨rfl, rfl⟩))
    (fun os started H enc _ => lifted os started H enc)
end policyMoreRow

theorem policyMore_proved : Rows.PolicyMoreCardSaid :=
  Claim7.holds_tied_plain_at .later [] [.data, .data, .data, .data, .sentinel, .sentinel, .pinned] true Rows.policyMoreCard.stood.harness true
    policyMoreRow.over (fun _ h => by cases h) (by kernel_rfl) (fun _ h => by cases h) policyMore_row_tie rfl ⟨rfl, rfl⟩ (by kernel_rfl) rfl
    (fun f fn hf hfn => by
      obtain rfl : f = 5 := Option.some.inj ((show Tryz.prog.funcNamed "strainer/strainerlaw14.PolicyMore" = some 5 by kernel_rfl).symm.trans hf) |>.symm
      obtain rfl : fn = Tryz.f5 := (Option.some.inj (Tryz.func5.symm.trans hfn)).symm
      exact ⟨by kernel_rfl, fun j t ht => by
        rw [Tryz.params5] at ht
        have hall : ∀ t ∈ [26, 26], Tryz.prog.wantsStandIn t = false := by
          intro t ht
          simp only [List.mem_cons, List.not_mem_nil, or_false] at ht
          rcases ht with rfl | rfl <;> kernel_rfl
        exact hall t (by simpa using Array.mem_of_getElem? ht)⟩)
    (by kernel_rfl)
#print axioms policyMore_proved
end Go.Proofs.YtlpcallgkciklaaGreatDoor
