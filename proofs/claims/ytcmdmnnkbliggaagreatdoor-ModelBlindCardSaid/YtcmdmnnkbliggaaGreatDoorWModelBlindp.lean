/-
  The law ModelBlind holds for every input: where a record came from does not count, nor do arguments that no condition asks. No condition.
-/
import Derived.Test.YtcmdmnnkbliggaaGreatDoorRows
import Derived.Test.YtcmdmnnkbliggaaGreatDoorCards
import Derived.Test.YtcmdmnnkbliggaaGreatDoorTie
import Derived.Test.YtcmdmnnkbliggaaGreatDoorP29
import Derived.Test.YtcmdmnnkbliggaaGreatDoorP25
import Derived.Test.YtcmdmnnkbliggaaGreatDoorP26
import Derived.Test.YtcmdmnnkbliggaaGreatDoorP23
import Derived.Lay
import Derived.MakeChecks
import Derived.WalkKit
import Derived.ProofKit
import Derived.OpenShut
import Derived.ShutString
import Derived.ChangeOld
import Derived.Below
import Derived.Lib.SmallJoins
import Derived.SevenTiedAt
import Derived.LaidMore
import Derived.Stop.Joined
import Derived.RegionTactic
import Derived.Deep.Cut
import Derived.Deep.CutRange
import Derived.Deep.RegionHeld3
namespace Go.Proofs.YtcmdmnnkbliggaaGreatDoor
open Go.RowKit Go.Shelf
set_option linter.unusedVariables false

theorem small_of17 {R : Nat → RL} {n : Nat} {l : List RL} (h : l.map RL.val = (List.range n).map (fun i => (R i).val)) (hR : ∀ i, i < n → (R i).n ≤ 12) : ∀ e ∈ l, e.n ≤ 100000 := fun e he => by
  have h1 : e.val ∈ (List.range n).map (fun i => (R i).val) := by rw [← h]; exact List.mem_map.2 ⟨e, he, rfl⟩
  obtain ⟨i, hi, hv⟩ := List.mem_map.1 h1
  have h2 := hR i (List.mem_range.1 hi)
  have h3 : e.val.L.length = e.n := by simp [RL.val]
  have h4 : (R i).val.L.length = (R i).n := by simp [RL.val]
  rw [hv] at h4
  omega
theorem small_ru17 {w : World} {r : RL} (h : RuT w r) : SmallV r.val := fun c hc => by
  obtain ⟨i, hi, rfl⟩ := List.mem_map.1 hc
  rw [List.mem_range] at hi
  rcases h.2.2.2.2.2.conA with h0 | ⟨b, o, _, _, hcs⟩
  · omega
  · exact (hcs i hi).2.2.2.2
theorem RlL.nil17 (w : World) : RlL w none [] := ⟨.inl rfl, fun _ h => by cases h⟩
theorem bAl17 {w w' : World} (h : Below w.heap.size w w') (o : Obj) : Below w.heap.size w (w'.alloc o) := h.alloc h.size o
theorem drewC17 {W : World} {b : Nat} {cs : Array Value} {T : TypeId} (h : RowC W b cs T) : RowC W.drew b cs T := h
/-- The first i arguments are other ones, where nothing asks them. -/
def mixQ (L : List RV) (q f : Nat → Nat) (i j : Nat) : Nat := if (decide (j < i) && !askF L (j : Int)) = true then f j else q j
theorem mix_zero (L : List RV) (q f : Nat → Nat) : mixQ L q f 0 = q := by
  funext j
  unfold mixQ
  rw [if_neg (by simp)]
theorem mix_skip {L : List RV} {q f : Nat → Nat} {i : Nat} (h : askF L (i : Int) = true) : mixQ L q f (i + 1) = mixQ L q f i := by
  funext j
  unfold mixQ
  by_cases hj : j = i
  · subst hj; rw [h]; simp
  · rw [show decide (j < i + 1) = decide (j < i) by rw [Bool.eq_iff_iff]; simp; omega]
theorem mix_take {L : List RV} {q f : Nat → Nat} {i : Nat} (h : askF L (i : Int) = false) (j : Nat) : mixQ L q f (i + 1) j = if j = i then f i else mixQ L q f i j := by
  unfold mixQ
  by_cases hj : j = i
  · subst hj; rw [h, if_pos rfl]; simp
  · rw [if_neg hj, show decide (j < i + 1) = decide (j < i) by rw [Bool.eq_iff_iff]; simp; omega]
abbrev recQ (g : RecV) (z : Nat) (q : Nat → Nat) : Array Value := #[.int .u32 g.n, .int .u32 g.a, .int .u64 z, .int .u64 (q 0), .int .u64 (q 1), .int .u64 (q 2), .int .u64 (q 3), .int .u64 (q 4), .int .u64 (q 5)]
theorem recQ_at (g : RecV) (z : Nat) (q : Nat → Nat) (i : Nat) (hi : i < 6) : (recQ g z q)[3 + i]? = some (.int .u64 (q i)) := by
  match i, hi with
  | 0, _ => rfl
  | 1, _ => rfl
  | 2, _ => rfl
  | 3, _ => rfl
  | 4, _ => rfl
  | 5, _ => rfl
theorem recQ_set {g : RecV} {z : Nat} {q q' : Nat → Nat} {i : Nat} (hi : i < 6) {v : Nat} (h : ∀ j, q' j = if j = i then v else q j) : (recQ g z q).setIfInBounds (3 + i) (.int .u64 v) = recQ g z q' := by
  unfold recQ
  simp only [h]
  match i, hi with
  | 0, _ => rfl
  | 1, _ => rfl
  | 2, _ => rfl
  | 3, _ => rfl
  | 4, _ => rfl
  | 5, _ => rfl
theorem mix_asked {k u : Int} {L : List RV} (hr : rightV k u L = true) (q f : Nat → Nat) : ∀ v ∈ L, ∀ c ∈ v.L, mixQ L q f 6 c.a.toNat = q c.a.toNat := fun v hv c hc => by
  have h1 : RiC c := by
    unfold rightV at hr
    simp only [Bool.and_eq_true, decide_eq_true_eq, List.all_eq_true] at hr
    have h := hr.2.2 v hv
    unfold mayV at h
    simp only [Bool.and_eq_true, decide_eq_true_eq, List.all_eq_true] at h
    exact h.2.2.2 c hc
  have h2 : ((c.a.toNat : Nat) : Int) = c.a := by have := h1.1; omega
  have h3 : askF L ((c.a.toNat : Nat) : Int) = true := by
    rw [h2]
    exact List.any_eq_true.2 ⟨v, hv, List.any_eq_true.2 ⟨c, hc, by simp⟩⟩
  unfold mixQ
  rw [h3, if_neg (by simp)]
theorem mix_lt {L : List RV} {q f : Nat → Nat} (h1 : ∀ i, q i < 18446744073709551616) (h2 : ∀ i, f i < 18446744073709551616) (i j : Nat) : mixQ L q f i j < 18446744073709551616 := by
  unfold mixQ
  split
  · exact h2 j
  · exact h1 j
theorem zArgs {w : World} {b : Nat} {cs : Array Value} {T : TypeId} {f : Nat → Nat} (h : RowC w b cs T) (hc : ∀ i, i < 6 → cs[15 + i]? = some (.int .u64 (f i))) (i : Nat) (hi : i < 6) : w.cell? ⟨b, 15 + i, none⟩ = some (.int .u64 (f i)) := h.cell _ _ (hc i hi)
set_option maxRecDepth 100000 in
set_option maxHeartbeats 32000000 in
theorem walk_ModelBlind {w0 : World} (k u : Int) (x : Bool) (A : Option Addr) (n c : Nat) (R : Nat → RL) (TA : Option Addr) (tn tcap : Nat) (T : Nat → SR) (g : RecV) (z : Nat) (f : Nat → Nat) (hnc : n ≤ c) (hcm : c ≤ maxLen) (hR : RlA w0 A n R) (hT : TbA w0 TA tn T) (hg : g.ok) (hz : z < 18446744073709551616) (hf : ∀ i, f i < 18446744073709551616) (hTab : TabP w0) :
    Calls Tryz.prog 12 #[.agg #[.int .i64 k, .int .i64 u, .bool x, .slice A n c, .slice TA tn tcap, .int .u32 g.n, .int .u32 g.a, .int .u64 g.p, .int .u64 (g.q 0), .int .u64 (g.q 1), .int .u64 (g.q 2), .int .u64 (g.q 3), .int .u64 (g.q 4), .int .u64 (g.q 5), .int .u64 z, .int .u64 (f 0), .int .u64 (f 1), .int .u64 (f 2), .int .u64 (f 3), .int .u64 (f 4), .int .u64 (f 5)]] w0 fun e w' => e = .returned (.bool true) ∧ Below w0.heap.size w0 w' := by
  obtain ⟨B, hBs⟩ : ∃ B, w0.heap.size = B := ⟨_, rfl⟩
  obtain ⟨U, hU⟩ : ∃ U, w0.alloc (.cells #[.int .i64 k, .int .i64 u, .bool x, .slice A n c, .slice TA tn tcap, .int .u32 g.n, .int .u32 g.a, .int .u64 g.p, .int .u64 (g.q 0), .int .u64 (g.q 1), .int .u64 (g.q 2), .int .u64 (g.q 3), .int .u64 (g.q 4), .int .u64 (g.q 5), .int .u64 z, .int .u64 (f 0), .int .u64 (f 1), .int .u64 (f 2), .int .u64 (f 3), .int .u64 (f 4), .int .u64 (f 5)] 91) = U := ⟨_, rfl⟩
  have ru : RowC U B #[.int .i64 k, .int .i64 u, .bool x, .slice A n c, .slice TA tn tcap, .int .u32 g.n, .int .u32 g.a, .int .u64 g.p, .int .u64 (g.q 0), .int .u64 (g.q 1), .int .u64 (g.q 2), .int .u64 (g.q 3), .int .u64 (g.q 4), .int .u64 (g.q 5), .int .u64 z, .int .u64 (f 0), .int .u64 (f 1), .int .u64 (f 2), .int .u64 (f 3), .int .u64 (f 4), .int .u64 (f 5)] 91 := by rw [← hU, ← hBs]; exact RowC.new _ _ _ _ rfl
  have hbU : Below B w0 U := by rw [← hU, ← hBs]; exact (Below.refl _ _).alloc (Nat.le_refl _) _
  have hsU : B + 1 = U.heap.size := by rw [← hU, ← hBs]; simp
  have HRT : Hid (∀ W, Below B w0 W → RlA W A n R ∧ TbA W TA tn T ∧ TabP W) := Lib.hid fun W hW => ⟨hR.below hW (Nat.le_of_eq hBs), hT.below hW (Nat.le_of_eq hBs), tab_on hTab hW (Nat.le_of_eq hBs)⟩
  have HAW := Lib.hid fun (W : World) (hW : Below B w0 W) => awake17_any W (HRT.out W hW).2.2
  have HRU := Lib.hid ru
  have HBU := Lib.hid hbU
  have HSU := Lib.hid hsU
  have HU := Lib.hid hU
  have HBS := Lib.hid hBs
  have HGOK := Lib.hid hg
  have HZF := Lib.hid (And.intro hz hf)
  clear hU ru hbU hsU hR hT hg hz hf hTab
  go_enter Tryz.func12, Tryz.ntmps12
  go_upto_region 1 with fail
  rw [HU.out]
  (try rw [hBs])
  clear hBs
  go_cut [3, 4, 5] from 13 to 18 (fun s3 s4 s5 wx => ∃ (X Y : Nat), s3 = .pointer (some ⟨X, 0, none⟩) ∧ s4 = .slice TA tn tcap ∧ s5 = .pointer (some ⟨Y, 0, none⟩) ∧ RowC wx X (polA k u x A n c) 39 ∧ RowC wx Y #[.int .u32 g.n, .int .u32 g.a, .int .u64 g.p, .int .u64 (g.q 0), .int .u64 (g.q 1), .int .u64 (g.q 2), .int .u64 (g.q 3), .int .u64 (g.q 4), .int .u64 (g.q 5)] 74 ∧ X ≠ Y ∧ B < X ∧ B < Y ∧ RowC wx B #[.int .i64 k, .int .i64 u, .bool x, .slice A n c, .slice TA tn tcap, .int .u32 g.n, .int .u32 g.a, .int .u64 g.p, .int .u64 (g.q 0), .int .u64 (g.q 1), .int .u64 (g.q 2), .int .u64 (g.q 3), .int .u64 (g.q 4), .int .u64 (g.q 5), .int .u64 z, .int .u64 (f 0), .int .u64 (f 1), .int .u64 (f 2), .int .u64 (f 3), .int .u64 (f 4), .int .u64 (f 5)] 91 ∧ Below B w0 wx)
  case first =>
    have HS : Hid (∀ w', Below U.heap.size U w' → w'.cell? ⟨B, 0, none⟩ = some (.int .i64 k) ∧ w'.cell? ⟨B, 1, none⟩ = some (.int .i64 u) ∧ w'.cell? ⟨B, 2, none⟩ = some (.bool x) ∧ w'.cell? ⟨B, 3, none⟩ = some (.slice A n c) ∧ w'.cell? ⟨B, 4, none⟩ = some (.slice TA tn tcap) ∧ w'.cell? ⟨B, 5, none⟩ = some (.int .u32 g.n) ∧ w'.cell? ⟨B, 6, none⟩ = some (.int .u32 g.a) ∧ w'.cell? ⟨B, 7, none⟩ = some (.int .u64 g.p) ∧ w'.cell? ⟨B, 8, none⟩ = some (.int .u64 (g.q 0)) ∧ w'.cell? ⟨B, 9, none⟩ = some (.int .u64 (g.q 1)) ∧ w'.cell? ⟨B, 10, none⟩ = some (.int .u64 (g.q 2)) ∧ w'.cell? ⟨B, 11, none⟩ = some (.int .u64 (g.q 3)) ∧ w'.cell? ⟨B, 12, none⟩ = some (.int .u64 (g.q 4)) ∧ w'.cell? ⟨B, 13, none⟩ = some (.int .u64 (g.q 5)) ∧ w'.cell? ⟨B, 14, none⟩ = some (.int .u64 z) ∧ w'.cell? ⟨B, 15, none⟩ = some (.int .u64 (f 0)) ∧ w'.cell? ⟨B, 16, none⟩ = some (.int .u64 (f 1)) ∧ w'.cell? ⟨B, 17, none⟩ = some (.int .u64 (f 2)) ∧ w'.cell? ⟨B, 18, none⟩ = some (.int .u64 (f 3)) ∧ w'.cell? ⟨B, 19, none⟩ = some (.int .u64 (f 4)) ∧ w'.cell? ⟨B, 20, none⟩ = some (.int .u64 (f 5))) := Lib.hid fun W hW => by
      have h := HRU.out.below hW HRU.out.lt
      exact ⟨h.cell 0 _ rfl, h.cell 1 _ rfl, h.cell 2 _ rfl, h.cell 3 _ rfl, h.cell 4 _ rfl, h.cell 5 _ rfl, h.cell 6 _ rfl, h.cell 7 _ rfl, h.cell 8 _ rfl, h.cell 9 _ rfl, h.cell 10 _ rfl, h.cell 11 _ rfl, h.cell 12 _ rfl, h.cell 13 _ rfl, h.cell 14 _ rfl, h.cell 15 _ rfl, h.cell 16 _ rfl, h.cell 17 _ rfl, h.cell 18 _ rfl, h.cell 19 _ rfl, h.cell 20 _ rfl⟩
    obtain ⟨s0, s1, s2, s3, s4, s5, s6, s7, s8, s9, s10, s11, s12, s13, s14, s15, s16, s17, s18, s19, s20⟩ := HS.out U (Below.refl _ _)
    go_region_held3 (fun w' => w'.cell? ⟨B, 0, none⟩ = some (.int .i64 k) ∧ w'.cell? ⟨B, 1, none⟩ = some (.int .i64 u) ∧ w'.cell? ⟨B, 2, none⟩ = some (.bool x) ∧ w'.cell? ⟨B, 3, none⟩ = some (.slice A n c) ∧ w'.cell? ⟨B, 4, none⟩ = some (.slice TA tn tcap) ∧ w'.cell? ⟨B, 5, none⟩ = some (.int .u32 g.n) ∧ w'.cell? ⟨B, 6, none⟩ = some (.int .u32 g.a) ∧ w'.cell? ⟨B, 7, none⟩ = some (.int .u64 g.p) ∧ w'.cell? ⟨B, 8, none⟩ = some (.int .u64 (g.q 0)) ∧ w'.cell? ⟨B, 9, none⟩ = some (.int .u64 (g.q 1)) ∧ w'.cell? ⟨B, 10, none⟩ = some (.int .u64 (g.q 2)) ∧ w'.cell? ⟨B, 11, none⟩ = some (.int .u64 (g.q 3)) ∧ w'.cell? ⟨B, 12, none⟩ = some (.int .u64 (g.q 4)) ∧ w'.cell? ⟨B, 13, none⟩ = some (.int .u64 (g.q 5)) ∧ w'.cell? ⟨B, 14, none⟩ = some (.int .u64 z) ∧ w'.cell? ⟨B, 15, none⟩ = some (.int .u64 (f 0)) ∧ w'.cell? ⟨B, 16, none⟩ = some (.int .u64 (f 1)) ∧ w'.cell? ⟨B, 17, none⟩ = some (.int .u64 (f 2)) ∧ w'.cell? ⟨B, 18, none⟩ = some (.int .u64 (f 3)) ∧ w'.cell? ⟨B, 19, none⟩ = some (.int .u64 (f 4)) ∧ w'.cell? ⟨B, 20, none⟩ = some (.int .u64 (f 5)))
      (exact HS.out _ (by repeat (first | assumption | exact Below.refl _ _ | apply Below.drew | apply bAl17)))
      (fail)
    all_goals go_wp2_with fail
    all_goals go_meet
    all_goals
      have hE : ∀ (O1 O2 : Obj), RowC ((U.alloc O1).alloc O2).drew B #[.int .i64 k, .int .i64 u, .bool x, .slice A n c, .slice TA tn tcap, .int .u32 g.n, .int .u32 g.a, .int .u64 g.p, .int .u64 (g.q 0), .int .u64 (g.q 1), .int .u64 (g.q 2), .int .u64 (g.q 3), .int .u64 (g.q 4), .int .u64 (g.q 5), .int .u64 z, .int .u64 (f 0), .int .u64 (f 1), .int .u64 (f 2), .int .u64 (f 3), .int .u64 (f 4), .int .u64 (f 5)] 91 ∧ Below B w0 ((U.alloc O1).alloc O2).drew := fun O1 O2 => by
        have hB : Below U.heap.size U ((U.alloc O1).alloc O2).drew := (bAl17 (bAl17 (Below.refl _ U) O1) O2).drew
        exact ⟨HRU.out.below hB HRU.out.lt, HBU.out.trans (hB.mono (by have := HSU.out; omega))⟩
      have hsz := HSU.out
      refine ⟨_, _, rfl, rfl, rfl, ?_, ?_, ?_, ?_, ?_, hE _ _⟩
      · first | exact drewC17 ((RowC.new _ _ _ _ rfl).alloc _) | exact drewC17 (RowC.new _ _ _ _ (by simp))
      · first | exact drewC17 ((RowC.new _ _ _ _ rfl).alloc _) | exact drewC17 (RowC.new _ _ _ _ (by simp))
      · omega
      · omega
      · omega
  case rest =>
  obtain ⟨X, Y, rfl, rfl, rfl, hX, hY, hXY, hBX, hBY, hZ, hB⟩ := hcut
  have HFX : Hid (∀ W, Below wc.heap.size wc W → RowC W X (polA k u x A n c) 39 ∧ RowC W Y #[.int .u32 g.n, .int .u32 g.a, .int .u64 g.p, .int .u64 (g.q 0), .int .u64 (g.q 1), .int .u64 (g.q 2), .int .u64 (g.q 3), .int .u64 (g.q 4), .int .u64 (g.q 5)] 74 ∧ RowC W B #[.int .i64 k, .int .i64 u, .bool x, .slice A n c, .slice TA tn tcap, .int .u32 g.n, .int .u32 g.a, .int .u64 g.p, .int .u64 (g.q 0), .int .u64 (g.q 1), .int .u64 (g.q 2), .int .u64 (g.q 3), .int .u64 (g.q 4), .int .u64 (g.q 5), .int .u64 z, .int .u64 (f 0), .int .u64 (f 1), .int .u64 (f 2), .int .u64 (f 3), .int .u64 (f 4), .int .u64 (f 5)] 91 ∧ Below B w0 W) := Lib.hid fun W hW => ⟨hX.below hW hX.lt, hY.below hW hY.lt, hZ.below hW hZ.lt, hB.trans (hW.mono (by have := hX.lt; omega))⟩
  have HNE := Lib.hid (And.intro hXY (And.intro hBX hBY))
  have HL := Lib.hid (light17_any k u x A n c R wc hnc hcm (HRT.out _ hB).1)
  have p0 := hX.cell 0 (.int .i64 k) rfl
  have p1 := hX.cell 1 (.int .i64 u) rfl
  have p2 := hX.cell 2 (.bool x) rfl
  have p3 := hX.cell 3 (.slice A n c) rfl
  clear HRU HBU HSU HU hX hY hXY hBX hBY hZ hB
  go_wp2_with fail
  refine HL.out.mono ?_
  rintro e w1 ⟨⟨bl, rfl, hlight⟩, hB1⟩
  have HB1 := Lib.hid hB1
  clear hB1 p0 p1 p2 p3 HL
  rcases bl with _ | _
  · go_wp2
    go_ret
    exact ⟨rfl, by rw [HBS.out]; exact (HFX.out _ HB1.out).2.2.2⟩
  have HLP := Lib.hid (hlight rfl)
  have hn40 := HLP.out.1
  clear hlight
  have HFEW := Lib.hid (few17_any TA tn tcap T w1 (HRT.out _ (HFX.out _ HB1.out).2.2.2).2.1)
  go_wp2_with fail
  refine HFEW.out.mono ?_
  rintro e w2 ⟨⟨hfew, rfl⟩ | ⟨hfew, rfl⟩, rfl⟩
  rotate_left
  · go_wp2
    go_ret
    exact ⟨rfl, by rw [HBS.out]; exact (HFX.out _ HB1.out).2.2.2⟩
  have ht40 := hfew.1
  clear hfew HFEW
  obtain ⟨L, hL⟩ : ∃ L, (List.range n).map (fun i => (R i).val) = L := ⟨_, rfl⟩
  have HLL := Lib.hid hL
  have KOG : Hid (∀ W, Below B w0 W → Calls Tryz.prog 33 #[.agg (polA k u x A n c)] W fun e w' => ∃ A' c' l, e = .returned (.agg (polA k u x A' n c')) ∧ l.length = n ∧ RowL w' W.heap.size A' l c' ∧ l.map RL.val = L ∧ Below W.heap.size W w') := Lib.hid fun W hW => by
    rw [← hL]
    exact of17_any k u x A n c R W hn40 (fun i hi => (HLP.out.2 i hi).2) (HRT.out _ hW).1
  have KWG : Hid (∀ W, Below B w0 W → Calls Tryz.prog 39 #[.slice TA tn tcap] W fun e w' => ∃ A' c', e = .returned (.slice A' tn c') ∧ OwnC w' W.heap.size 114 8 A' tn c' (rcell T) ∧ Below W.heap.size W w') := Lib.hid fun W hW => rows17_any TA tn tcap T W (by omega) (HRT.out _ hW).2.1
  have KJG : Hid (∀ (r : RecV), r.ok → ∀ W A2 l2 c2, RlL W A2 l2 → l2.length = n → l2.map RL.val = L → ∀ A7 c7, TbA W A7 tn T → Calls Tryz.prog 38 #[.agg (polA k u x A2 n c2), .slice A7 tn c7, .agg (rcells r)] W fun e w' => ∃ cc ee : Nat, e = .returned (.tuple #[.int .u32 cc, .int .i64 ee]) ∧ JudP k u x L T tn r cc ee ∧ Below W.heap.size W w') := Lib.hid fun r hr W A2 l2 c2 hl hln hv A7 c7 ht => by
    have h := judge_any k u x A2 l2 c2 A7 tn c7 T r W hl (by omega) (small_of17 (by rw [hv, hL]) fun i hi => (HLP.out.2 i hi).2) (fun e he => small_ru17 (hl.2 e he)) (by omega) ht hr
    rw [hln, hv] at h
    exact h
  have KO : Hid (∀ W, Below w1.heap.size w1 W → Calls Tryz.prog 33 #[.agg (polA k u x A n c)] W fun e w' => ∃ A' c' l, e = .returned (.agg (polA k u x A' n c')) ∧ l.length = n ∧ RowL w' W.heap.size A' l c' ∧ l.map RL.val = L ∧ Below W.heap.size W w') := Lib.hid fun W hW => KOG.out W (HFX.out _ (bTr HB1.out hW)).2.2.2
  have KW : Hid (∀ W, Below w1.heap.size w1 W → Calls Tryz.prog 39 #[.slice TA tn tcap] W fun e w' => ∃ A' c', e = .returned (.slice A' tn c') ∧ OwnC w' W.heap.size 114 8 A' tn c' (rcell T) ∧ Below W.heap.size W w') := Lib.hid fun W hW => KWG.out W (HFX.out _ (bTr HB1.out hW)).2.2.2
  have KC := Lib.hid fun W => record17_any g W
  have KJ := Lib.hid (KJG.out g HGOK.out)
  unfold rcells at KC KJ
  have HM : Hid (∀ w', Below w1.heap.size w1 w' → w'.cell? ⟨X, 0, none⟩ = some (.int .i64 k) ∧ w'.cell? ⟨X, 1, none⟩ = some (.int .i64 u) ∧ w'.cell? ⟨X, 2, none⟩ = some (.bool x) ∧ w'.cell? ⟨X, 3, none⟩ = some (.slice A n c) ∧ w'.cell? ⟨Y, 0, none⟩ = some (.int .u32 g.n) ∧ w'.cell? ⟨Y, 1, none⟩ = some (.int .u32 g.a) ∧ w'.cell? ⟨Y, 2, none⟩ = some (.int .u64 g.p) ∧ w'.cell? ⟨Y, 3, none⟩ = some (.int .u64 (g.q 0)) ∧ w'.cell? ⟨Y, 4, none⟩ = some (.int .u64 (g.q 1)) ∧ w'.cell? ⟨Y, 5, none⟩ = some (.int .u64 (g.q 2)) ∧ w'.cell? ⟨Y, 6, none⟩ = some (.int .u64 (g.q 3)) ∧ w'.cell? ⟨Y, 7, none⟩ = some (.int .u64 (g.q 4)) ∧ w'.cell? ⟨Y, 8, none⟩ = some (.int .u64 (g.q 5))) := Lib.hid fun W hW => by
    obtain ⟨h1, h2, _⟩ := HFX.out W (bTr HB1.out hW)
    exact ⟨h1.cell 0 _ rfl, h1.cell 1 _ rfl, h1.cell 2 _ rfl, h1.cell 3 _ rfl, h2.cell 0 _ rfl, h2.cell 1 _ rfl, h2.cell 2 _ rfl, h2.cell 3 _ rfl, h2.cell 4 _ rfl, h2.cell 5 _ rfl, h2.cell 6 _ rfl, h2.cell 7 _ rfl, h2.cell 8 _ rfl⟩
  obtain ⟨m0, m1, m2, m3, m4, m5, m6, m7, m8, m9, ma, mb, mc⟩ := HM.out w1 (Below.refl _ _)
  clear hL
  go_upto_region 4 with fail
  go_region_held3 (fun w' => w'.cell? ⟨X, 0, none⟩ = some (.int .i64 k) ∧ w'.cell? ⟨X, 1, none⟩ = some (.int .i64 u) ∧ w'.cell? ⟨X, 2, none⟩ = some (.bool x) ∧ w'.cell? ⟨X, 3, none⟩ = some (.slice A n c) ∧ w'.cell? ⟨Y, 0, none⟩ = some (.int .u32 g.n) ∧ w'.cell? ⟨Y, 1, none⟩ = some (.int .u32 g.a) ∧ w'.cell? ⟨Y, 2, none⟩ = some (.int .u64 g.p) ∧ w'.cell? ⟨Y, 3, none⟩ = some (.int .u64 (g.q 0)) ∧ w'.cell? ⟨Y, 4, none⟩ = some (.int .u64 (g.q 1)) ∧ w'.cell? ⟨Y, 5, none⟩ = some (.int .u64 (g.q 2)) ∧ w'.cell? ⟨Y, 6, none⟩ = some (.int .u64 (g.q 3)) ∧ w'.cell? ⟨Y, 7, none⟩ = some (.int .u64 (g.q 4)) ∧ w'.cell? ⟨Y, 8, none⟩ = some (.int .u64 (g.q 5)))
    (first | (with_reducible exact HM.out _ (by assumption)) | exact HM.out _ (Below.refl _ _) | exact HM.out _ (Below.refl _ _).drew)
    (first
      | (go_at_call 33
         refine (KO.out _ (Below.refl _ _).drew).mono ?_
         rintro e w6 ⟨A2, c2, l2, rfl, hl2, hrow2, hv2, hB6⟩
         have hk6 : Below w1.heap.size w1 w6 := (Below.refl _ _).drew.trans hB6)
      | (go_at_call 39
         refine (KW.out _ hk6).mono ?_
         rintro e w7 ⟨A7, c7, rfl, hown7, hB7⟩
         have hk7 : Below w1.heap.size w1 w7 := bTr hk6 hB7)
      | (go_at_call 40
         refine (KC.out _).mono ?_
         rintro e w8 ⟨rfl, hB8⟩
         have hk8 : Below w1.heap.size w1 w8 := bTr hk7 hB8)
      | (go_at_call 38
         refine (KJ.out _ A2 l2 c2 ((hrow2.rl.below hB7 (Nat.le_refl _)).below hB8 (Nat.le_refl _)) hl2 hv2 A7 c7 ((own_TbA hown7).below hB8 (Nat.le_refl _))).mono ?_
         rintro e v1 ⟨cc1, ee1, rfl, hj, hB9⟩
         have hk9 : Below w1.heap.size w1 v1 := bTr hk8 hB9))
  have HJ1 := Lib.hid hj
  have HV1 : Hid (Below wc.heap.size wc v1) := Lib.hid (bTr HB1.out hk9)
  clear m0 m1 m2 m3 m4 m5 m6 m7 m8 m9 ma mb mc hk6 hk7 hk8 hk9 hB6 hB7 hB8 hB9 hown7 hrow2 hl2 hv2 hj KO KW KJ HM KC
  obtain ⟨hX1, hY1, hZ1, hBv1⟩ := HFX.out _ HV1.out
  obtain ⟨W5, hW5⟩ : ∃ W, v1.setCell ⟨Y, 2, none⟩ (.int .u64 z) = W := ⟨_, rfl⟩
  have hX5 : RowC W5 X (polA k u x A n c) 39 := by rw [← hW5]; exact hX1.setOther (g := Y) 2 _ HNE.out.1
  have hY5 : RowC W5 Y (recQ g z g.q) 74 := by rw [← hW5]; exact hY1.set 2 _
  have hZ5 : RowC W5 B #[.int .i64 k, .int .i64 u, .bool x, .slice A n c, .slice TA tn tcap, .int .u32 g.n, .int .u32 g.a, .int .u64 g.p, .int .u64 (g.q 0), .int .u64 (g.q 1), .int .u64 (g.q 2), .int .u64 (g.q 3), .int .u64 (g.q 4), .int .u64 (g.q 5), .int .u64 z, .int .u64 (f 0), .int .u64 (f 1), .int .u64 (f 2), .int .u64 (f 3), .int .u64 (f 4), .int .u64 (f 5)] 91 := by rw [← hW5]; exact hZ1.setOther (g := Y) 2 _ (by have := HNE.out.2.2; omega)
  have hB5 : Below B w0 W5 := by rw [← hW5]; exact hBv1.setCell (by show B ≤ Y; have := HNE.out.2.2; omega) _
  have z14 := hZ1.cell 14 (.int .u64 z) rfl
  have y2 := hY1.cell 2 (.int .u64 g.p) rfl
  have y2' := hY1.frozen 2
  have HFY : Hid (∀ W, Below W5.heap.size W5 W → RowC W X (polA k u x A n c) 39 ∧ RowC W Y (recQ g z g.q) 74 ∧ RowC W B #[.int .i64 k, .int .i64 u, .bool x, .slice A n c, .slice TA tn tcap, .int .u32 g.n, .int .u32 g.a, .int .u64 g.p, .int .u64 (g.q 0), .int .u64 (g.q 1), .int .u64 (g.q 2), .int .u64 (g.q 3), .int .u64 (g.q 4), .int .u64 (g.q 5), .int .u64 z, .int .u64 (f 0), .int .u64 (f 1), .int .u64 (f 2), .int .u64 (f 3), .int .u64 (f 4), .int .u64 (f 5)] 91 ∧ Below B w0 W) := Lib.hid fun W hW => ⟨hX5.below hW hX5.lt, hY5.below hW hY5.lt, hZ5.below hW hZ5.lt, hB5.trans (hW.mono (by have := hZ5.lt; omega))⟩
  have HW5 := Lib.hid hW5
  have KR6 := Lib.hid (KWG.out W5 hB5)
  clear hX1 hY1 hZ1 hBv1 hX5 hY5 hZ5 hB5
  go_upto_region 6 with fail
  (try rw [HW5.out])
  clear hW5 z14 y2 y2'
  go_wp2_with fail
  refine KR6.out.mono ?_
  rintro e w6 ⟨A6, c6, rfl, hown6, hB6⟩
  have KS6 := Lib.hid (Right_any A6 tn c6 T w6 (own_TbA hown6))
  go_wp2_with fail
  refine KS6.out.mono ?_
  rintro e v6 ⟨p, q, hpq, rfl, hB7⟩
  have HV6 : Hid (Below W5.heap.size W5 v6) := Lib.hid (bTr hB6 hB7)
  have HPQ := Lib.hid hpq
  clear hown6 hB6 hB7 hpq KR6 KS6
  obtain ⟨gz, hgz⟩ : ∃ gz : RecV, (⟨g.n, g.a, z, g.q⟩ : RecV) = gz := ⟨_, rfl⟩
  have HGZ := Lib.hid hgz
  have hokz : gz.ok := by rw [← hgz]; exact ⟨HGOK.out.1, HGOK.out.2.1, HZF.out.1, HGOK.out.2.2.2⟩
  have HOKZ := Lib.hid hokz
  have hrcz : rcells gz = recQ g z g.q := by rw [← hgz]; rfl
  have KCZ : Hid (∀ W, Calls Tryz.prog 40 #[.agg (recQ g z g.q)] W fun e w' => e = .returned (.agg (recQ g z g.q)) ∧ Below W.heap.size W w') := Lib.hid fun W => by
    have h := record17_any gz W
    rw [hrcz] at h
    exact h
  have KWZ : Hid (∀ W, Below v6.heap.size v6 W → Calls Tryz.prog 39 #[.slice TA tn tcap] W fun e w' => ∃ A' c', e = .returned (.slice A' tn c') ∧ OwnC w' W.heap.size 114 8 A' tn c' (rcell T) ∧ Below W.heap.size W w') := Lib.hid fun W hW => KWG.out W (HFY.out _ (bTr HV6.out hW)).2.2.2
  have KFZ : Hid (∀ W A7 c7, TbA W A7 tn T → Calls Tryz.prog 45 #[.slice A7 tn c7, .agg (recQ g z g.q)] W fun e w' => ∃ sm ab nm mu, CallP T tn gz sm ab nm mu ∧ e = .returned (.agg #[.bool sm, .int .i64 (ab : Nat), .string nm, .bool mu]) ∧ Below W.heap.size W w') := Lib.hid fun W A7 c7 ht => by
    have h := of_mux A7 tn c7 T gz hokz W (by omega) ht
    rw [hrcz] at h
    exact h
  have HMZ : Hid (∀ w', Below v6.heap.size v6 w' → w'.cell? ⟨Y, 0, none⟩ = some (.int .u32 g.n) ∧ w'.cell? ⟨Y, 1, none⟩ = some (.int .u32 g.a) ∧ w'.cell? ⟨Y, 2, none⟩ = some (.int .u64 z) ∧ w'.cell? ⟨Y, 3, none⟩ = some (.int .u64 (g.q 0)) ∧ w'.cell? ⟨Y, 4, none⟩ = some (.int .u64 (g.q 1)) ∧ w'.cell? ⟨Y, 5, none⟩ = some (.int .u64 (g.q 2)) ∧ w'.cell? ⟨Y, 6, none⟩ = some (.int .u64 (g.q 3)) ∧ w'.cell? ⟨Y, 7, none⟩ = some (.int .u64 (g.q 4)) ∧ w'.cell? ⟨Y, 8, none⟩ = some (.int .u64 (g.q 5))) := Lib.hid fun W hW => by
    obtain ⟨_, h2, _⟩ := HFY.out W (bTr HV6.out hW)
    exact ⟨h2.cell 0 _ rfl, h2.cell 1 _ rfl, h2.cell 2 _ rfl, h2.cell 3 _ rfl, h2.cell 4 _ rfl, h2.cell 5 _ rfl, h2.cell 6 _ rfl, h2.cell 7 _ rfl, h2.cell 8 _ rfl⟩
  clear hgz hokz hrcz
  go_upto_region 7 with fail
  go_cut [60] from 46 to 60 (fun s wx => ∃ bv : Bool, s = .bool bv ∧ (bv = true → ee1 = 0 ∧ ∀ sm ab nm mu, CallP T tn gz sm ab nm mu → mu = false) ∧ Below v6.heap.size v6 wx)
  case first =>
    by_cases he1 : ee1 = 0
    · subst he1
      by_cases hq0 : q = 0
      · subst hq0
        obtain ⟨m0, m1, m2, m3, m4, m5, m6, m7, m8⟩ := HMZ.out v6 (Below.refl _ _)
        have hfld := fun sm (ab : Nat) nm mu W => fld3 (.bool sm) (.int .i64 ab) (.string nm) (.bool mu) W
        go_region_held3 (fun w' => w'.cell? ⟨Y, 0, none⟩ = some (.int .u32 g.n) ∧ w'.cell? ⟨Y, 1, none⟩ = some (.int .u32 g.a) ∧ w'.cell? ⟨Y, 2, none⟩ = some (.int .u64 z) ∧ w'.cell? ⟨Y, 3, none⟩ = some (.int .u64 (g.q 0)) ∧ w'.cell? ⟨Y, 4, none⟩ = some (.int .u64 (g.q 1)) ∧ w'.cell? ⟨Y, 5, none⟩ = some (.int .u64 (g.q 2)) ∧ w'.cell? ⟨Y, 6, none⟩ = some (.int .u64 (g.q 3)) ∧ w'.cell? ⟨Y, 7, none⟩ = some (.int .u64 (g.q 4)) ∧ w'.cell? ⟨Y, 8, none⟩ = some (.int .u64 (g.q 5)))
          (first | (with_reducible exact HMZ.out _ (by assumption)) | exact HMZ.out _ (Below.refl _ _) | exact HMZ.out _ (Below.refl _ _).drew)
          (first
            | (go_at_call 39
               refine (KWZ.out _ (Below.refl _ _).drew).mono ?_
               rintro e w7 ⟨A7, c7, rfl, hown7, hB7⟩
               have hk7 : Below v6.heap.size v6 w7 := (Below.refl _ _).drew.trans hB7)
            | (go_at_call 40
               refine (KCZ.out _).mono ?_
               rintro e w8 ⟨rfl, hB8⟩
               have hk8 : Below v6.heap.size v6 w8 := bTr hk7 hB8)
            | (go_at_call 45
               refine (KFZ.out _ A7 c7 ((own_TbA hown7).below hB8 (Nat.le_refl _))).mono ?_
               rintro e w9 ⟨sm, ab, nm, mu, hcall, rfl, hB9⟩
               have hk9 : Below v6.heap.size v6 w9 := bTr hk8 hB9
               have hfl := hfld sm ab nm mu))
        all_goals go_wp2_with fail
        all_goals go_meet
        all_goals exact ⟨_, rfl, fun hb => ⟨by first | rfl | trivial, fun sm' ab' nm' mu' hc' => by
          obtain ⟨rfl, rfl, rfl, rfl⟩ := CallP.uniq hcall hc'
          cases mu
          · rfl
          · cases hb⟩, hk9⟩
      · have hqz : ((q : Int) == 0) = false := by simpa using hq0
        clear hq0
        go_quiet (fail)
        go_wp2_with fail
        go_meet
        exact ⟨_, rfl, (fun hb => by cases hb), bdn (Below.refl _ _) nq⟩
    · have hez : ((ee1 : Int) == 0) = false := by simpa using he1
      clear he1
      go_quiet (fail)
      go_wp2_with fail
      go_meet
      exact ⟨_, rfl, (fun hb => by cases hb), bdn (Below.refl _ _) nq⟩
  case rest =>
  obtain ⟨bv, rfl, hbv, hBw⟩ := hcut
  have HBV := Lib.hid hbv
  have HW7 : Hid (Below W5.heap.size W5 wc) := Lib.hid (bTr HV6.out hBw)
  clear hbv hBw KCZ KWZ KFZ HMZ
  cases bv with
  | false =>
    have HRW := Lib.hid (show RowC wc X (polA k u x A n c) 39 ∧ RowC wc Y (recQ g z g.q) 74 ∧ Below B w0 wc from ⟨(HFY.out _ HW7.out).1, (HFY.out _ HW7.out).2.1, (HFY.out _ HW7.out).2.2.2⟩)
    have hsV : Hid (B ≤ wc.heap.size) := Lib.hid (by have h := HRW.out.1.lt; have := HNE.out; omega)
    obtain ⟨g2, hg2⟩ : ∃ g2 : RecV, (⟨g.n, g.a, z, g.q⟩ : RecV) = g2 := ⟨_, rfl⟩
    have HG2 := Lib.hid hg2
    have hok2 : g2.ok := by rw [← hg2]; exact ⟨HGOK.out.1, HGOK.out.2.1, HZF.out.1, HGOK.out.2.2.2⟩
    have hrc2 : rcells g2 = recQ g z (g.q) := by rw [← hg2]; rfl
    have KC2 : Hid (∀ W, Calls Tryz.prog 40 #[.agg (recQ g z (g.q))] W fun e w' => e = .returned (.agg (recQ g z (g.q))) ∧ Below W.heap.size W w') := Lib.hid fun W => by
      have h := record17_any g2 W
      rw [hrc2] at h
      exact h
    have KJ2 : Hid (∀ W A2 l2 c2, RlL W A2 l2 → l2.length = n → l2.map RL.val = L → ∀ A7 c7, TbA W A7 tn T → Calls Tryz.prog 38 #[.agg (polA k u x A2 n c2), .slice A7 tn c7, .agg (recQ g z (g.q))] W fun e w' => ∃ cc ee : Nat, e = .returned (.tuple #[.int .u32 cc, .int .i64 ee]) ∧ JudP k u x L T tn g2 cc ee ∧ Below W.heap.size W w') := Lib.hid (by
      have h := KJG.out g2 hok2
      rw [hrc2] at h
      exact h)
    have KO2 : Hid (∀ W, Below wc.heap.size wc W → Calls Tryz.prog 33 #[.agg (polA k u x A n c)] W fun e w' => ∃ A' c' l, e = .returned (.agg (polA k u x A' n c')) ∧ l.length = n ∧ RowL w' W.heap.size A' l c' ∧ l.map RL.val = L ∧ Below W.heap.size W w') := Lib.hid fun W hW => KOG.out W (HRW.out.2.2.trans (hW.mono hsV.out))
    have KW2 : Hid (∀ W, Below wc.heap.size wc W → Calls Tryz.prog 39 #[.slice TA tn tcap] W fun e w' => ∃ A' c', e = .returned (.slice A' tn c') ∧ OwnC w' W.heap.size 114 8 A' tn c' (rcell T) ∧ Below W.heap.size W w') := Lib.hid fun W hW => KWG.out W (HRW.out.2.2.trans (hW.mono hsV.out))
    have HMT : Hid (∀ w', Below wc.heap.size wc w' → w'.cell? ⟨X, 0, none⟩ = some (.int .i64 k) ∧ w'.cell? ⟨X, 1, none⟩ = some (.int .i64 u) ∧ w'.cell? ⟨X, 2, none⟩ = some (.bool x) ∧ w'.cell? ⟨X, 3, none⟩ = some (.slice A n c) ∧ w'.cell? ⟨Y, 0, none⟩ = some (.int .u32 g.n) ∧ w'.cell? ⟨Y, 1, none⟩ = some (.int .u32 g.a) ∧ w'.cell? ⟨Y, 2, none⟩ = some (.int .u64 z) ∧ w'.cell? ⟨Y, 3, none⟩ = some (.int .u64 (g.q 0)) ∧ w'.cell? ⟨Y, 4, none⟩ = some (.int .u64 (g.q 1)) ∧ w'.cell? ⟨Y, 5, none⟩ = some (.int .u64 (g.q 2)) ∧ w'.cell? ⟨Y, 6, none⟩ = some (.int .u64 (g.q 3)) ∧ w'.cell? ⟨Y, 7, none⟩ = some (.int .u64 (g.q 4)) ∧ w'.cell? ⟨Y, 8, none⟩ = some (.int .u64 (g.q 5))) := Lib.hid fun W hW => by
      have h1 := HRW.out.1.below hW HRW.out.1.lt
      have h2 := HRW.out.2.1.below hW HRW.out.2.1.lt
      exact ⟨h1.cell 0 _ rfl, h1.cell 1 _ rfl, h1.cell 2 _ rfl, h1.cell 3 _ rfl, h2.cell 0 _ rfl, h2.cell 1 _ rfl, h2.cell 2 _ rfl, h2.cell 3 _ rfl, h2.cell 4 _ rfl, h2.cell 5 _ rfl, h2.cell 6 _ rfl, h2.cell 7 _ rfl, h2.cell 8 _ rfl⟩
    obtain ⟨m0, m1, m2, m3, m4, m5, m6, m7, m8, m9, ma, mb, mc⟩ := HMT.out wc (Below.refl _ _)
    clear hg2 hok2 hrc2
    go_upto_region 13 with fail
    go_region_held3 (fun w' => w'.cell? ⟨X, 0, none⟩ = some (.int .i64 k) ∧ w'.cell? ⟨X, 1, none⟩ = some (.int .i64 u) ∧ w'.cell? ⟨X, 2, none⟩ = some (.bool x) ∧ w'.cell? ⟨X, 3, none⟩ = some (.slice A n c) ∧ w'.cell? ⟨Y, 0, none⟩ = some (.int .u32 g.n) ∧ w'.cell? ⟨Y, 1, none⟩ = some (.int .u32 g.a) ∧ w'.cell? ⟨Y, 2, none⟩ = some (.int .u64 z) ∧ w'.cell? ⟨Y, 3, none⟩ = some (.int .u64 (g.q 0)) ∧ w'.cell? ⟨Y, 4, none⟩ = some (.int .u64 (g.q 1)) ∧ w'.cell? ⟨Y, 5, none⟩ = some (.int .u64 (g.q 2)) ∧ w'.cell? ⟨Y, 6, none⟩ = some (.int .u64 (g.q 3)) ∧ w'.cell? ⟨Y, 7, none⟩ = some (.int .u64 (g.q 4)) ∧ w'.cell? ⟨Y, 8, none⟩ = some (.int .u64 (g.q 5)))
      (first | (with_reducible exact HMT.out _ (by assumption)) | exact HMT.out _ (Below.refl _ _) | exact HMT.out _ (Below.refl _ _).drew)
      (first
        | (go_at_call 33
           refine (KO2.out _ (Below.refl _ _).drew).mono ?_
           rintro e w6 ⟨A2, c2, l2, rfl, hl2, hrow2, hv2, hB6⟩
           have hk6 : Below wc.heap.size wc w6 := (Below.refl _ _).drew.trans hB6)
        | (go_at_call 39
           refine (KW2.out _ hk6).mono ?_
           rintro e w7 ⟨A7, c7, rfl, hown7, hB7⟩
           have hk7 : Below wc.heap.size wc w7 := bTr hk6 hB7)
        | (go_at_call 40
           refine (KC2.out _).mono ?_
           rintro e w8 ⟨rfl, hB8⟩
           have hk8 : Below wc.heap.size wc w8 := bTr hk7 hB8)
        | (go_at_call 38
           refine (KJ2.out _ A2 l2 c2 ((hrow2.rl.below hB7 (Nat.le_refl _)).below hB8 (Nat.le_refl _)) hl2 hv2 A7 c7 ((own_TbA hown7).below hB8 (Nat.le_refl _))).mono ?_
           rintro e vz ⟨cc2, ee2, rfl, hj, hB9⟩
           have hk9 : Below wc.heap.size wc vz := bTr hk8 hB9))
    obtain ⟨e1, e2⟩ := jud_blind HJ1.out hj (by rw [← HG2.out]) (by rw [← HG2.out]) (by rw [← HG2.out]; exact .inl rfl)
    subst e1 e2
    have HVZ : Hid (Below B w0 vz) := Lib.hid (HRW.out.2.2.trans (hk9.mono hsV.out))
    have HSZ : Hid (B ≤ vz.heap.size) := Lib.hid (Nat.le_trans hsV.out hk9.size)
    have KE := Lib.hid (HAW.out vz HVZ.out)
    clear m0 m1 m2 m3 m4 m5 m6 m7 m8 m9 ma mb mc hk6 hk7 hk8 hk9 hB6 hB7 hB8 hB9 hown7 hrow2 hl2 hv2 hj KO2 KW2 KJ2 HMT KC2
    go_wp2_with fail
    refine KE.out.mono ?_
    rintro e ve ⟨rfl, hBe⟩
    go_wp2
    go_ret
    exact ⟨rfl, by rw [HBS.out]; exact HVZ.out.trans (hBe.mono HSZ.out)⟩
  | true =>
    have hee := (HBV.out rfl).1
    have hrv := (jud_ok HJ1.out hee).1
    have HRV := Lib.hid hrv
    have HCM := Lib.hid (HBV.out rfl).2
    clear HBV
    have KAS : Hid (∀ W, Below B w0 W → ∀ a : Int, Calls Tryz.prog 47 #[.agg (polA k u x A n c), .int .i64 a] W fun e w' => e = .returned (.bool (askF L a)) ∧ Below W.heap.size W w') := Lib.hid fun W hW a => by
      rw [← HLL.out]
      exact asked_any k u x A n c R a W (by omega) (fun i hi => by have := (HLP.out.2 i hi).2; omega) (HRT.out _ hW).1
    clear hee hrv
    go_wp2
    go_loopw [10] (fun s wr => ∃ i : Nat, i ≤ 6 ∧ s = .int .i64 i ∧ Hid (RowC wr X (polA k u x A n c) 39 ∧ RowC wr Y (recQ g z (mixQ L g.q f i)) 74 ∧ RowC wr B #[.int .i64 k, .int .i64 u, .bool x, .slice A n c, .slice TA tn tcap, .int .u32 g.n, .int .u32 g.a, .int .u64 g.p, .int .u64 (g.q 0), .int .u64 (g.q 1), .int .u64 (g.q 2), .int .u64 (g.q 3), .int .u64 (g.q 4), .int .u64 (g.q 5), .int .u64 z, .int .u64 (f 0), .int .u64 (f 1), .int .u64 (f 2), .int .u64 (f 3), .int .u64 (f 4), .int .u64 (f 5)] 91 ∧ Below B w0 wr)) (fun s _ => 6 - (intOf s).toNat)
    case atStart => exact ⟨0, Nat.zero_le _, rfl, Lib.hid ⟨(HFY.out _ HW7.out).1, by rw [mix_zero]; exact (HFY.out _ HW7.out).2.1, (HFY.out _ HW7.out).2.2.1, (HFY.out _ HW7.out).2.2.2⟩⟩
    case round =>
      obtain ⟨i, hi, rfl, HI⟩ := hrel
      by_cases hlt : i < 6
      · have KA := Lib.hid (KAS.out wr HI.out.2.2.2 (i : Int))
        have p0 := HI.out.1.cell 0 (.int .i64 k) rfl
        have p1 := HI.out.1.cell 1 (.int .i64 u) rfl
        have p2 := HI.out.1.cell 2 (.bool x) rfl
        have p3 := HI.out.1.cell 3 (.slice A n c) rfl
        have i1 : (0 : Int) ≤ (i : Int) := by omega
        have i2 : (i : Int) < 6 := by omega
        go_wp2_with fail
        refine KA.out.mono ?_
        rintro e w9 ⟨rfl, hB9⟩
        have hx9 := HI.out.1.below hB9 HI.out.1.lt
        have hy9 := HI.out.2.1.below hB9 HI.out.2.1.lt
        have hz9 := HI.out.2.2.1.below hB9 HI.out.2.2.1.lt
        have hb9 : Below B w0 w9 := HI.out.2.2.2.trans (hB9.mono (by have := HI.out.1.lt; have := HNE.out; omega))
        have z9 : w9.cell? ⟨B, 15 + i, none⟩ = some (.int .u64 (f i)) := zArgs hz9 (fun i hi => by
          match i, hi with
          | 0, _ => rfl
          | 1, _ => rfl
          | 2, _ => rfl
          | 3, _ => rfl
          | 4, _ => rfl
          | 5, _ => rfl) i hlt
        have y9 := hy9.cell (3 + i) _ (recQ_at g z _ i hlt)
        have y9' := hy9.frozen (3 + i)
        have HX9 := Lib.hid hx9
        have HY9 := Lib.hid hy9
        have HZ9 := Lib.hid hz9
        have HB9 := Lib.hid hb9
        clear p0 p1 p2 p3 hB9 hx9 hy9 hz9 hb9 KA
        cases ha : askF L (i : Int) with
        | true =>
          have HN : Hid (RowC w9 Y (recQ g z (mixQ L g.q f (i + 1))) 74) := Lib.hid (by rw [mix_skip ha]; exact HY9.out)
          clear ha
          go_wp2
          exact ⟨⟨i + 1, by omega, by go_num, Lib.hid ⟨HX9.out, HN.out, HZ9.out, HB9.out⟩⟩, by simp [intOf]; omega⟩
        | false =>
          have HN : Hid (RowC (w9.setCell ⟨Y, 3 + i, none⟩ (.int .u64 (f i))) Y (recQ g z (mixQ L g.q f (i + 1))) 74) := Lib.hid (by
            have h := HY9.out.set (3 + i) (.int .u64 (f i))
            rw [recQ_set hlt (mix_take ha)] at h
            exact h)
          clear ha
          go_wp2
          exact ⟨⟨i + 1, by omega, by go_num, Lib.hid ⟨HX9.out.setOther (g := Y) (3 + i) _ HNE.out.1, HN.out, HZ9.out.setOther (g := Y) (3 + i) _ (by have := HNE.out; omega), HB9.out.setCell (by show B ≤ Y; have := HNE.out; omega) _⟩⟩, by simp [intOf]; omega⟩
      · obtain rfl : i = 6 := by omega
        have HRW := Lib.hid (show RowC wr X (polA k u x A n c) 39 ∧ RowC wr Y (recQ g z (mixQ L g.q f 6)) 74 ∧ Below B w0 wr from ⟨HI.out.1, HI.out.2.1, HI.out.2.2.2⟩)
        have hsV : Hid (B ≤ wr.heap.size) := Lib.hid (by have h := HRW.out.1.lt; have := HNE.out; omega)
        obtain ⟨g2, hg2⟩ : ∃ g2 : RecV, (⟨g.n, g.a, z, mixQ L g.q f 6⟩ : RecV) = g2 := ⟨_, rfl⟩
        have HG2 := Lib.hid hg2
        have hok2 : g2.ok := by rw [← hg2]; exact ⟨HGOK.out.1, HGOK.out.2.1, HZF.out.1, mix_lt HGOK.out.2.2.2 HZF.out.2 6⟩
        have hrc2 : rcells g2 = recQ g z (mixQ L g.q f 6) := by rw [← hg2]; rfl
        have KC2 : Hid (∀ W, Calls Tryz.prog 40 #[.agg (recQ g z (mixQ L g.q f 6))] W fun e w' => e = .returned (.agg (recQ g z (mixQ L g.q f 6))) ∧ Below W.heap.size W w') := Lib.hid fun W => by
          have h := record17_any g2 W
          rw [hrc2] at h
          exact h
        have KJ2 : Hid (∀ W A2 l2 c2, RlL W A2 l2 → l2.length = n → l2.map RL.val = L → ∀ A7 c7, TbA W A7 tn T → Calls Tryz.prog 38 #[.agg (polA k u x A2 n c2), .slice A7 tn c7, .agg (recQ g z (mixQ L g.q f 6))] W fun e w' => ∃ cc ee : Nat, e = .returned (.tuple #[.int .u32 cc, .int .i64 ee]) ∧ JudP k u x L T tn g2 cc ee ∧ Below W.heap.size W w') := Lib.hid (by
          have h := KJG.out g2 hok2
          rw [hrc2] at h
          exact h)
        have KO2 : Hid (∀ W, Below wr.heap.size wr W → Calls Tryz.prog 33 #[.agg (polA k u x A n c)] W fun e w' => ∃ A' c' l, e = .returned (.agg (polA k u x A' n c')) ∧ l.length = n ∧ RowL w' W.heap.size A' l c' ∧ l.map RL.val = L ∧ Below W.heap.size W w') := Lib.hid fun W hW => KOG.out W (HRW.out.2.2.trans (hW.mono hsV.out))
        have KW2 : Hid (∀ W, Below wr.heap.size wr W → Calls Tryz.prog 39 #[.slice TA tn tcap] W fun e w' => ∃ A' c', e = .returned (.slice A' tn c') ∧ OwnC w' W.heap.size 114 8 A' tn c' (rcell T) ∧ Below W.heap.size W w') := Lib.hid fun W hW => KWG.out W (HRW.out.2.2.trans (hW.mono hsV.out))
        have HMT : Hid (∀ w', Below wr.heap.size wr w' → w'.cell? ⟨X, 0, none⟩ = some (.int .i64 k) ∧ w'.cell? ⟨X, 1, none⟩ = some (.int .i64 u) ∧ w'.cell? ⟨X, 2, none⟩ = some (.bool x) ∧ w'.cell? ⟨X, 3, none⟩ = some (.slice A n c) ∧ w'.cell? ⟨Y, 0, none⟩ = some (.int .u32 g.n) ∧ w'.cell? ⟨Y, 1, none⟩ = some (.int .u32 g.a) ∧ w'.cell? ⟨Y, 2, none⟩ = some (.int .u64 z) ∧ w'.cell? ⟨Y, 3, none⟩ = some (.int .u64 (mixQ L g.q f 6 0)) ∧ w'.cell? ⟨Y, 4, none⟩ = some (.int .u64 (mixQ L g.q f 6 1)) ∧ w'.cell? ⟨Y, 5, none⟩ = some (.int .u64 (mixQ L g.q f 6 2)) ∧ w'.cell? ⟨Y, 6, none⟩ = some (.int .u64 (mixQ L g.q f 6 3)) ∧ w'.cell? ⟨Y, 7, none⟩ = some (.int .u64 (mixQ L g.q f 6 4)) ∧ w'.cell? ⟨Y, 8, none⟩ = some (.int .u64 (mixQ L g.q f 6 5))) := Lib.hid fun W hW => by
          have h1 := HRW.out.1.below hW HRW.out.1.lt
          have h2 := HRW.out.2.1.below hW HRW.out.2.1.lt
          exact ⟨h1.cell 0 _ rfl, h1.cell 1 _ rfl, h1.cell 2 _ rfl, h1.cell 3 _ rfl, h2.cell 0 _ rfl, h2.cell 1 _ rfl, h2.cell 2 _ rfl, h2.cell 3 _ rfl, h2.cell 4 _ rfl, h2.cell 5 _ rfl, h2.cell 6 _ rfl, h2.cell 7 _ rfl, h2.cell 8 _ rfl⟩
        obtain ⟨m0, m1, m2, m3, m4, m5, m6, m7, m8, m9, ma, mb, mc⟩ := HMT.out wr (Below.refl _ _)
        clear hg2 hok2 hrc2
        go_upto_region 13 with fail
        go_region_held3 (fun w' => w'.cell? ⟨X, 0, none⟩ = some (.int .i64 k) ∧ w'.cell? ⟨X, 1, none⟩ = some (.int .i64 u) ∧ w'.cell? ⟨X, 2, none⟩ = some (.bool x) ∧ w'.cell? ⟨X, 3, none⟩ = some (.slice A n c) ∧ w'.cell? ⟨Y, 0, none⟩ = some (.int .u32 g.n) ∧ w'.cell? ⟨Y, 1, none⟩ = some (.int .u32 g.a) ∧ w'.cell? ⟨Y, 2, none⟩ = some (.int .u64 z) ∧ w'.cell? ⟨Y, 3, none⟩ = some (.int .u64 (mixQ L g.q f 6 0)) ∧ w'.cell? ⟨Y, 4, none⟩ = some (.int .u64 (mixQ L g.q f 6 1)) ∧ w'.cell? ⟨Y, 5, none⟩ = some (.int .u64 (mixQ L g.q f 6 2)) ∧ w'.cell? ⟨Y, 6, none⟩ = some (.int .u64 (mixQ L g.q f 6 3)) ∧ w'.cell? ⟨Y, 7, none⟩ = some (.int .u64 (mixQ L g.q f 6 4)) ∧ w'.cell? ⟨Y, 8, none⟩ = some (.int .u64 (mixQ L g.q f 6 5)))
          (first | (with_reducible exact HMT.out _ (by assumption)) | exact HMT.out _ (Below.refl _ _) | exact HMT.out _ (Below.refl _ _).drew)
          (first
            | (go_at_call 33
               refine (KO2.out _ (Below.refl _ _).drew).mono ?_
               rintro e w6 ⟨A2, c2, l2, rfl, hl2, hrow2, hv2, hB6⟩
               have hk6 : Below wr.heap.size wr w6 := (Below.refl _ _).drew.trans hB6)
            | (go_at_call 39
               refine (KW2.out _ hk6).mono ?_
               rintro e w7 ⟨A7, c7, rfl, hown7, hB7⟩
               have hk7 : Below wr.heap.size wr w7 := bTr hk6 hB7)
            | (go_at_call 40
               refine (KC2.out _).mono ?_
               rintro e w8 ⟨rfl, hB8⟩
               have hk8 : Below wr.heap.size wr w8 := bTr hk7 hB8)
            | (go_at_call 38
               refine (KJ2.out _ A2 l2 c2 ((hrow2.rl.below hB7 (Nat.le_refl _)).below hB8 (Nat.le_refl _)) hl2 hv2 A7 c7 ((own_TbA hown7).below hB8 (Nat.le_refl _))).mono ?_
               rintro e vz ⟨cc2, ee2, rfl, hj, hB9⟩
               have hk9 : Below wr.heap.size wr vz := bTr hk8 hB9))
        obtain ⟨e1, e2⟩ := jud_blind HJ1.out hj (by rw [← HG2.out]) (by rw [← HG2.out]) (by rw [← HG2.out]; exact .inr ⟨fun sm ab nm mu h => HCM.out sm ab nm mu (by rw [← HGZ.out]; exact h), mix_asked HRV.out g.q f⟩)
        subst e1 e2
        have HVZ : Hid (Below B w0 vz) := Lib.hid (HRW.out.2.2.trans (hk9.mono hsV.out))
        have HSZ : Hid (B ≤ vz.heap.size) := Lib.hid (Nat.le_trans hsV.out hk9.size)
        have KE := Lib.hid (HAW.out vz HVZ.out)
        clear m0 m1 m2 m3 m4 m5 m6 m7 m8 m9 ma mb mc hk6 hk7 hk8 hk9 hB6 hB7 hB8 hB9 hown7 hrow2 hl2 hv2 hj KO2 KW2 KJ2 HMT KC2
        go_wp2_with fail
        refine KE.out.mono ?_
        rintro e ve ⟨rfl, hBe⟩
        go_wp2
        go_ret
        exact ⟨rfl, by rw [HBS.out]; exact HVZ.out.trans (hBe.mono HSZ.out)⟩
theorem of_laid {W : World} (h : laidMetH Tryz.prog Rows.modelBlindRow.laid W) : TabP W := by
  rw [MakeChecks.laidMetH_plain _ _ _ (by kernel_rfl)] at h
  exact tab_of_third h
end Go.Proofs.YtcmdmnnkbliggaaGreatDoor
