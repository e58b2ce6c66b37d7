/-
  The law ValidMore holds for every input: a valid policy with one rule more, of a name that the table has not, or of a rule that is there already, is told by that rule's number. No condition.
-/
import Derived.Test.YtcmdmnnkbliggaaGreatDoorRows
import Derived.Test.YtcmdmnnkbliggaaGreatDoorCards
import Derived.Test.YtcmdmnnkbliggaaGreatDoorTie
import Derived.Test.YtcmdmnnkbliggaaGreatDoorCsk
import Derived.Test.YtcmdmnnkbliggaaGreatDoorCnk
import Derived.Test.YtcmdmnnkbliggaaGreatDoorMy
import Derived.Test.YtcmdmnnkbliggaaGreatDoorMv
import Derived.Test.YtcmdmnnkbliggaaGreatDoorMk
import Derived.Test.YtcmdmnnkbliggaaGreatDoorRik
import Derived.Lay
import Derived.MakeChecks
import Derived.WalkKit
import Derived.ProofKit
import Derived.OpenShut
import Derived.ShutString
import Derived.ChangeOld
import Derived.Below
import Derived.Lib.SmallJoins
import Derived.SevenTiedAt
import Derived.LaidMore
import Derived.Stop.Joined
import Derived.RegionTactic
import Derived.Deep.Cut
import Derived.Deep.CutRange
import Derived.Deep.RegionHeld3
namespace Go.Proofs.YtcmdmnnkbliggaaGreatDoor
open Go.RowKit Go.Shelf
set_option linter.unusedVariables false

theorem small_of15 {R : Nat → RL} {n : Nat} {l : List RL} (h : l.map RL.val = (List.range n).map (fun i => (R i).val)) (hR : ∀ i, i < n → (R i).n ≤ 12) : ∀ e ∈ l, e.n ≤ 100000 := fun e he => by
  have h1 : e.val ∈ (List.range n).map (fun i => (R i).val) := by rw [← h]; exact List.mem_map.2 ⟨e, he, rfl⟩
  obtain ⟨i, hi, hv⟩ := List.mem_map.1 h1
  have h2 := hR i (List.mem_range.1 hi)
  have h3 : e.val.L.length = e.n := by simp [RL.val]
  have h4 : (R i).val.L.length = (R i).n := by simp [RL.val]
  rw [hv] at h4
  omega
abbrev znS : ByteArray := ⟨#[122, 122, 122, 122, 95, 110, 111, 110, 101]⟩
theorem zn_nm : NmP znS := by
  refine ⟨by decide, by decide, fun c hc => ?_, by rw [Lib.toList_data]; decide, by rw [Lib.toList_data]; decide, fun b hb => ?_⟩
  · have : c = 122 := by injection hc with h; exact h.symm
    subst this; decide
  · have : b = 122 ∨ b = 95 ∨ b = 110 ∨ b = 111 ∨ b = 110 ∨ b = 101 := by simpa using hb
    rcases this with rfl | rfl | rfl | rfl | rfl | rfl <;> first | exact .inl (by decide) | exact .inr (.inr (by decide))
theorem zn_may {k u : Int} (h : actB k u = true) : mayV ⟨znS, k, u, []⟩ = true := by
  unfold mayV
  rw [show nameB (⟨znS, k, u, []⟩ : RV).nm = true from rd_name zn_nm, show actB (⟨znS, k, u, []⟩ : RV).k (⟨znS, k, u, []⟩ : RV).u = true from h]
  rfl
theorem right_snoc {k u : Int} {L : List RV} {r : RV} (h : rightV k u L = true) (hl : L.length ≤ 400) (hr : mayV r = true) : rightV k u (L ++ [r]) = true := by
  unfold rightV at h ⊢
  simp only [Bool.and_eq_true, decide_eq_true_eq, List.all_eq_true] at h ⊢
  refine ⟨h.1, by rw [List.length_append]; simp; omega, fun v hv => ?_⟩
  rcases List.mem_append.1 hv with hv | hv
  · exact h.2.2 v hv
  · rw [List.mem_singleton] at hv; rw [hv]; exact hr
theorem vc_good {T : Nat → SR} {tn : Nat} : ∀ (L : List RV) {S : List Value} {i a : Nat}, VC T tn S i L a 0 → ∀ v ∈ L, (List.range tn).any (isN T v.nm) = true ∧ v.L.any besF = false
  | [], _, _, _, _ => fun v hv => by cases hv
  | r :: L, S, i, a, h => fun v hv => by
    cases h with
    | go _ _ _ _ _ _ h1 h2 h3 h4 =>
      rcases List.mem_cons.1 hv with rfl | hv
      · exact ⟨h1, h2⟩
      · exact vc_good L h4 v hv
theorem vc_snoc {T : Nat → SR} {tn : Nat} {r : RV} : ∀ (L : List RV) {S : List Value} {i a a' f' : Nat}, VC T tn S i L a 0 → VC T tn S i (L ++ [r]) a' f' → ∃ S', VC T tn S' (i + L.length) [r] a' f' ∧ (∀ v ∈ L, reqK v ∈ S') ∧ ∀ s ∈ S, s ∈ S'
  | [], S, i, a, a', f', _, h' => ⟨S, h', (fun v hv => by cases hv), fun s h => h⟩
  | v :: L, S, i, a, a', f', h, h' => by
    cases h with
    | go _ _ _ _ _ _ h1 h2 h3 h4 =>
      have hgo : VC T tn (S ++ [reqK v]) (i + 1) (L ++ [r]) a' f' := by
        cases h' with
        | name _ _ _ _ g => rw [h1] at g; cases g
        | bes _ _ _ _ _ g => rw [h2] at g; cases g
        | twice _ _ _ _ _ _ g => rcases g with g | g; exact absurd g h3.1; exact absurd g h3.2
        | go _ _ _ _ _ _ _ _ _ g => exact g
      obtain ⟨S', h5, h6, h7⟩ := vc_snoc L h4 hgo
      refine ⟨S', ?_, fun s hs => ?_, fun s hs => h7 s (List.mem_append.2 (.inl hs))⟩
      · rw [List.length_cons, show i + (L.length + 1) = i + 1 + L.length by omega]; exact h5
      · rcases List.mem_cons.1 hs with rfl | hs
        · exact h7 _ (List.mem_append.2 (.inr (List.mem_singleton.2 rfl)))
        · exact h6 s hs
theorem vc_name {T : Nat → SR} {tn : Nat} {S : List Value} {i a f : Nat} {r : RV} (h : VC T tn S i [r] a f) (hn : (List.range tn).any (isN T r.nm) = false) : a = i ∧ f = 14 := by
  cases h with
  | name => exact ⟨rfl, rfl⟩
  | bes _ _ _ _ g => rw [hn] at g; cases g
  | twice _ _ _ _ g => rw [hn] at g; cases g
  | go _ _ _ _ _ _ g => rw [hn] at g; cases g
theorem vc_twice {T : Nat → SR} {tn : Nat} {S : List Value} {i a f : Nat} {r : RV} (h : VC T tn S i [r] a f) (hn : (List.range tn).any (isN T r.nm) = true) (hb : r.L.any besF = false) (hm : reqK r ∈ S) : a = i ∧ f = 15 := by
  cases h with
  | name _ _ _ _ g => rw [hn] at g; cases g
  | bes _ _ _ _ _ g => rw [hb] at g; cases g
  | twice => exact ⟨rfl, rfl⟩
  | go _ _ _ _ _ _ _ _ g => exact absurd hm g.2
/-- A valid policy with one rule more. -/
theorem chk_snoc {k u : Int} {L : List RV} {T : Nat → SR} {tn a a' f' : Nat} {r : RV} (h : ChkP k u L T tn a 0) (hl : L.length ≤ 400) (hr : rightV k u L = true → mayV r = true) (h' : ChkP k u (L ++ [r]) T tn a' f') : ((List.range tn).any (isN T r.nm) = false → a' = L.length ∧ f' = 14) ∧ (r ∈ L → a' = L.length ∧ f' = 15) := by
  obtain ⟨hrt, hrp, hvc⟩ : rightV k u L = true ∧ RightP T tn 0 0 ∧ VC T tn [] 0 L a 0 := by
    rcases h with ⟨_, _, h⟩ | ⟨h1, ⟨_, _, h⟩ | ⟨h2, h3⟩⟩
    · cases h
    · cases h
    · exact ⟨h1, h2, h3⟩
  have hvc' : VC T tn [] 0 (L ++ [r]) a' f' := by
    rcases h' with ⟨g, _⟩ | ⟨_, ⟨⟨p, q, g, g2⟩, _⟩ | ⟨_, g⟩⟩
    · rw [right_snoc hrt hl (hr hrt)] at g; cases g
    · exact absurd (RightP.uniq hrp g).2.symm g2
    · exact g
  obtain ⟨S', h5, h6, _⟩ := vc_snoc L hvc hvc'
  rw [Nat.zero_add] at h5
  refine ⟨fun hn => vc_name h5 hn, fun hm => ?_⟩
  have hg := vc_good L hvc r hm
  exact vc_twice h5 hg.1 hg.2 (h6 r hm)
theorem right_actB {k u : Int} {L : List RV} (h : rightV k u L = true) : actB k u = true := by
  unfold rightV at h
  simp only [Bool.and_eq_true] at h
  exact h.1
theorem right_mem {k u : Int} {L : List RV} {r : RV} (h : rightV k u L = true) (hm : r ∈ L) : mayV r = true := by
  unfold rightV at h
  simp only [Bool.and_eq_true, decide_eq_true_eq, List.all_eq_true] at h
  exact h.2.2 r hm
theorem own_lt {w : World} {base G : Nat} {l : List RL} {c : Nat} (h : RowL w base (some ⟨G, 0, none⟩) l c) : G < w.heap.size := by
  rcases h.1.2 with ⟨e, _⟩ | ⟨g, cap, cur, e, _, hr, _⟩
  · injection e with e1; cases e1
  · injection e with e1 e2 e3
    injection e1 with e1
    injection e1 with e1 e4 e5
    rw [e1]; exact (Array.getElem?_eq_some_iff.1 hr).1
theorem rowc_grown {w w' : World} {row : Option Nat} {b : Nat} {cs : Array Value} {T : TypeId} (hg : w.grownBy w' row) (h : RowC w b cs T) (hne : some b ≠ row) : RowC w' b cs T := (hg.block b h.lt hne).trans h
theorem made_row (w : World) (base k : Nat) (hk : k = w.heap.size) (hb : base ≤ w.heap.size) : RowL (w.alloc (.cells #[] 57)) base (some ⟨k, 0, none⟩) [] 0 := by
  subst hk
  exact ⟨World.ownsRow_made w #[] 0 hb (by simp [maxLen]) rfl, fun _ h => by cases h⟩
theorem any_none {T : Nat → SR} {tn : Nat} {s : ByteArray} (h : ∀ j, j < tn → (T j).nm ≠ s) : (List.range tn).any (isN T s) = false := by
  rw [Bool.eq_false_iff]
  intro hc
  obtain ⟨j, hj, he⟩ := List.any_eq_true.1 hc
  exact h j (List.mem_range.1 hj) (ByteArray.ext (Array.toList_inj.1 (by rw [← Lib.toList_data, ← Lib.toList_data]; simpa using he)))
set_option maxRecDepth 100000 in
set_option maxHeartbeats 64000000 in
theorem walk_ValidMore {w0 : World} (k u : Int) (x : Bool) (A : Option Addr) (n c : Nat) (R : Nat → RL) (wk : (Lit.int .i64 k).wf = true) (wu : (Lit.int .i64 u).wf = true) (hnc : n ≤ c) (hcm : c ≤ maxLen) (hR : RlA w0 A n R) (TA : Option Addr) (tn tcap : Nat) (T : Nat → SR) (hT : TbA w0 TA tn T) (a' : Int) (ha : (Lit.int .u8 a').wf = true) (_ : True) :
    Calls Tryz.prog 8 #[.agg (polA k u x A n c), .slice TA tn tcap, .int .u8 a'] w0 fun e w' => e = .returned (.bool true) ∧ Below w0.heap.size w0 w' := by
  simp [Lit.wf, IntKind.min, IntKind.max, IntKind.signed, IntKind.bits] at ha
  obtain ⟨at0, rfl⟩ := Int.eq_ofNat_of_zero_le ha.1
  obtain ⟨B, hBs⟩ : ∃ B, w0.heap.size = B := ⟨_, rfl⟩
  obtain ⟨W0, hW0⟩ : ∃ W, w0.alloc (.cells (polA k u x A n c) 39) = W := ⟨_, rfl⟩
  have hB0 : Below B w0 W0 := by rw [← hW0, ← hBs]; exact (Below.refl _ _).alloc (Nat.le_refl _) _
  have hP0 : RowC W0 B (polA k u x A n c) 39 := by rw [← hW0, ← hBs]; exact RowC.new _ _ _ _ rfl
  have hR0 := hR.below hB0 (Nat.le_of_eq hBs)
  have hT0 := hT.below hB0 (Nat.le_of_eq hBs)
  have hS0 : B ≤ W0.heap.size := Nat.le_of_lt hP0.lt
  have HFX : Hid (∀ W, Below W0.heap.size W0 W → RowC W B (polA k u x A n c) 39 ∧ RlA W A n R ∧ TbA W TA tn T ∧ Below B w0 W) := Lib.hid fun W hW => ⟨hP0.below hW hP0.lt, hR0.below hW (Nat.le_refl _), hT0.below hW (Nat.le_refl _), hB0.trans (hW.mono hS0)⟩
  have HL := Lib.hid (light15_any k u x A n c R TA tn tcap T W0 hnc hcm hR0 hT0)
  have HW := Lib.hid hW0
  have HBS := Lib.hid hBs
  have HWF := Lib.hid (And.intro wk wu)
  have HAW := Lib.hid fun W => awake15_any W
  have p0 := hP0.cell 0 (.int .i64 k) rfl
  have p1 := hP0.cell 1 (.int .i64 u) rfl
  have p2 := hP0.cell 2 (.bool x) rfl
  have p3 := hP0.cell 3 (.slice A n c) rfl
  clear hB0 hP0 hR hR0 hT hT0 wk wu hW0 hS0
  go_enter Tryz.func8, Tryz.ntmps8
  go_upto_region 1 with fail
  rw [HW.out]
  (try rw [hBs])
  clear hBs
  go_wp2_with fail
  refine HL.out.mono ?_
  rintro e w1 ⟨⟨bl, rfl, hlight⟩, hB1⟩
  have HB1 := Lib.hid hB1
  have hq := (HFX.out w1 HB1.out).1
  have q0 := hq.cell 0 (.int .i64 k) rfl
  have q1 := hq.cell 1 (.int .i64 u) rfl
  have q2 := hq.cell 2 (.bool x) rfl
  have q3 := hq.cell 3 (.slice A n c) rfl
  clear hB1 p0 p1 p2 p3 HL hq
  cases bl with
  | false =>
    go_wp2
    go_ret
    exact ⟨rfl, by rw [HBS.out]; exact (HFX.out _ HB1.out).2.2.2⟩
  | true =>
  have HLP := Lib.hid (hlight rfl)
  have hn40 := HLP.out.1.1
  have ht40 := HLP.out.2.1
  clear hlight
  by_cases h39 : 39 < n
  · have g1 : (n : Int) > 39 := by omega
    go_wp2
    go_ret
    exact ⟨rfl, by rw [HBS.out]; exact (HFX.out _ HB1.out).2.2.2⟩
  have g1 : ¬ (n : Int) > 39 := by omega
  have KO := Lib.hid (of15_any k u x A n c R w1 (by omega) (fun i hi => (HLP.out.1.2 i hi).2) (HFX.out w1 HB1.out).2.1)
  go_wp2_with fail
  refine KO.out.mono ?_
  rintro e w2 ⟨A2, c2, l2, rfl, hl2, hrow2, hv2, hB2⟩
  have HB2 := Lib.hid (bTr HB1.out hB2)
  have HO2 := Lib.hid hrow2.rl
  have HLE := Lib.hid hrow2.le
  have HNN := Lib.hid (show A2 = none → c2 = 0 from fun e => by
    have h9 := hrow2.1.2
    rw [e] at h9
    rcases h9 with ⟨h9, _⟩ | ⟨_, _, _, h9, _⟩
    · injection h9
    · injection h9 with h9; cases h9)
  have HL2 := Lib.hid hl2
  have HV2 := Lib.hid hv2
  have KR := Lib.hid (rows15_any TA tn tcap T w2 (by omega) (HFX.out w2 HB2.out).2.2.1)
  clear q0 q1 q2 q3 KO hrow2 hv2 hl2 hB2
  go_wp2_with fail
  refine KR.out.mono ?_
  rintro e w3 ⟨A3, c3, rfl, hown3, hB3⟩
  have HB3 := Lib.hid (bTr HB2.out hB3)
  have HO3 := Lib.hid (HO2.out.below hB3 (Nat.le_refl _))
  have HT3 := Lib.hid (own_tbl hown3)
  obtain ⟨bx, hbx⟩ : ∃ bx, w3.heap.size = bx := ⟨_, rfl⟩
  obtain ⟨W4, hW4⟩ : ∃ W, w3.alloc (.cells (polA k u x A2 n c2) 26) = W := ⟨_, rfl⟩
  have hb4 : Below w3.heap.size w3 W4 := by rw [← hW4]; exact (Below.refl _ _).alloc (Nat.le_refl _) _
  have hx4 : RowC W4 bx (polA k u x A2 n c2) 26 := by rw [← hW4, ← hbx]; exact RowC.new _ _ _ _ rfl
  have HX4 := Lib.hid hx4
  have HB4 := Lib.hid (bTr HB3.out hb4)
  have HRX : Hid (∀ W, Below W4.heap.size W4 W → RowC W bx (polA k u x A2 n c2) 26 ∧ RlL W A2 l2 ∧ TbA W A3 tn T ∧ TbA W TA tn T ∧ Below B w0 W) := Lib.hid fun W hW => ⟨hx4.below hW hx4.lt, (HO3.out.below hb4 (Nat.le_refl _)).below hW (Nat.le_refl _), (HT3.out.below hb4 (Nat.le_refl _)).below hW (Nat.le_refl _), (HFX.out W (bTr (bTr HB3.out hb4) hW)).2.2.1, (HFX.out W (bTr (bTr HB3.out hb4) hW)).2.2.2⟩
  have HS2 := Lib.hid (small_of15 HV2.out fun i hi => (HLP.out.1.2 i hi).2)
  have x0 := hx4.cell 0 (.int .i64 k) rfl
  have x1 := hx4.cell 1 (.int .i64 u) rfl
  have x2 := hx4.cell 2 (.bool x) rfl
  have x3 := hx4.cell 3 (.slice A2 n c2) rfl
  have HW4 := Lib.hid hW4
  have HBX := Lib.hid hbx
  have hch := check_any k u x A2 l2 c2 A3 tn c3 T W4 (HRX.out W4 (Below.refl _ _)).2.1 (by rw [HL2.out]; omega) HS2.out (by omega) (HRX.out W4 (Below.refl _ _)).2.2.1
  rw [HL2.out] at hch
  have KC := Lib.hid hch
  clear KR hown3 hB3 hch hW4 hbx hb4 hx4 HX4 HT3 HO3 HO2
  go_upto_region 4 with fail
  (try rw [HW4.out])
  (try rw [HBX.out])
  go_wp2_with fail
  refine KC.out.mono ?_
  rintro e V ⟨a, f, rfl, hca, hB5⟩
  have HV : Hid (Below W4.heap.size W4 V) := Lib.hid hB5
  have HCA := Lib.hid hca
  clear x0 x1 x2 x3 KC hB5 hca
  by_cases hf0 : f = 0
  case neg =>
    have hfz : ((f : Int) != 0) = true := by simpa using hf0
    have KW := Lib.hid (HAW.out V)
    clear hf0
    go_wp2_with fail
    refine KW.out.mono ?_
    rintro e w6 ⟨rfl, hB6⟩
    go_wp2
    go_ret
    exact ⟨rfl, by rw [HBS.out]; exact (HRX.out _ (bTr HV.out hB6)).2.2.2.2⟩
  subst hf0
  have HS : Hid (∀ W, Below V.heap.size V W → W.cell? ⟨bx, 0, none⟩ = some (.int .i64 k) ∧ W.cell? ⟨bx, 1, none⟩ = some (.int .i64 u) ∧ W.cell? ⟨bx, 2, none⟩ = some (.bool x) ∧ W.cell? ⟨bx, 3, none⟩ = some (.slice A2 n c2)) := Lib.hid fun W hW => by
    obtain ⟨h1, _⟩ := HRX.out W (bTr HV.out hW)
    exact ⟨h1.cell 0 _ rfl, h1.cell 1 _ rfl, h1.cell 2 _ rfl, h1.cell 3 _ rfl⟩
  obtain ⟨x0, x1, x2, x3⟩ := HS.out V (Below.refl _ _)
  obtain ⟨VS, hVS0⟩ : ∃ VS, V.heap.size = VS := ⟨_, rfl⟩
  have hVS := Lib.hid hVS0
  have HRL : Hid (∀ W, Below V.heap.size V W → RlL W A2 l2) := Lib.hid fun W hW => (HRX.out W (bTr HV.out hW)).2.1
  have HRN : Hid (∀ W, RuT W (⟨znS, k, u, none, 0, 0, fun _ => default⟩ : RL)) := Lib.hid fun W => ⟨by simp [maxLen, ByteArray.size], HWF.out.1, HWF.out.2, Nat.le_refl _, by simp [maxLen], .inl rfl⟩
  clear hVS0
  go_upto_region 8 with fail
  clear x0 x1 x2 x3
  go_cut [12] from 45 to 54 (fun s12 wx => ∃ g8 c8, s12 = .slice (some ⟨g8, 0, none⟩) (n + 1) c8 ∧ Hid (RowL wx VS (some ⟨g8, 0, none⟩) (l2 ++ [(⟨znS, k, u, none, 0, 0, fun _ => default⟩ : RL)]) c8 ∧ Below V.heap.size V wx))
  case first =>
    refine wp_region_held_drew (S := fun w' => w'.cell? ⟨bx, 0, none⟩ = some (.int .i64 k) ∧ w'.cell? ⟨bx, 1, none⟩ = some (.int .i64 u) ∧ w'.cell? ⟨bx, 2, none⟩ = some (.bool x) ∧ w'.cell? ⟨bx, 3, none⟩ = some (.slice A2 n c2)) (by kernel_rfl) (HS.out _ (Below.refl _ V).drew) (fun hHeld => ?_)
    have hbc : Below V.heap.size V V.drew := (Below.refl _ V).drew
    generalize V.drew = Wv0 at *
    refine wpAnyH_take (i := 1) (oi := ({ dst := some 46, op := Op.fieldAddr 26 (Operand.tmp 7) 2, type := 0, pos := "outright.go:72", after := #[], guard := none } : Oper)) (v := ?vz1) rfl (by kernel_rfl) (by kernel_rfl) (by kernel_rfl) (fun _ _ _ h => h) (Or.inl ⟨by rfl, ?hz1⟩) hHeld ?rz1
    case hz1 =>
      intro w hSw
      obtain ⟨s0, s1, s2, s3⟩ := hSw
      go_simp
      all_goals with_reducible rfl
    try simp only [Act.put, List.setIfInBounds_toArray, List.set_cons_zero, List.set_cons_succ]
    refine wpAnyH_take (i := 2) (oi := ({ dst := some 47, op := Op.load 24 (Operand.tmp 46), type := 24, pos := "outright.go:72", after := #[{ on := 1, ground := Ground.data }], guard := none } : Oper)) (v := ?vz2) rfl (by kernel_rfl) (by kernel_rfl) (by kernel_rfl) (fun _ _ _ h => h) (Or.inl ⟨by rfl, ?hz2⟩) hHeld ?rz2
    case hz2 =>
      intro w hSw
      obtain ⟨s0, s1, s2, s3⟩ := hSw
      go_simp
      all_goals with_reducible rfl
    try simp only [Act.put, List.setIfInBounds_toArray, List.set_cons_zero, List.set_cons_succ]
    refine wpAnyH_take (i := 4) (oi := ({ dst := some 49, op := Op.fieldAddr 26 (Operand.tmp 7) 0, type := 0, pos := "outright.go:72", after := #[], guard := none } : Oper)) (v := ?vz4) rfl (by kernel_rfl) (by kernel_rfl) (by kernel_rfl) (fun _ _ _ h => h) (Or.inl ⟨by rfl, ?hz4⟩) hHeld ?rz4
    case hz4 =>
      intro w hSw
      obtain ⟨s0, s1, s2, s3⟩ := hSw
      go_simp
      all_goals with_reducible rfl
    try simp only [Act.put, List.setIfInBounds_toArray, List.set_cons_zero, List.set_cons_succ]
    refine wpAnyH_take (i := 5) (oi := ({ dst := some 50, op := Op.load 23 (Operand.tmp 49), type := 23, pos := "outright.go:72", after := #[{ on := 4, ground := Ground.data }], guard := none } : Oper)) (v := ?vz5) rfl (by kernel_rfl) (by kernel_rfl) (by kernel_rfl) (fun _ _ _ h => h) (Or.inl ⟨by rfl, ?hz5⟩) hHeld ?rz5
    case hz5 =>
      intro w hSw
      obtain ⟨s0, s1, s2, s3⟩ := hSw
      go_simp
      all_goals with_reducible rfl
    try simp only [Act.put, List.setIfInBounds_toArray, List.set_cons_zero, List.set_cons_succ]
    refine wpAnyH_take (i := 6) (oi := ({ dst := some 51, op := Op.build 57 #[(0, Operand.const (Value.string { data := #[122, 122, 122, 122, 95, 110, 111, 110, 101] })), (1, Operand.tmp 50)], type := 57, pos := "outright.go:72", after := #[{ on := 5, ground := Ground.data }], guard := none } : Oper)) (v := ?vz6) rfl (by kernel_rfl) (by kernel_rfl) (by kernel_rfl) (fun _ _ _ h => h) (Or.inl ⟨by rfl, ?hz6⟩) hHeld ?rz6
    case hz6 =>
      intro w hSw
      obtain ⟨s0, s1, s2, s3⟩ := hSw
      go_simp
      all_goals with_reducible rfl
    try simp only [Act.put, List.setIfInBounds_toArray, List.set_cons_zero, List.set_cons_succ]
    refine wpAnyH_ready (rs := [0, 7]) (by kernel_rfl) (by simp) ?_
    refine (AllReadyH.cons (o := ({ dst := some 45, op := Op.buildSlice 24 0 #[], type := 24, pos := "outright.go:72", after := #[], guard := none } : Oper)) rfl (fun K hK => ?_) (AllReadyH.cons (o := ({ dst := some 52, op := Op.buildSlice 24 1 #[(0, Operand.tmp 51)], type := 24, pos := "outright.go:72", after := #[{ on := 6, ground := Ground.data }], guard := none } : Oper)) rfl (fun K hK => ?_) AllReadyH.nil))
    · go_simp
      obtain ⟨G0, hG⟩ : ∃ X, Wv0.heap.size = X := ⟨_, rfl⟩
      obtain ⟨Wv1, hWv1⟩ : ∃ W, Wv0.alloc (.cells #[] 57) = W := ⟨_, rfl⟩
      have hst : Below Wv0.heap.size Wv0 Wv1 := by rw [← hWv1]; exact (Below.refl _ _).alloc (Nat.le_refl _) _
      have nw : RowL Wv1 VS (some ⟨G0, 0, none⟩) [] 0 := by rw [← hWv1]; exact made_row Wv0 VS G0 hG.symm (by rw [← hVS.out]; exact hbc.size)
      (try rw [hG])
      (try rw [hWv1])
      clear hG hWv1
      replace hbc := bTr hbc hst
      clear hst
      have m0 := nw
      clear nw
      refine hK.out _ _ ?kt10 (fun hHeld2 => ?_)
      case kt10 => exact HS.out Wv1 hbc
      clear hK K
      try simp only [Act.put, List.setIfInBounds_toArray, List.set_cons_zero, List.set_cons_succ]
      replace hHeld := hHeld2
      clear hHeld2
      refine wpAnyH_ready (rs := [3, 7]) (by kernel_rfl) (by simp) ?_
      refine (AllReadyH.cons (o := ({ dst := some 48, op := Op.call { callee := Callee.builtin Builtin.append, args := #[Operand.tmp 45, Operand.tmp 47], argTypes := #[24, 24] }, type := 24, pos := "outright.go:72", after := #[{ on := 0, ground := Ground.data }, { on := 2, ground := Ground.data }], guard := none } : Oper)) rfl (fun K hK => ?_) (AllReadyH.cons (o := ({ dst := some 52, op := Op.buildSlice 24 1 #[(0, Operand.tmp 51)], type := 24, pos := "outright.go:72", after := #[{ on := 6, ground := Ground.data }], guard := none } : Oper)) rfl (fun K hK => ?_) AllReadyH.nil))
      · refine step_rules (by rfl) _ _ (by rfl) (base := VS) (l := []) (l5 := l2) (by rfl) m0 (by rw [HL2.out]; rfl) (HRL.out _ hbc) (by rw [HL2.out]; simp; omega) HLE.out.1 HNN.out (by rw [← hVS.out]; exact hbc.size) ?_
        rintro A7 c7 Wv2 hrow hgr hkc hst
        have hst : Below V.heap.size Wv1 Wv2 := by rw [hVS.out]; exact hst
        replace hbc := hbc.trans hst
        clear hst hgr hkc m0
        have m7 := hrow
        clear hrow
        refine hK.out _ _ ?kt23 (fun hHeld2 => ?_)
        case kt23 => exact HS.out Wv2 hbc
        clear hK K
        try simp only [Act.put, List.setIfInBounds_toArray, List.set_cons_zero, List.set_cons_succ]
        replace hHeld := hHeld2
        clear hHeld2
        refine wpAnyH_ready (rs := [7]) (by kernel_rfl) (by simp) ?_
        refine (AllReadyH.cons (o := ({ dst := some 52, op := Op.buildSlice 24 1 #[(0, Operand.tmp 51)], type := 24, pos := "outright.go:72", after := #[{ on := 6, ground := Ground.data }], guard := none } : Oper)) rfl (fun K hK => ?_) AllReadyH.nil)
        go_simp
        obtain ⟨G1, hG⟩ : ∃ X, Wv2.heap.size = X := ⟨_, rfl⟩
        obtain ⟨Wv3, hWv3⟩ : ∃ W, Wv2.alloc (.cells #[.string znS, .int .i64 k, .int .i64 u, .slice none 0 0] 57) = W := ⟨_, rfl⟩
        have hst : Below Wv2.heap.size Wv2 Wv3 := by rw [← hWv3]; exact (Below.refl _ _).alloc (Nat.le_refl _) _
        have nw : RowC Wv3 G1 #[.string znS, .int .i64 k, .int .i64 u, .slice none 0 0] 57 := by rw [← hWv3, ← hG]; exact RowC.new _ _ _ _ rfl
        (try rw [hG])
        (try rw [hWv3])
        clear hG hWv3
        replace hbc := bTr hbc hst
        replace m7 := m7.below hst (Nat.le_refl _)
        clear hst
        have m1 := nw
        clear nw
        refine hK.out _ _ ?kt37 (fun hHeld2 => ?_)
        case kt37 => exact HS.out Wv3 hbc
        clear hK K
        try simp only [Act.put, List.setIfInBounds_toArray, List.set_cons_zero, List.set_cons_succ]
        replace hHeld := hHeld2
        clear hHeld2
        refine wpAnyH_ready (rs := [8]) (by kernel_rfl) (by simp) ?_
        refine (AllReadyH.cons (o := ({ dst := some 53, op := Op.call { callee := Callee.builtin Builtin.append, args := #[Operand.tmp 48, Operand.tmp 52], argTypes := #[24, 24] }, type := 24, pos := "outright.go:72", after := #[{ on := 3, ground := Ground.data }, { on := 7, ground := Ground.data }, { on := 3, ground := Ground.chain }], guard := none } : Oper)) rfl (fun K hK => ?_) AllReadyH.nil)
        refine step_rule (by rfl) _ _ (by rfl) (base := VS) (l := l2) (by first | rfl | (rw [HL2.out]; rfl)) m7 (r := (⟨znS, k, u, none, 0, 0, fun _ => default⟩ : RL)) (by rfl) m1 (HRN.out _) (by rw [HL2.out]; omega) (by rw [← hVS.out]; exact hbc.size) ?_
        rintro g8 c8 Wv4 hrow hgr _ hkc hst
        have hst : Below V.heap.size Wv3 Wv4 := by rw [hVS.out]; exact hst
        replace hbc := hbc.trans hst
        clear hst hgr hkc m1 m7
        refine hK.out _ _ ?ka48 (fun hHeld2 => ?_)
        case ka48 => exact HS.out Wv4 hbc
        clear hK K
        try simp only [Act.put, List.setIfInBounds_toArray, List.set_cons_zero, List.set_cons_succ]
        replace hHeld := hHeld2
        clear hHeld2
        refine wpAnyH_take (i := 9) (oi := ({ dst := some 12, op := Op.assign (Operand.tmp 53), type := 24, pos := "outright.go:72", after := #[{ on := 8, ground := Ground.data }, { on := 8, ground := Ground.chain }, { on := 0, ground := Ground.phase }, { on := 1, ground := Ground.phase }, { on := 2, ground := Ground.phase }, { on := 3, ground := Ground.phase }, { on := 4, ground := Ground.phase }, { on := 5, ground := Ground.phase }, { on := 6, ground := Ground.phase }, { on := 7, ground := Ground.phase }, { on := 8, ground := Ground.phase }], guard := none } : Oper)) (v := ?ve49) rfl (by kernel_rfl) (by kernel_rfl) (by kernel_rfl) (fun _ _ _ h => h) (Or.inl ⟨by rfl, ?he49⟩) hHeld ?re49
        case he49 =>
          intro w hSw
          obtain ⟨s0, s1, s2, s3⟩ := hSw
          go_simp
          all_goals with_reducible rfl
        try simp only [Act.put, List.setIfInBounds_toArray, List.set_cons_zero, List.set_cons_succ]
        refine wpAnyH_done (by kernel_rfl) ?_ _
        go_wp2_with fail
        go_meet
        exact ⟨g8, c8, by rw [HL2.out], Lib.hid ⟨hrow, hbc⟩⟩
      · go_simp
        obtain ⟨G1, hG⟩ : ∃ X, Wv1.heap.size = X := ⟨_, rfl⟩
        obtain ⟨Wv2, hWv2⟩ : ∃ W, Wv1.alloc (.cells #[.string znS, .int .i64 k, .int .i64 u, .slice none 0 0] 57) = W := ⟨_, rfl⟩
        have hst : Below Wv1.heap.size Wv1 Wv2 := by rw [← hWv2]; exact (Below.refl _ _).alloc (Nat.le_refl _) _
        have nw : RowC Wv2 G1 #[.string znS, .int .i64 k, .int .i64 u, .slice none 0 0] 57 := by rw [← hWv2, ← hG]; exact RowC.new _ _ _ _ rfl
        have hne : Hid (G1 ≠ G0) := Lib.hid (by have := own_lt m0; omega)
        (try rw [hG])
        (try rw [hWv2])
        clear hG hWv2
        replace hbc := bTr hbc hst
        replace m0 := m0.below hst (Nat.le_refl _)
        clear hst
        have m1 := nw
        clear nw
        refine hK.out _ _ ?kt57 (fun hHeld2 => ?_)
        case kt57 => exact HS.out Wv2 hbc
        clear hK K
        try simp only [Act.put, List.setIfInBounds_toArray, List.set_cons_zero, List.set_cons_succ]
        replace hHeld := hHeld2
        clear hHeld2
        refine wpAnyH_ready (rs := [3]) (by kernel_rfl) (by simp) ?_
        refine (AllReadyH.cons (o := ({ dst := some 48, op := Op.call { callee := Callee.builtin Builtin.append, args := #[Operand.tmp 45, Operand.tmp 47], argTypes := #[24, 24] }, type := 24, pos := "outright.go:72", after := #[{ on := 0, ground := Ground.data }, { on := 2, ground := Ground.data }], guard := none } : Oper)) rfl (fun K hK => ?_) AllReadyH.nil)
        refine step_rules (by rfl) _ _ (by rfl) (base := VS) (l := []) (l5 := l2) (by rfl) m0 (by rw [HL2.out]; rfl) (HRL.out _ hbc) (by rw [HL2.out]; simp; omega) HLE.out.1 HNN.out (by rw [← hVS.out]; exact hbc.size) ?_
        rintro A7 c7 Wv3 hrow hgr hkc hst
        have hst : Below V.heap.size Wv2 Wv3 := by rw [hVS.out]; exact hst
        replace m1 := rowc_grown hgr m1 (by simpa [Value.ownBlock] using hne.out)
        replace hbc := hbc.trans hst
        clear hst hgr hkc m0
        have m7 := hrow
        clear hrow
        refine hK.out _ _ ?kt63 (fun hHeld2 => ?_)
        case kt63 => exact HS.out Wv3 hbc
        clear hK K
        try simp only [Act.put, List.setIfInBounds_toArray, List.set_cons_zero, List.set_cons_succ]
        replace hHeld := hHeld2
        clear hHeld2
        refine wpAnyH_ready (rs := [8]) (by kernel_rfl) (by simp) ?_
        refine (AllReadyH.cons (o := ({ dst := some 53, op := Op.call { callee := Callee.builtin Builtin.append, args := #[Operand.tmp 48, Operand.tmp 52], argTypes := #[24, 24] }, type := 24, pos := "outright.go:72", after := #[{ on := 3, ground := Ground.data }, { on := 7, ground := Ground.data }, { on := 3, ground := Ground.chain }], guard := none } : Oper)) rfl (fun K hK => ?_) AllReadyH.nil)
        refine step_rule (by rfl) _ _ (by rfl) (base := VS) (l := l2) (by first | rfl | (rw [HL2.out]; rfl)) m7 (r := (⟨znS, k, u, none, 0, 0, fun _ => default⟩ : RL)) (by rfl) m1 (HRN.out _) (by rw [HL2.out]; omega) (by rw [← hVS.out]; exact hbc.size) ?_
        rintro g8 c8 Wv4 hrow hgr _ hkc hst
        have hst : Below V.heap.size Wv3 Wv4 := by rw [hVS.out]; exact hst
        replace hbc := hbc.trans hst
        clear hst hgr hkc m1 m7
        refine hK.out _ _ ?ka78 (fun hHeld2 => ?_)
        case ka78 => exact HS.out Wv4 hbc
        clear hK K
        try simp only [Act.put, List.setIfInBounds_toArray, List.set_cons_zero, List.set_cons_succ]
        replace hHeld := hHeld2
        clear hHeld2
        refine wpAnyH_take (i := 9) (oi := ({ dst := some 12, op := Op.assign (Operand.tmp 53), type := 24, pos := "outright.go:72", after := #[{ on := 8, ground := Ground.data }, { on := 8, ground := Ground.chain }, { on := 0, ground := Ground.phase }, { on := 1, ground := Ground.phase }, { on := 2, ground := Ground.phase }, { on := 3, ground := Ground.phase }, { on := 4, ground := Ground.phase }, { on := 5, ground := Ground.phase }, { on := 6, ground := Ground.phase }, { on := 7, ground := Ground.phase }, { on := 8, ground := Ground.phase }], guard := none } : Oper)) (v := ?ve79) rfl (by kernel_rfl) (by kernel_rfl) (by kernel_rfl) (fun _ _ _ h => h) (Or.inl ⟨by rfl, ?he79⟩) hHeld ?re79
        case he79 =>
          intro w hSw
          obtain ⟨s0, s1, s2, s3⟩ := hSw
          go_simp
          all_goals with_reducible rfl
        try simp only [Act.put, List.setIfInBounds_toArray, List.set_cons_zero, List.set_cons_succ]
        refine wpAnyH_done (by kernel_rfl) ?_ _
        go_wp2_with fail
        go_meet
        exact ⟨g8, c8, by rw [HL2.out], Lib.hid ⟨hrow, hbc⟩⟩
    · go_simp
      obtain ⟨G1, hG⟩ : ∃ X, Wv0.heap.size = X := ⟨_, rfl⟩
      obtain ⟨Wv1, hWv1⟩ : ∃ W, Wv0.alloc (.cells #[.string znS, .int .i64 k, .int .i64 u, .slice none 0 0] 57) = W := ⟨_, rfl⟩
      have hst : Below Wv0.heap.size Wv0 Wv1 := by rw [← hWv1]; exact (Below.refl _ _).alloc (Nat.le_refl _) _
      have nw : RowC Wv1 G1 #[.string znS, .int .i64 k, .int .i64 u, .slice none 0 0] 57 := by rw [← hWv1, ← hG]; exact RowC.new _ _ _ _ rfl
      (try rw [hG])
      (try rw [hWv1])
      clear hG hWv1
      replace hbc := bTr hbc hst
      clear hst
      have m1 := nw
      clear nw
      refine hK.out _ _ ?kt87 (fun hHeld2 => ?_)
      case kt87 => exact HS.out Wv1 hbc
      clear hK K
      try simp only [Act.put, List.setIfInBounds_toArray, List.set_cons_zero, List.set_cons_succ]
      replace hHeld := hHeld2
      clear hHeld2
      refine wpAnyH_ready (rs := [0]) (by kernel_rfl) (by simp) ?_
      refine (AllReadyH.cons (o := ({ dst := some 45, op := Op.buildSlice 24 0 #[], type := 24, pos := "outright.go:72", after := #[], guard := none } : Oper)) rfl (fun K hK => ?_) AllReadyH.nil)
      go_simp
      obtain ⟨G0, hG⟩ : ∃ X, Wv1.heap.size = X := ⟨_, rfl⟩
      obtain ⟨Wv2, hWv2⟩ : ∃ W, Wv1.alloc (.cells #[] 57) = W := ⟨_, rfl⟩
      have hst : Below Wv1.heap.size Wv1 Wv2 := by rw [← hWv2]; exact (Below.refl _ _).alloc (Nat.le_refl _) _
      have nw : RowL Wv2 VS (some ⟨G0, 0, none⟩) [] 0 := by rw [← hWv2]; exact made_row Wv1 VS G0 hG.symm (by rw [← hVS.out]; exact hbc.size)
      have hne : Hid (G1 ≠ G0) := Lib.hid (by have := m1.lt; omega)
      (try rw [hG])
      (try rw [hWv2])
      clear hG hWv2
      replace hbc := bTr hbc hst
      replace m1 := m1.below hst m1.lt
      clear hst
      have m0 := nw
      clear nw
      refine hK.out _ _ ?kt90 (fun hHeld2 => ?_)
      case kt90 => exact HS.out Wv2 hbc
      clear hK K
      try simp only [Act.put, List.setIfInBounds_toArray, List.set_cons_zero, List.set_cons_succ]
      replace hHeld := hHeld2
      clear hHeld2
      refine wpAnyH_ready (rs := [3]) (by kernel_rfl) (by simp) ?_
      refine (AllReadyH.cons (o := ({ dst := some 48, op := Op.call { callee := Callee.builtin Builtin.append, args := #[Operand.tmp 45, Operand.tmp 47], argTypes := #[24, 24] }, type := 24, pos := "outright.go:72", after := #[{ on := 0, ground := Ground.data }, { on := 2, ground := Ground.data }], guard := none } : Oper)) rfl (fun K hK => ?_) AllReadyH.nil)
      refine step_rules (by rfl) _ _ (by rfl) (base := VS) (l := []) (l5 := l2) (by rfl) m0 (by rw [HL2.out]; rfl) (HRL.out _ hbc) (by rw [HL2.out]; simp; omega) HLE.out.1 HNN.out (by rw [← hVS.out]; exact hbc.size) ?_
      rintro A7 c7 Wv3 hrow hgr hkc hst
      have hst : Below V.heap.size Wv2 Wv3 := by rw [hVS.out]; exact hst
      replace m1 := rowc_grown hgr m1 (by simpa [Value.ownBlock] using hne.out)
      replace hbc := hbc.trans hst
      clear hst hgr hkc m0
      have m7 := hrow
      clear hrow
      refine hK.out _ _ ?kt103 (fun hHeld2 => ?_)
      case kt103 => exact HS.out Wv3 hbc
      clear hK K
      try simp only [Act.put, List.setIfInBounds_toArray, List.set_cons_zero, List.set_cons_succ]
      replace hHeld := hHeld2
      clear hHeld2
      refine wpAnyH_ready (rs := [8]) (by kernel_rfl) (by simp) ?_
      refine (AllReadyH.cons (o := ({ dst := some 53, op := Op.call { callee := Callee.builtin Builtin.append, args := #[Operand.tmp 48, Operand.tmp 52], argTypes := #[24, 24] }, type := 24, pos := "outright.go:72", after := #[{ on := 3, ground := Ground.data }, { on := 7, ground := Ground.data }, { on := 3, ground := Ground.chain }], guard := none } : Oper)) rfl (fun K hK => ?_) AllReadyH.nil)
      refine step_rule (by rfl) _ _ (by rfl) (base := VS) (l := l2) (by first | rfl | (rw [HL2.out]; rfl)) m7 (r := (⟨znS, k, u, none, 0, 0, fun _ => default⟩ : RL)) (by rfl) m1 (HRN.out _) (by rw [HL2.out]; omega) (by rw [← hVS.out]; exact hbc.size) ?_
      rintro g8 c8 Wv4 hrow hgr _ hkc hst
      have hst : Below V.heap.size Wv3 Wv4 := by rw [hVS.out]; exact hst
      replace hbc := hbc.trans hst
      clear hst hgr hkc m1 m7
      refine hK.out _ _ ?ka118 (fun hHeld2 => ?_)
      case ka118 => exact HS.out Wv4 hbc
      clear hK K
      try simp only [Act.put, List.setIfInBounds_toArray, List.set_cons_zero, List.set_cons_succ]
      replace hHeld := hHeld2
      clear hHeld2
      refine wpAnyH_take (i := 9) (oi := ({ dst := some 12, op := Op.assign (Operand.tmp 53), type := 24, pos := "outright.go:72", after := #[{ on := 8, ground := Ground.data }, { on := 8, ground := Ground.chain }, { on := 0, ground := Ground.phase }, { on := 1, ground := Ground.phase }, { on := 2, ground := Ground.phase }, { on := 3, ground := Ground.phase }, { on := 4, ground := Ground.phase }, { on := 5, ground := Ground.phase }, { on := 6, ground := Ground.phase }, { on := 7, ground := Ground.phase }, { on := 8, ground := Ground.phase }], guard := none } : Oper)) (v := ?ve119) rfl (by kernel_rfl) (by kernel_rfl) (by kernel_rfl) (fun _ _ _ h => h) (Or.inl ⟨by rfl, ?he119⟩) hHeld ?re119
      case he119 =>
        intro w hSw
        obtain ⟨s0, s1, s2, s3⟩ := hSw
        go_simp
        all_goals with_reducible rfl
      try simp only [Act.put, List.setIfInBounds_toArray, List.set_cons_zero, List.set_cons_succ]
      refine wpAnyH_done (by kernel_rfl) ?_ _
      go_wp2_with fail
      go_meet
      exact ⟨g8, c8, by rw [HL2.out], Lib.hid ⟨hrow, hbc⟩⟩
  case rest =>
  obtain ⟨g8, c8, rfl, HC⟩ := hcut
  have HV8 : Hid (Below W4.heap.size W4 wc) := Lib.hid (bTr HV.out HC.out.2)
  have hlen8 : (l2 ++ [(⟨znS, k, u, none, 0, 0, fun _ => default⟩ : RL)]).length = n + 1 := by rw [List.length_append, HL2.out]; rfl
  have hsm8 : ∀ e ∈ l2 ++ [(⟨znS, k, u, none, 0, 0, fun _ => default⟩ : RL)], e.n ≤ 100000 := fun e he => by
    rcases List.mem_append.1 he with h | h
    · exact HS2.out e h
    · rw [List.mem_singleton] at h; subst h; exact Nat.zero_le _
  have hch := check_any k u false (some ⟨g8, 0, none⟩) (l2 ++ [(⟨znS, k, u, none, 0, 0, fun _ => default⟩ : RL)]) c8 A3 tn c3 T wc HC.out.1.rl (by rw [hlen8]; omega) hsm8 (by omega) (HRX.out _ HV8.out).2.2.1
  rw [hlen8] at hch
  have KC := Lib.hid hch
  obtain ⟨x0, x1, x2, x3⟩ := HS.out wc HC.out.2
  clear hch hlen8 hsm8 HRN
  go_wp2_with fail
  refine KC.out.mono ?_
  rintro e w5 ⟨a2, f2, rfl, hca2, hB6⟩
  have HV5 : Hid (Below V.heap.size V w5) := Lib.hid (bTr HC.out.2 hB6)
  have hln : (l2.map RL.val).length = n := by rw [List.length_map]; exact HL2.out
  have HSN := Lib.hid (chk_snoc (r := ⟨znS, k, u, []⟩) HCA.out (by rw [hln]; omega) (fun h => zn_may (right_actB h)) (by rw [List.map_append] at hca2; exact hca2)).1
  rw [hln] at HSN
  clear KC HC HV8 hca2 hB6 x0 x1 x2 x3 hln
  go_wp2_with fail
  go_loopw [15] (fun i wr => ∃ q : Nat, q ≤ tn ∧ i = .int .i64 q ∧ wr = w5 ∧ Hid (∀ j, j < q → (T j).nm ≠ znS)) (fun i _ => tn - (intOf i).toNat)
  case atStart => exact ⟨0, Nat.zero_le _, rfl, rfl, Lib.hid fun j hj => absurd hj (Nat.not_lt_zero _)⟩
  case round =>
    obtain ⟨q, hq, rfl, rfl, hok⟩ := hrel
    by_cases hlt : q < tn
    · obtain ⟨bt, ot, rfl, htb⟩ := (HRX.out _ (bTr HV.out HV5.out)).2.2.2.1.at_ (by omega)
      have c0 := (htb.2 q hlt).1
      have i1 : (0 : Int) ≤ (q : Int) := by omega
      have i2 : (q : Int) < (tn : Int) := by omega
      clear htb
      by_cases he : (T q).nm = znS
      · rw [he] at c0
        have KW := Lib.hid (HAW.out wr)
        go_wp2_with fail
        refine KW.out.mono ?_
        rintro e w6 ⟨rfl, hB6⟩
        go_wp2
        go_ret
        exact ⟨rfl, by rw [HBS.out]; exact (HRX.out _ (bTr (bTr HV.out HV5.out) hB6)).2.2.2.2⟩
      · have g2 : ((T q).nm.toList == ([122, 122, 122, 122, 95, 110, 111, 110, 101] : List UInt8)) = false := by
          rw [Bool.eq_false_iff]
          intro h
          have h1 := beq_iff_eq.1 h
          rw [Lib.toList_data] at h1
          exact he (ByteArray.ext (Array.toList_inj.1 h1))
        go_wp2
        exact ⟨⟨q + 1, by omega, by go_num, trivial, Lib.hid fun j hj => by
          by_cases e : j = q
          · subst e; exact he
          · exact hok.out j (by omega)⟩, by simp [intOf]; omega⟩
    · obtain rfl : tn = q := by omega
      obtain ⟨rfl, rfl⟩ := HSN.out (any_none hok.out)
      clear HSN
      by_cases hn0 : a2 = 0
      · subst hn0
        have KW := Lib.hid (HAW.out wr)
        go_wp2_with fail
        refine KW.out.mono ?_
        rintro e w6 ⟨rfl, hB6⟩
        go_wp2
        go_ret
        exact ⟨rfl, by rw [HBS.out]; exact (HRX.out _ (bTr (bTr HV.out HV5.out) hB6)).2.2.2.2⟩
      have f1 : ((a2 : Int) == 0) = false := beq_eq_false_iff_ne.2 (by omega)
      have f2 : (a2 == 0) = false := beq_eq_false_iff_ne.2 hn0
      have f3 : ¬ (a2 : Int) = 0 := by omega
      obtain ⟨jj, hjj⟩ : ∃ jj, at0 % a2 = jj := ⟨_, rfl⟩
      have hjl : jj < a2 := by rw [← hjj]; exact Nat.mod_lt _ (by omega)
      have v1 : ((at0 : Int)).tmod (a2 : Int) = (jj : Int) := by rw [← hjj, Int.tmod_eq_emod_of_nonneg (by omega)]; first | exact (Int.natCast_emod at0 a2).symm | exact (Int.ofNat_emod at0 a2).symm | simp
      have v0 : IntKind.i64.wrap (at0 : Int) = (at0 : Int) := by rw [IntKind.wrap_i64]; omega
      have i1 : (0 : Int) ≤ (jj : Int) := by omega
      have i2 : (jj : Int) < (a2 : Int) := by omega
      obtain ⟨U, hU⟩ : ∃ U, wr = U := ⟨_, rfl⟩
      rw [hU] at HV5 ⊢
      clear hU hok wr
      obtain ⟨rj, hrj⟩ : ∃ rj, l2[jj]! = rj := ⟨_, rfl⟩
      have hlt2 : jj < l2.length := by rw [HL2.out]; exact hjl
      have hmem : rj ∈ l2 := by rw [← hrj, getElem!_pos l2 jj hlt2]; exact List.getElem_mem hlt2
      obtain ⟨b1, o1, rfl⟩ : ∃ b1 o1, A2 = some ⟨b1, o1, none⟩ := by
        rcases (HRL.out U HV5.out).1 with h | ⟨b1, o1, e, _⟩
        · rw [h] at hlt2; exact absurd hlt2 (Nat.not_lt_zero _)
        · exact ⟨b1, o1, e⟩
      obtain ⟨q1, hq1⟩ : ∃ q1, o1 + jj * 4 = q1 := ⟨_, rfl⟩
      have HS9 : Hid (∀ W, Below U.heap.size U W → W.cell? ⟨bx, 0, none⟩ = some (.int .i64 k) ∧ W.cell? ⟨bx, 1, none⟩ = some (.int .i64 u) ∧ W.cell? ⟨bx, 2, none⟩ = some (.bool x) ∧ W.cell? ⟨bx, 3, none⟩ = some (.slice (some ⟨b1, o1, none⟩) a2 c2) ∧ W.cell? ⟨b1, q1, none⟩ = some (.string rj.nm) ∧ W.cell? ⟨b1, q1 + 1, none⟩ = some (.int .i64 rj.k) ∧ W.cell? ⟨b1, q1 + 2, none⟩ = some (.int .i64 rj.u) ∧ W.cell? ⟨b1, q1 + 3, none⟩ = some (.slice rj.A rj.n rj.c)) := Lib.hid fun W hW => by
        obtain ⟨h1, h2, _⟩ := HRX.out W (bTr (bTr HV.out HV5.out) hW)
        rcases h2.1 with h | ⟨b', o', e, _, hcs⟩
        · rw [h] at hlt2; exact absurd hlt2 (Nat.not_lt_zero _)
        · injection e with e
          injection e with e1 e2
          subst e1 e2
          have h4 := hcs jj hlt2
          rw [hrj, hq1] at h4
          exact ⟨h1.cell 0 _ rfl, h1.cell 1 _ rfl, h1.cell 2 _ rfl, h1.cell 3 _ rfl, h4.1, h4.2.1, h4.2.2.1, h4.2.2.2⟩
      have HRL9 : Hid (∀ W, Below U.heap.size U W → RlL W (some ⟨b1, o1, none⟩) l2) := Lib.hid fun W hW => HRL.out W (bTr HV5.out hW)
      have HRJ : Hid (∀ W, Below U.heap.size U W → RuT W rj) := Lib.hid fun W hW => (HRL9.out W hW).2 rj hmem
      have HMEM := Lib.hid hmem
      obtain ⟨US, hUS0⟩ : ∃ US, U.heap.size = US := ⟨_, rfl⟩
      have hUS := Lib.hid hUS0
      have HQ1 := Lib.hid hq1
      clear hUS0 hrj hlt2 hmem hq1
      go_upto_region 19 with fail
      go_cut [16] from 86 to 100 (fun s12 wx => ∃ g8 c8, s12 = .slice (some ⟨g8, 0, none⟩) (a2 + 1) c8 ∧ Hid (RowL wx US (some ⟨g8, 0, none⟩) (l2 ++ [rj]) c8 ∧ Below U.heap.size U wx))
      case first =>
        have hq1 := HQ1.out
        refine wp_region_held_drew (S := fun w' => w'.cell? ⟨bx, 0, none⟩ = some (.int .i64 k) ∧ w'.cell? ⟨bx, 1, none⟩ = some (.int .i64 u) ∧ w'.cell? ⟨bx, 2, none⟩ = some (.bool x) ∧ w'.cell? ⟨bx, 3, none⟩ = some (.slice (some ⟨b1, o1, none⟩) a2 c2) ∧ w'.cell? ⟨b1, q1, none⟩ = some (.string rj.nm) ∧ w'.cell? ⟨b1, q1 + 1, none⟩ = some (.int .i64 rj.k) ∧ w'.cell? ⟨b1, q1 + 2, none⟩ = some (.int .i64 rj.u) ∧ w'.cell? ⟨b1, q1 + 3, none⟩ = some (.slice rj.A rj.n rj.c)) (by kernel_rfl) (HS9.out _ (Below.refl _ U).drew) (fun hHeld => ?_)
        have hbc : Below U.heap.size U U.drew := (Below.refl _ U).drew
        generalize U.drew = Wv0 at *
        refine wpAnyH_take (i := 1) (oi := ({ dst := some 87, op := Op.fieldAddr 26 (Operand.tmp 7) 2, type := 0, pos := "outright.go:85", after := #[], guard := none } : Oper)) (v := ?vy1) rfl (by kernel_rfl) (by kernel_rfl) (by kernel_rfl) (fun _ _ _ h => h) (Or.inl ⟨by rfl, ?hy1⟩) hHeld ?ry1
        case hy1 =>
          intro w hSw
          obtain ⟨s0, s1, s2, s3, s4, s5, s6, s7⟩ := hSw
          go_simp
          all_goals with_reducible rfl
        try simp only [Act.put, List.setIfInBounds_toArray, List.set_cons_zero, List.set_cons_succ]
        refine wpAnyH_take (i := 2) (oi := ({ dst := some 88, op := Op.load 24 (Operand.tmp 87), type := 24, pos := "outright.go:85", after := #[{ on := 1, ground := Ground.data }], guard := none } : Oper)) (v := ?vy2) rfl (by kernel_rfl) (by kernel_rfl) (by kernel_rfl) (fun _ _ _ h => h) (Or.inl ⟨by rfl, ?hy2⟩) hHeld ?ry2
        case hy2 =>
          intro w hSw
          obtain ⟨s0, s1, s2, s3, s4, s5, s6, s7⟩ := hSw
          go_simp
          all_goals with_reducible rfl
        try simp only [Act.put, List.setIfInBounds_toArray, List.set_cons_zero, List.set_cons_succ]
        refine wpAnyH_take (i := 4) (oi := ({ dst := some 90, op := Op.fieldAddr 26 (Operand.tmp 7) 2, type := 0, pos := "outright.go:85", after := #[], guard := none } : Oper)) (v := ?vy4) rfl (by kernel_rfl) (by kernel_rfl) (by kernel_rfl) (fun _ _ _ h => h) (Or.inl ⟨by rfl, ?hy4⟩) hHeld ?ry4
        case hy4 =>
          intro w hSw
          obtain ⟨s0, s1, s2, s3, s4, s5, s6, s7⟩ := hSw
          go_simp
          all_goals with_reducible rfl
        try simp only [Act.put, List.setIfInBounds_toArray, List.set_cons_zero, List.set_cons_succ]
        refine wpAnyH_take (i := 5) (oi := ({ dst := some 91, op := Op.load 24 (Operand.tmp 90), type := 24, pos := "outright.go:85", after := #[{ on := 4, ground := Ground.data }], guard := none } : Oper)) (v := ?vy5) rfl (by kernel_rfl) (by kernel_rfl) (by kernel_rfl) (fun _ _ _ h => h) (Or.inl ⟨by rfl, ?hy5⟩) hHeld ?ry5
        case hy5 =>
          intro w hSw
          obtain ⟨s0, s1, s2, s3, s4, s5, s6, s7⟩ := hSw
          go_simp
          all_goals with_reducible rfl
        try simp only [Act.put, List.setIfInBounds_toArray, List.set_cons_zero, List.set_cons_succ]
        refine wpAnyH_take (i := 6) (oi := ({ dst := some 92, op := Op.move (Operand.tmp 2), type := 5, pos := "outright.go:85", after := #[], guard := none } : Oper)) (v := ?vy6) rfl (by kernel_rfl) (by kernel_rfl) (by kernel_rfl) (fun _ _ _ h => h) (Or.inl ⟨by rfl, ?hy6⟩) hHeld ?ry6
        case hy6 =>
          intro w hSw
          obtain ⟨s0, s1, s2, s3, s4, s5, s6, s7⟩ := hSw
          go_simp
          all_goals with_reducible rfl
        try simp only [Act.put, List.setIfInBounds_toArray, List.set_cons_zero, List.set_cons_succ]
        refine wpAnyH_take (i := 7) (oi := ({ dst := some 93, op := Op.convert 5 3 (Operand.tmp 92), type := 3, pos := "outright.go:85", after := #[{ on := 6, ground := Ground.data }], guard := none } : Oper)) (v := ?vy7) rfl (by kernel_rfl) (by kernel_rfl) (by kernel_rfl) (fun _ _ _ h => h) (Or.inl ⟨by rfl, ?hy7⟩) hHeld ?ry7
        case hy7 =>
          intro w hSw
          obtain ⟨s0, s1, s2, s3, s4, s5, s6, s7⟩ := hSw
          go_simp
          all_goals with_reducible rfl
        try simp only [Act.put, List.setIfInBounds_toArray, List.set_cons_zero, List.set_cons_succ]
        refine wpAnyH_take (i := 8) (oi := ({ dst := some 94, op := Op.move (Operand.tmp 11), type := 3, pos := "outright.go:85", after := #[], guard := none } : Oper)) (v := ?vy8) rfl (by kernel_rfl) (by kernel_rfl) (by kernel_rfl) (fun _ _ _ h => h) (Or.inl ⟨by rfl, ?hy8⟩) hHeld ?ry8
        case hy8 =>
          intro w hSw
          obtain ⟨s0, s1, s2, s3, s4, s5, s6, s7⟩ := hSw
          go_simp
          all_goals with_reducible rfl
        try simp only [Act.put, List.setIfInBounds_toArray, List.set_cons_zero, List.set_cons_succ]
        refine wpAnyH_take (i := 9) (oi := ({ dst := some 95, op := Op.binOp BinOp.rem 3 (Operand.tmp 93) (Operand.tmp 94) 3, type := 3, pos := "outright.go:85", after := #[{ on := 7, ground := Ground.data }, { on := 8, ground := Ground.data }], guard := none } : Oper)) (v := ?vy9) rfl (by kernel_rfl) (by kernel_rfl) (by kernel_rfl) (fun _ _ _ h => h) (Or.inl ⟨by rfl, ?hy9⟩) hHeld ?ry9
        case hy9 =>
          intro w hSw
          obtain ⟨s0, s1, s2, s3, s4, s5, s6, s7⟩ := hSw
          go_simp
          all_goals with_reducible rfl
        try simp only [Act.put, List.setIfInBounds_toArray, List.set_cons_zero, List.set_cons_succ]
        refine wpAnyH_take (i := 10) (oi := ({ dst := some 96, op := Op.indexAddr 24 (Operand.tmp 91) (Operand.tmp 95), type := 0, pos := "outright.go:85", after := #[{ on := 5, ground := Ground.data }, { on := 9, ground := Ground.data }], guard := none } : Oper)) (v := ?vy10) rfl (by kernel_rfl) (by kernel_rfl) (by kernel_rfl) (fun _ _ _ h => h) (Or.inl ⟨by rfl, ?hy10⟩) hHeld ?ry10
        case hy10 =>
          intro w hSw
          obtain ⟨s0, s1, s2, s3, s4, s5, s6, s7⟩ := hSw
          go_simp
          all_goals with_reducible rfl
        try simp only [Act.put, List.setIfInBounds_toArray, List.set_cons_zero, List.set_cons_succ]
        refine wpAnyH_take (i := 11) (oi := ({ dst := some 97, op := Op.load 57 (Operand.tmp 96), type := 57, pos := "outright.go:85", after := #[{ on := 10, ground := Ground.data }], guard := none } : Oper)) (v := ?vy11) rfl (by kernel_rfl) (by kernel_rfl) (by kernel_rfl) (fun _ _ _ h => h) (Or.inl ⟨by rfl, ?hy11⟩) hHeld ?ry11
        case hy11 =>
          intro w hSw
          obtain ⟨s0, s1, s2, s3, s4, s5, s6, s7⟩ := hSw
          go_simp
          all_goals with_reducible rfl
        try simp only [Act.put, List.setIfInBounds_toArray, List.set_cons_zero, List.set_cons_succ]
        refine wpAnyH_ready (rs := [0, 12]) (by kernel_rfl) (by simp) ?_
        refine (AllReadyH.cons (o := ({ dst := some 86, op := Op.buildSlice 24 0 #[], type := 24, pos := "outright.go:85", after := #[], guard := none } : Oper)) rfl (fun K hK => ?_) (AllReadyH.cons (o := ({ dst := some 98, op := Op.buildSlice 24 1 #[(0, Operand.tmp 97)], type := 24, pos := "outright.go:85", after := #[{ on := 11, ground := Ground.data }], guard := none } : Oper)) rfl (fun K hK => ?_) AllReadyH.nil))
        · go_simp
          obtain ⟨G0, hG⟩ : ∃ X, Wv0.heap.size = X := ⟨_, rfl⟩
          obtain ⟨Wv1, hWv1⟩ : ∃ W, Wv0.alloc (.cells #[] 57) = W := ⟨_, rfl⟩
          have hst : Below Wv0.heap.size Wv0 Wv1 := by rw [← hWv1]; exact (Below.refl _ _).alloc (Nat.le_refl _) _
          have nw : RowL Wv1 US (some ⟨G0, 0, none⟩) [] 0 := by rw [← hWv1]; exact made_row Wv0 US G0 hG.symm (by rw [← hUS.out]; exact hbc.size)
          (try rw [hG])
          (try rw [hWv1])
          clear hG hWv1
          replace hbc := bTr hbc hst
          clear hst
          have m0 := nw
          clear nw
          refine hK.out _ _ ?kt120 (fun hHeld2 => ?_)
          case kt120 => exact HS9.out Wv1 hbc
          clear hK K
          try simp only [Act.put, List.setIfInBounds_toArray, List.set_cons_zero, List.set_cons_succ]
          replace hHeld := hHeld2
          clear hHeld2
          refine wpAnyH_ready (rs := [3, 12]) (by kernel_rfl) (by simp) ?_
          refine (AllReadyH.cons (o := ({ dst := some 89, op := Op.call { callee := Callee.builtin Builtin.append, args := #[Operand.tmp 86, Operand.tmp 88], argTypes := #[24, 24] }, type := 24, pos := "outright.go:85", after := #[{ on := 0, ground := Ground.data }, { on := 2, ground := Ground.data }], guard := none } : Oper)) rfl (fun K hK => ?_) (AllReadyH.cons (o := ({ dst := some 98, op := Op.buildSlice 24 1 #[(0, Operand.tmp 97)], type := 24, pos := "outright.go:85", after := #[{ on := 11, ground := Ground.data }], guard := none } : Oper)) rfl (fun K hK => ?_) AllReadyH.nil))
          · refine step_rules (by rfl) _ _ (by rfl) (base := US) (l := []) (l5 := l2) (by rfl) m0 (by rw [HL2.out]; rfl) (HRL9.out _ hbc) (by rw [HL2.out]; simp; omega) HLE.out.1 HNN.out (by rw [← hUS.out]; exact hbc.size) ?_
            rintro A7 c7 Wv2 hrow hgr hkc hst
            have hst : Below U.heap.size Wv1 Wv2 := by rw [hUS.out]; exact hst
            replace hbc := hbc.trans hst
            clear hst hgr hkc m0
            have m7 := hrow
            clear hrow
            refine hK.out _ _ ?kt133 (fun hHeld2 => ?_)
            case kt133 => exact HS9.out Wv2 hbc
            clear hK K
            try simp only [Act.put, List.setIfInBounds_toArray, List.set_cons_zero, List.set_cons_succ]
            replace hHeld := hHeld2
            clear hHeld2
            refine wpAnyH_ready (rs := [12]) (by kernel_rfl) (by simp) ?_
            refine (AllReadyH.cons (o := ({ dst := some 98, op := Op.buildSlice 24 1 #[(0, Operand.tmp 97)], type := 24, pos := "outright.go:85", after := #[{ on := 11, ground := Ground.data }], guard := none } : Oper)) rfl (fun K hK => ?_) AllReadyH.nil)
            go_simp
            obtain ⟨G1, hG⟩ : ∃ X, Wv2.heap.size = X := ⟨_, rfl⟩
            obtain ⟨Wv3, hWv3⟩ : ∃ W, Wv2.alloc (.cells #[.string rj.nm, .int .i64 rj.k, .int .i64 rj.u, .slice rj.A rj.n rj.c] 57) = W := ⟨_, rfl⟩
            have hst : Below Wv2.heap.size Wv2 Wv3 := by rw [← hWv3]; exact (Below.refl _ _).alloc (Nat.le_refl _) _
            have nw : RowC Wv3 G1 #[.string rj.nm, .int .i64 rj.k, .int .i64 rj.u, .slice rj.A rj.n rj.c] 57 := by rw [← hWv3, ← hG]; exact RowC.new _ _ _ _ rfl
            (try rw [hG])
            (try rw [hWv3])
            clear hG hWv3
            replace hbc := bTr hbc hst
            replace m7 := m7.below hst (Nat.le_refl _)
            clear hst
            have m1 := nw
            clear nw
            refine hK.out _ _ ?kt1412 (fun hHeld2 => ?_)
            case kt1412 => exact HS9.out Wv3 hbc
            clear hK K
            try simp only [Act.put, List.setIfInBounds_toArray, List.set_cons_zero, List.set_cons_succ]
            replace hHeld := hHeld2
            clear hHeld2
            refine wpAnyH_ready (rs := [13]) (by kernel_rfl) (by simp) ?_
            refine (AllReadyH.cons (o := ({ dst := some 99, op := Op.call { callee := Callee.builtin Builtin.append, args := #[Operand.tmp 89, Operand.tmp 98], argTypes := #[24, 24] }, type := 24, pos := "outright.go:85", after := #[{ on := 3, ground := Ground.data }, { on := 12, ground := Ground.data }, { on := 3, ground := Ground.chain }], guard := none } : Oper)) rfl (fun K hK => ?_) AllReadyH.nil)
            refine step_rule (by rfl) _ _ (by rfl) (base := US) (l := l2) (by first | rfl | (rw [HL2.out]; rfl)) m7 (r := rj) (by rfl) m1 (HRJ.out _ hbc) (by rw [HL2.out]; omega) (by rw [← hUS.out]; exact hbc.size) ?_
            rintro g8 c8 Wv4 hrow hgr _ hkc hst
            have hst : Below U.heap.size Wv3 Wv4 := by rw [hUS.out]; exact hst
            replace hbc := hbc.trans hst
            clear hst hgr hkc m1 m7
            refine hK.out _ _ ?ka1513 (fun hHeld2 => ?_)
            case ka1513 => exact HS9.out Wv4 hbc
            clear hK K
            try simp only [Act.put, List.setIfInBounds_toArray, List.set_cons_zero, List.set_cons_succ]
            replace hHeld := hHeld2
            clear hHeld2
            refine wpAnyH_take (i := 14) (oi := ({ dst := some 16, op := Op.assign (Operand.tmp 99), type := 24, pos := "outright.go:85", after := #[{ on := 13, ground := Ground.data }, { on := 13, ground := Ground.chain }, { on := 0, ground := Ground.phase }, { on := 1, ground := Ground.phase }, { on := 2, ground := Ground.phase }, { on := 3, ground := Ground.phase }, { on := 4, ground := Ground.phase }, { on := 5, ground := Ground.phase }, { on := 6, ground := Ground.phase }, { on := 7, ground := Ground.phase }, { on := 8, ground := Ground.phase }, { on := 9, ground := Ground.phase }, { on := 10, ground := Ground.phase }, { on := 11, ground := Ground.phase }, { on := 12, ground := Ground.phase }, { on := 13, ground := Ground.phase }], guard := none } : Oper)) (v := ?ve1514) rfl (by kernel_rfl) (by kernel_rfl) (by kernel_rfl) (fun _ _ _ h => h) (Or.inl ⟨by rfl, ?he1514⟩) hHeld ?re1514
            case he1514 =>
              intro w hSw
              obtain ⟨s0, s1, s2, s3, s4, s5, s6, s7⟩ := hSw
              go_simp
              all_goals with_reducible rfl
            try simp only [Act.put, List.setIfInBounds_toArray, List.set_cons_zero, List.set_cons_succ]
            refine wpAnyH_done (by kernel_rfl) ?_ _
            go_wp2_with fail
            go_meet
            exact ⟨g8, c8, by rw [HL2.out], Lib.hid ⟨hrow, hbc⟩⟩
          · go_simp
            obtain ⟨G1, hG⟩ : ∃ X, Wv1.heap.size = X := ⟨_, rfl⟩
            obtain ⟨Wv2, hWv2⟩ : ∃ W, Wv1.alloc (.cells #[.string rj.nm, .int .i64 rj.k, .int .i64 rj.u, .slice rj.A rj.n rj.c] 57) = W := ⟨_, rfl⟩
            have hst : Below Wv1.heap.size Wv1 Wv2 := by rw [← hWv2]; exact (Below.refl _ _).alloc (Nat.le_refl _) _
            have nw : RowC Wv2 G1 #[.string rj.nm, .int .i64 rj.k, .int .i64 rj.u, .slice rj.A rj.n rj.c] 57 := by rw [← hWv2, ← hG]; exact RowC.new _ _ _ _ rfl
            have hne : Hid (G1 ≠ G0) := Lib.hid (by have := own_lt m0; omega)
            (try rw [hG])
            (try rw [hWv2])
            clear hG hWv2
            replace hbc := bTr hbc hst
            replace m0 := m0.below hst (Nat.le_refl _)
            clear hst
            have m1 := nw
            clear nw
            refine hK.out _ _ ?kt1612 (fun hHeld2 => ?_)
            case kt1612 => exact HS9.out Wv2 hbc
            clear hK K
            try simp only [Act.put, List.setIfInBounds_toArray, List.set_cons_zero, List.set_cons_succ]
            replace hHeld := hHeld2
            clear hHeld2
            refine wpAnyH_ready (rs := [3]) (by kernel_rfl) (by simp) ?_
            refine (AllReadyH.cons (o := ({ dst := some 89, op := Op.call { callee := Callee.builtin Builtin.append, args := #[Operand.tmp 86, Operand.tmp 88], argTypes := #[24, 24] }, type := 24, pos := "outright.go:85", after := #[{ on := 0, ground := Ground.data }, { on := 2, ground := Ground.data }], guard := none } : Oper)) rfl (fun K hK => ?_) AllReadyH.nil)
            refine step_rules (by rfl) _ _ (by rfl) (base := US) (l := []) (l5 := l2) (by rfl) m0 (by rw [HL2.out]; rfl) (HRL9.out _ hbc) (by rw [HL2.out]; simp; omega) HLE.out.1 HNN.out (by rw [← hUS.out]; exact hbc.size) ?_
            rintro A7 c7 Wv3 hrow hgr hkc hst
            have hst : Below U.heap.size Wv2 Wv3 := by rw [hUS.out]; exact hst
            replace m1 := rowc_grown hgr m1 (by simpa [Value.ownBlock] using hne.out)
            replace hbc := hbc.trans hst
            clear hst hgr hkc m0
            have m7 := hrow
            clear hrow
            refine hK.out _ _ ?kt173 (fun hHeld2 => ?_)
            case kt173 => exact HS9.out Wv3 hbc
            clear hK K
            try simp only [Act.put, List.setIfInBounds_toArray, List.set_cons_zero, List.set_cons_succ]
            replace hHeld := hHeld2
            clear hHeld2
            refine wpAnyH_ready (rs := [13]) (by kernel_rfl) (by simp) ?_
            refine (AllReadyH.cons (o := ({ dst := some 99, op := Op.call { callee := Callee.builtin Builtin.append, args := #[Operand.tmp 89, Operand.tmp 98], argTypes := #[24, 24] }, type := 24, pos := "outright.go:85", after := #[{ on := 3, ground := Ground.data }, { on := 12, ground := Ground.data }, { on := 3, ground := Ground.chain }], guard := none } : Oper)) rfl (fun K hK => ?_) AllReadyH.nil)
            refine step_rule (by rfl) _ _ (by rfl) (base := US) (l := l2) (by first | rfl | (rw [HL2.out]; rfl)) m7 (r := rj) (by rfl) m1 (HRJ.out _ hbc) (by rw [HL2.out]; omega) (by rw [← hUS.out]; exact hbc.size) ?_
            rintro g8 c8 Wv4 hrow hgr _ hkc hst
            have hst : Below U.heap.size Wv3 Wv4 := by rw [hUS.out]; exact hst
            replace hbc := hbc.trans hst
            clear hst hgr hkc m1 m7
            refine hK.out _ _ ?ka1813 (fun hHeld2 => ?_)
            case ka1813 => exact HS9.out Wv4 hbc
            clear hK K
            try simp only [Act.put, List.setIfInBounds_toArray, List.set_cons_zero, List.set_cons_succ]
            replace hHeld := hHeld2
            clear hHeld2
            refine wpAnyH_take (i := 14) (oi := ({ dst := some 16, op := Op.assign (Operand.tmp 99), type := 24, pos := "outright.go:85", after := #[{ on := 13, ground := Ground.data }, { on := 13, ground := Ground.chain }, { on := 0, ground := Ground.phase }, { on := 1, ground := Ground.phase }, { on := 2, ground := Ground.phase }, { on := 3, ground := Ground.phase }, { on := 4, ground := Ground.phase }, { on := 5, ground := Ground.phase }, { on := 6, ground := Ground.phase }, { on := 7, ground := Ground.phase }, { on := 8, ground := Ground.phase }, { on := 9, ground := Ground.phase }, { on := 10, ground := Ground.phase }, { on := 11, ground := Ground.phase }, { on := 12, ground := Ground.phase }, { on := 13, ground := Ground.phase }], guard := none } : Oper)) (v := ?ve1814) rfl (by kernel_rfl) (by kernel_rfl) (by kernel_rfl) (fun _ _ _ h => h) (Or.inl ⟨by rfl, ?he1814⟩) hHeld ?re1814
            case he1814 =>
              intro w hSw
              obtain ⟨s0, s1, s2, s3, s4, s5, s6, s7⟩ := hSw
              go_simp
              all_goals with_reducible rfl
            try simp only [Act.put, List.setIfInBounds_toArray, List.set_cons_zero, List.set_cons_succ]
            refine wpAnyH_done (by kernel_rfl) ?_ _
            go_wp2_with fail
            go_meet
            exact ⟨g8, c8, by rw [HL2.out], Lib.hid ⟨hrow, hbc⟩⟩
        · go_simp
          obtain ⟨G1, hG⟩ : ∃ X, Wv0.heap.size = X := ⟨_, rfl⟩
          obtain ⟨Wv1, hWv1⟩ : ∃ W, Wv0.alloc (.cells #[.string rj.nm, .int .i64 rj.k, .int .i64 rj.u, .slice rj.A rj.n rj.c] 57) = W := ⟨_, rfl⟩
          have hst : Below Wv0.heap.size Wv0 Wv1 := by rw [← hWv1]; exact (Below.refl _ _).alloc (Nat.le_refl _) _
          have nw : RowC Wv1 G1 #[.string rj.nm, .int .i64 rj.k, .int .i64 rj.u, .slice rj.A rj.n rj.c] 57 := by rw [← hWv1, ← hG]; exact RowC.new _ _ _ _ rfl
          (try rw [hG])
          (try rw [hWv1])
          clear hG hWv1
          replace hbc := bTr hbc hst
          clear hst
          have m1 := nw
          clear nw
          refine hK.out _ _ ?kt1912 (fun hHeld2 => ?_)
          case kt1912 => exact HS9.out Wv1 hbc
          clear hK K
          try simp only [Act.put, List.setIfInBounds_toArray, List.set_cons_zero, List.set_cons_succ]
          replace hHeld := hHeld2
          clear hHeld2
          refine wpAnyH_ready (rs := [0]) (by kernel_rfl) (by simp) ?_
          refine (AllReadyH.cons (o := ({ dst := some 86, op := Op.buildSlice 24 0 #[], type := 24, pos := "outright.go:85", after := #[], guard := none } : Oper)) rfl (fun K hK => ?_) AllReadyH.nil)
          go_simp
          obtain ⟨G0, hG⟩ : ∃ X, Wv1.heap.size = X := ⟨_, rfl⟩
          obtain ⟨Wv2, hWv2⟩ : ∃ W, Wv1.alloc (.cells #[] 57) = W := ⟨_, rfl⟩
          have hst : Below Wv1.heap.size Wv1 Wv2 := by rw [← hWv2]; exact (Below.refl _ _).alloc (Nat.le_refl _) _
          have nw : RowL Wv2 US (some ⟨G0, 0, none⟩) [] 0 := by rw [← hWv2]; exact made_row Wv1 US G0 hG.symm (by rw [← hUS.out]; exact hbc.size)
          have hne : Hid (G1 ≠ G0) := Lib.hid (by have := m1.lt; omega)
          (try rw [hG])
          (try rw [hWv2])
          clear hG hWv2
          replace hbc := bTr hbc hst
          replace m1 := m1.below hst m1.lt
          clear hst
          have m0 := nw
          clear nw
          refine hK.out _ _ ?kt200 (fun hHeld2 => ?_)
          case kt200 => exact HS9.out Wv2 hbc
          clear hK K
          try simp only [Act.put, List.setIfInBounds_toArray, List.set_cons_zero, List.set_cons_succ]
          replace hHeld := hHeld2
          clear hHeld2
          refine wpAnyH_ready (rs := [3]) (by kernel_rfl) (by simp) ?_
          refine (AllReadyH.cons (o := ({ dst := some 89, op := Op.call { callee := Callee.builtin Builtin.append, args := #[Operand.tmp 86, Operand.tmp 88], argTypes := #[24, 24] }, type := 24, pos := "outright.go:85", after := #[{ on := 0, ground := Ground.data }, { on := 2, ground := Ground.data }], guard := none } : Oper)) rfl (fun K hK => ?_) AllReadyH.nil)
          refine step_rules (by rfl) _ _ (by rfl) (base := US) (l := []) (l5 := l2) (by rfl) m0 (by rw [HL2.out]; rfl) (HRL9.out _ hbc) (by rw [HL2.out]; simp; omega) HLE.out.1 HNN.out (by rw [← hUS.out]; exact hbc.size) ?_
          rintro A7 c7 Wv3 hrow hgr hkc hst
          have hst : Below U.heap.size Wv2 Wv3 := by rw [hUS.out]; exact hst
          replace m1 := rowc_grown hgr m1 (by simpa [Value.ownBlock] using hne.out)
          replace hbc := hbc.trans hst
          clear hst hgr hkc m0
          have m7 := hrow
          clear hrow
          refine hK.out _ _ ?kt213 (fun hHeld2 => ?_)
          case kt213 => exact HS9.out Wv3 hbc
          clear hK K
          try simp only [Act.put, List.setIfInBounds_toArray, List.set_cons_zero, List.set_cons_succ]
          replace hHeld := hHeld2
          clear hHeld2
          refine wpAnyH_ready (rs := [13]) (by kernel_rfl) (by simp) ?_
          refine (AllReadyH.cons (o := ({ dst := some 99, op := Op.call { callee := Callee.builtin Builtin.append, args := #[Operand.tmp 89, Operand.tmp 98], argTypes := #[24, 24] }, type := 24, pos := "outright.go:85", after := #[{ on := 3, ground := Ground.data }, { on := 12, ground := Ground.data }, { on := 3, ground := Ground.chain }], guard := none } : Oper)) rfl (fun K hK => ?_) AllReadyH.nil)
          refine step_rule (by rfl) _ _ (by rfl) (base := US) (l := l2) (by first | rfl | (rw [HL2.out]; rfl)) m7 (r := rj) (by rfl) m1 (HRJ.out _ hbc) (by rw [HL2.out]; omega) (by rw [← hUS.out]; exact hbc.size) ?_
          rintro g8 c8 Wv4 hrow hgr _ hkc hst
          have hst : Below U.heap.size Wv3 Wv4 := by rw [hUS.out]; exact hst
          replace hbc := hbc.trans hst
          clear hst hgr hkc m1 m7
          refine hK.out _ _ ?ka2213 (fun hHeld2 => ?_)
          case ka2213 => exact HS9.out Wv4 hbc
          clear hK K
          try simp only [Act.put, List.setIfInBounds_toArray, List.set_cons_zero, List.set_cons_succ]
          replace hHeld := hHeld2
          clear hHeld2
          refine wpAnyH_take (i := 14) (oi := ({ dst := some 16, op := Op.assign (Operand.tmp 99), type := 24, pos := "outright.go:85", after := #[{ on := 13, ground := Ground.data }, { on := 13, ground := Ground.chain }, { on := 0, ground := Ground.phase }, { on := 1, ground := Ground.phase }, { on := 2, ground := Ground.phase }, { on := 3, ground := Ground.phase }, { on := 4, ground := Ground.phase }, { on := 5, ground := Ground.phase }, { on := 6, ground := Ground.phase }, { on := 7, ground := Ground.phase }, { on := 8, ground := Ground.phase }, { on := 9, ground := Ground.phase }, { on := 10, ground := Ground.phase }, { on := 11, ground := Ground.phase }, { on := 12, ground := Ground.phase }, { on := 13, ground := Ground.phase }], guard := none } : Oper)) (v := ?ve2214) rfl (by kernel_rfl) (by kernel_rfl) (by kernel_rfl) (fun _ _ _ h => h) (Or.inl ⟨by rfl, ?he2214⟩) hHeld ?re2214
          case he2214 =>
            intro w hSw
            obtain ⟨s0, s1, s2, s3, s4, s5, s6, s7⟩ := hSw
            go_simp
            all_goals with_reducible rfl
          try simp only [Act.put, List.setIfInBounds_toArray, List.set_cons_zero, List.set_cons_succ]
          refine wpAnyH_done (by kernel_rfl) ?_ _
          go_wp2_with fail
          go_meet
          exact ⟨g8, c8, by rw [HL2.out], Lib.hid ⟨hrow, hbc⟩⟩
      case rest =>
      obtain ⟨g9, c9, rfl, HD⟩ := hcut
      have HV9 : Hid (Below W4.heap.size W4 wc) := Lib.hid (bTr (bTr HV.out HV5.out) HD.out.2)
      have hlen9 : (l2 ++ [rj]).length = a2 + 1 := by rw [List.length_append, HL2.out]; rfl
      have hsm9 : ∀ e ∈ l2 ++ [rj], e.n ≤ 100000 := fun e he => by
        rcases List.mem_append.1 he with h | h
        · exact HS2.out e h
        · rw [List.mem_singleton] at h; subst h; exact HS2.out _ HMEM.out
      have hch := check_any k u false (some ⟨g9, 0, none⟩) (l2 ++ [rj]) c9 A3 tn c3 T wc HD.out.1.rl (by rw [hlen9]; omega) hsm9 (by omega) (HRX.out _ HV9.out).2.2.1
      rw [hlen9] at hch
      have KC := Lib.hid hch
      have hx9 := (HRX.out wc HV9.out).1
      have x0 := hx9.cell 0 (.int .i64 k) rfl
      have x1 := hx9.cell 1 (.int .i64 u) rfl
      have x2 := hx9.cell 2 (.bool x) rfl
      have x3 := hx9.cell 3 (.slice (some ⟨b1, o1, none⟩) a2 c2) rfl
      clear hch hlen9 hsm9 hx9
      go_wp2_with fail
      refine KC.out.mono ?_
      rintro e w7 ⟨a3, f3', rfl, hca3, hB7⟩
      have HV7 : Hid (Below W4.heap.size W4 w7) := Lib.hid (bTr HV9.out hB7)
      have hln : (l2.map RL.val).length = a2 := by rw [List.length_map]; exact HL2.out
      have hmv : rj.val ∈ l2.map RL.val := List.mem_map.2 ⟨rj, HMEM.out, rfl⟩
      have hsn := (chk_snoc (r := rj.val) HCA.out (by rw [hln]; omega) (fun h => right_mem h hmv) (by rw [List.map_append] at hca3; exact hca3)).2 hmv
      rw [hln] at hsn
      obtain ⟨rfl, rfl⟩ := hsn
      have KW := Lib.hid (HAW.out w7)
      clear KC HD HV9 hca3 hB7 x0 x1 x2 x3 hln hmv
      go_wp2_with fail
      refine KW.out.mono ?_
      rintro e w8 ⟨rfl, hB8⟩
      go_wp2
      go_ret
      exact ⟨rfl, by rw [HBS.out]; exact (HRX.out _ (bTr HV7.out hB8)).2.2.2.2⟩
theorem of_laid {W : World} (h : laidMetH Tryz.prog Rows.validMoreRow.laid W) : True := trivial
end Go.Proofs.YtcmdmnnkbliggaaGreatDoor
