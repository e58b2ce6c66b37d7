/-
  Layer 17: what the chapter's example says.
-/
import Derived.Test.YtcmdmnnkbliggaaGreatDoorP24
import Derived.Test.YtcmdmnnkbliggaaGreatDoorP28
import Derived.Test.YtcmdmnnkbliggaaGreatDoorP16
import Derived.Test.YtcmdmnnkbliggaaGreatDoorP27
import Derived.Deep.RegionHeld3
import Derived.Test.YtcmdmnnkbliggaaGreatDoorP15
import Derived.Test.YtcmdmnnkbliggaaGreatDoorRows
import Derived.Test.YtcmdmnnkbliggaaGreatDoorCards
import Derived.WalkKit
import Derived.ProofKit
import Derived.OpenShut
import Derived.Lay
import Derived.MakeChecks
import Derived.Lib.LaidTab
import Derived.Stop.LaidErr
namespace Go.Proofs.YtcmdmnnkbliggaaGreatDoor
open Go.RowKit Go.Shelf
set_option linter.unusedVariables false
set_option maxRecDepth 100000

abbrev rdText : ByteArray := ⟨#[100, 101, 102, 97, 117, 108, 116, 32, 107, 105, 108, 108, 10, 114, 101, 97, 100, 32, 97, 108, 108, 111, 119]⟩
abbrev rdLines : List (List (List UInt8)) := [[[100, 101, 102, 97, 117, 108, 116], [107, 105, 108, 108]], [[114, 101, 97, 100], [97, 108, 108, 111, 119]]]
theorem rdT_lines : linesF rdText.data.toList = (numF 1 rdLines, 0) := by kernel_rfl
theorem rd_pol : polL 1 0 false [rdR] = rdLines := by
  simp [polL, rulL, actL, cndsL, knA, kwA]
theorem rd_small : ∀ r ∈ [rdR], SmallV r := fun r hr => by
  have : r = rdR := by simpa using hr
  subst this
  intro c hc; cases hc
theorem parse_rd (w : World) (ht : TabP w) : Calls Tryz.prog 14 #[.string rdText] w (ParseP w 1 0 false [rdR]) :=
  parseP_ok rdText (by decide) rdLines (by rw [rdT_lines]) (by rw [rdT_lines, numF_ws]) (by decide) 1 0 false [rdR] (by rw [← rd_pol]; exact runs_lines false rd_right1 rd_small) w ht
/-- Which call a record is that is not multiplexed. -/
theorem call_at {T : Nat → SR} {n : Nat} {r : RecV} {sm : Bool} {ab : Nat} {nm : ByteArray} {mu : Bool} {a0 i : Nat} (hsel : selA r.a r.n = (a0, true)) (hne : a0 ≠ 2) (hi : i < n) (h1 : isNum T a0 (ownF a0 r.n : Nat) i = true) (h2 : ((List.range i).all fun j => !(isNum T a0 (ownF a0 r.n : Nat) j)) = true) (h : CallP T n r sm ab nm mu) : sm = true ∧ ab = a0 ∧ nm = (T i).nm ∧ mu = false := by
  rcases h with ⟨h3, _⟩ | ⟨_, h3, h4, ⟨h5, _⟩ | ⟨_, h6, h7⟩⟩
  · rw [hsel] at h3; cases h3
  · rw [hsel] at h4; exact absurd (h4.symm.trans h5) hne
  · rw [hsel] at h4
    subst h4
    refine ⟨h3, rfl, ?_, h6⟩
    refine NameOf.uniq h7 (.inl ⟨i, hi, h1, fun j hj => ?_, rfl⟩)
    have := List.all_eq_true.1 h2 j (List.mem_range.2 hj)
    simpa using this
abbrev recA : RecV := ⟨0, 3221225534, 0, fun _ => 0⟩
abbrev recB : RecV := ⟨63, 3221225715, 0, fun _ => 0⟩
abbrev recC : RecV := ⟨64, 3221225715, 0, fun _ => 0⟩
theorem recA_ok : recA.ok := ⟨by decide, by decide, by decide, fun i => by show 0 < _; decide⟩
theorem recB_ok : recB.ok := ⟨by decide, by decide, by decide, fun i => by show 0 < _; decide⟩
theorem recC_ok : recC.ok := ⟨by decide, by decide, by decide, fun i => by show 0 < _; decide⟩
theorem rdJ_is {r : RecV} {cc ee : Nat} (hj : JudP 1 0 false [rdR] tblT 83 r cc ee) : ee = 0 ∧ ∃ sm ab nm mu, CallP tblT 83 r sm ab nm mu ∧ cc = codeOf (actF 1 0 false [rdR] sm ab nm mu r.q) := by
  rcases hj with ⟨h, _⟩ | ⟨_, ⟨⟨p, q, h1, h2⟩, _⟩ | ⟨_, h1, h2⟩⟩
  · rw [rd_right1] at h; cases h
  · exact absurd (RightP.uniq h1 tbl_right15).2 h2
  · exact ⟨h1, h2⟩
theorem jud_recA {cc ee : Nat} (hj : JudP 1 0 false [rdR] tblT 83 recA cc ee) : cc = 2147418112 ∧ ee = 0 := by
  obtain ⟨rfl, sm, ab, nm, mu, hc, rfl⟩ := rdJ_is hj
  obtain ⟨rfl, rfl, rfl, rfl⟩ := call_at (a0 := 0) (i := 50) (by kernel_rfl) (by decide) (by decide) (by kernel_rfl) (by kernel_rfl) hc
  refine ⟨?_, rfl⟩
  rw [show (tblT 50).nm = rdS by kernel_rfl]
  rfl
theorem jud_recB {cc ee : Nat} (hj : JudP 1 0 false [rdR] tblT 83 recB cc ee) : cc = 2147418112 ∧ ee = 0 := by
  obtain ⟨rfl, sm, ab, nm, mu, hc, rfl⟩ := rdJ_is hj
  obtain ⟨rfl, rfl, rfl, rfl⟩ := call_at (a0 := 4) (i := 50) (by kernel_rfl) (by decide) (by decide) (by kernel_rfl) (by kernel_rfl) hc
  refine ⟨?_, rfl⟩
  rw [show (tblT 50).nm = rdS by kernel_rfl]
  rfl
theorem jud_recC {cc ee : Nat} (hj : JudP 1 0 false [rdR] tblT 83 recC cc ee) : cc = 2147483648 ∧ ee = 0 := by
  obtain ⟨rfl, sm, ab, nm, mu, hc, rfl⟩ := rdJ_is hj
  obtain ⟨rfl, rfl, rfl, rfl⟩ := call_at (a0 := 4) (i := 81) (by kernel_rfl) (by decide) (by decide) (by kernel_rfl) (by kernel_rfl) hc
  refine ⟨?_, rfl⟩
  rw [show (tblT 81).nm = ⟨#[119, 114, 105, 116, 101]⟩ by kernel_rfl]
  rfl
set_option maxHeartbeats 8000000 in
theorem awake17_any (w : World) (ht : TabP w) : Calls Tryz.prog 31 #[] w fun e w' => e = .returned (.bool true) ∧ Below w.heap.size w w' := by
  have HP := Lib.hid (parse_rd w ht)
  clear ht
  go_enter Tryz.func31, Tryz.ntmps31
  go_wp2_with fail
  refine HP.out.mono ?_
  rintro e w1 ⟨RA, rc, l, rfl, hown, hval, hB1⟩
  have hlen : l.length = 1 := by have := congrArg List.length hval; simpa using this
  have hrl := hown.rl
  have h12 : ∀ e ∈ l, e.n ≤ 100000 := fun e he => by
    have h1 : e.val ∈ [rdR] := by rw [← hval]; exact List.mem_map.2 ⟨e, he, rfl⟩
    have h2 : e.val = rdR := by simpa using h1
    have h3 : e.val.L.length = e.n := by simp [RL.val]
    rw [h2] at h3
    have : e.n = 0 := h3.symm
    omega
  have hsm : ∀ e ∈ l, SmallV e.val := fun e he => rd_small _ (by rw [← hval]; exact List.mem_map.2 ⟨e, he, rfl⟩)
  obtain ⟨X, hX⟩ : ∃ X, w1.heap.size = X := ⟨_, rfl⟩
  obtain ⟨W2, hW2⟩ : ∃ W, w1.alloc (.cells (polA 1 0 false RA 1 rc) 26) = W := ⟨_, rfl⟩
  have hB2 : Below w1.heap.size w1 W2 := by rw [← hW2]; exact (Below.refl _ _).alloc (Nat.le_refl _) _
  have hP2 : RowC W2 X (polA 1 0 false RA 1 rc) 26 := by rw [← hW2, ← hX]; exact RowC.new _ _ _ _ rfl
  have hrl2 := hrl.below hB2 (Nat.le_refl _)
  have KJ : Hid (∀ (r : RecV) (c0 : Nat), r.ok → (∀ {cc ee : Nat}, JudP 1 0 false [rdR] tblT 83 r cc ee → cc = c0 ∧ ee = 0) → ∀ W, Below W2.heap.size W2 W → ∀ b cc, Tb W b 0 83 tblT → Calls Tryz.prog 38 #[.agg #[.int .i64 1, .int .i64 0, .bool false, .slice RA 1 rc], .slice (some ⟨b, 0, none⟩) 83 cc, .agg (rcells r)] W fun e w' => e = .returned (.tuple #[.int .u32 c0, .int .i64 0]) ∧ Below W.heap.size W w') := Lib.hid fun r c0 hr hj W hW b cc htb => by
    have h := judge_any 1 0 false RA l rc (some ⟨b, 0, none⟩) 83 cc tblT r W (hrl2.below hW (Nat.le_refl _)) (by omega) h12 hsm (by decide) (.of htb) hr
    rw [hlen, hval] at h
    refine h.mono ?_
    rintro e w' ⟨c1, e1, rfl, hjp, hB⟩
    obtain ⟨rfl, rfl⟩ := hj hjp
    exact ⟨rfl, hB⟩
  have KJA : Hid (∀ W, Below W2.heap.size W2 W → ∀ b cc, Tb W b 0 83 tblT → Calls Tryz.prog 38 #[.agg #[.int .i64 1, .int .i64 0, .bool false, .slice RA 1 rc], .slice (some ⟨b, 0, none⟩) 83 cc, .agg #[.int .u32 0, .int .u32 3221225534, .int .u64 0, .int .u64 0, .int .u64 0, .int .u64 0, .int .u64 0, .int .u64 0, .int .u64 0]] W fun e w' => e = .returned (.tuple #[.int .u32 2147418112, .int .i64 0]) ∧ Below W.heap.size W w') := Lib.hid (KJ.out recA 2147418112 recA_ok jud_recA)
  have KJB : Hid (∀ W, Below W2.heap.size W2 W → ∀ b cc, Tb W b 0 83 tblT → Calls Tryz.prog 38 #[.agg #[.int .i64 1, .int .i64 0, .bool false, .slice RA 1 rc], .slice (some ⟨b, 0, none⟩) 83 cc, .agg #[.int .u32 63, .int .u32 3221225715, .int .u64 0, .int .u64 0, .int .u64 0, .int .u64 0, .int .u64 0, .int .u64 0, .int .u64 0]] W fun e w' => e = .returned (.tuple #[.int .u32 2147418112, .int .i64 0]) ∧ Below W.heap.size W w') := Lib.hid (KJ.out recB 2147418112 recB_ok jud_recB)
  have KJC : Hid (∀ W, Below W2.heap.size W2 W → ∀ b cc, Tb W b 0 83 tblT → Calls Tryz.prog 38 #[.agg #[.int .i64 1, .int .i64 0, .bool false, .slice RA 1 rc], .slice (some ⟨b, 0, none⟩) 83 cc, .agg #[.int .u32 64, .int .u32 3221225715, .int .u64 0, .int .u64 0, .int .u64 0, .int .u64 0, .int .u64 0, .int .u64 0, .int .u64 0]] W fun e w' => e = .returned (.tuple #[.int .u32 2147483648, .int .i64 0]) ∧ Below W.heap.size W w') := Lib.hid (KJ.out recC 2147483648 recC_ok jud_recC)
  have HM : Hid (∀ W, Below W2.heap.size W2 W → W.cell? ⟨X, 0, none⟩ = some (.int .i64 1) ∧ W.cell? ⟨X, 1, none⟩ = some (.int .i64 0) ∧ W.cell? ⟨X, 2, none⟩ = some (.bool false) ∧ W.cell? ⟨X, 3, none⟩ = some (.slice RA 1 rc)) := Lib.hid fun W hW => by
    have h := hP2.below hW hP2.lt
    exact ⟨h.cell 0 _ rfl, h.cell 1 _ rfl, h.cell 2 _ rfl, h.cell 3 _ rfl⟩
  have HB := Lib.hid (bTr hB1 hB2)
  have HW := Lib.hid hW2
  clear hB1 hown hrl hrl2 hB2 hP2 hval h12 hsm KJ HP
  rw [hlen]
  clear hlen
  go_upto_region 2 with fail
  (try rw [hX])
  (try rw [HW.out])
  clear hX hW2
  obtain ⟨m0, m1, m2, m3⟩ := HM.out W2 (Below.refl _ _)
  have HN : Hid (∀ W, Below W2.heap.size W2 W → W.cell? ⟨X, 0, none⟩ = some (.int .i64 1) ∧ W.cell? ⟨X, 1, none⟩ = some (.int .i64 0) ∧ W.cell? ⟨X, 2, none⟩ = some (.bool false) ∧ W.cell? ⟨X, 3, none⟩ = some (.slice RA 1 rc)) := Lib.hid fun W hW => HM.out W (hW)
  go_region_held3 (fun w' => w'.cell? ⟨X, 0, none⟩ = some (.int .i64 1) ∧ w'.cell? ⟨X, 1, none⟩ = some (.int .i64 0) ∧ w'.cell? ⟨X, 2, none⟩ = some (.bool false) ∧ w'.cell? ⟨X, 3, none⟩ = some (.slice RA 1 rc))
    (first | (with_reducible exact HN.out _ (by assumption)) | exact HN.out _ (Below.refl _ _) | exact HN.out _ (Below.refl _ _).drew)
    (first
      | (go_at_call 59
         refine (builtin_any _).mono ?_
         rintro e w7 ⟨b7, c7, rfl, ht7, hB7⟩
         have hk7 : Below W2.heap.size W2 w7 := (Below.refl _ _).drew.trans hB7)
      | (go_at_call 38
         refine (KJA.out _ (hk7) b7 c7 ht7).mono ?_
         rintro e v2 ⟨rfl, hB8⟩
         have hj2 : Below W2.heap.size W2 v2 := bTr hk7 hB8))
  have HV2 := Lib.hid hj2
  clear m0 m1 m2 m3 hk7 hB8 hB7 ht7 HN hj2
  go_upto_region 3 with fail
  obtain ⟨m0, m1, m2, m3⟩ := HM.out v2 HV2.out
  have HN : Hid (∀ W, Below v2.heap.size v2 W → W.cell? ⟨X, 0, none⟩ = some (.int .i64 1) ∧ W.cell? ⟨X, 1, none⟩ = some (.int .i64 0) ∧ W.cell? ⟨X, 2, none⟩ = some (.bool false) ∧ W.cell? ⟨X, 3, none⟩ = some (.slice RA 1 rc)) := Lib.hid fun W hW => HM.out W (bTr HV2.out hW)
  go_region_held3 (fun w' => w'.cell? ⟨X, 0, none⟩ = some (.int .i64 1) ∧ w'.cell? ⟨X, 1, none⟩ = some (.int .i64 0) ∧ w'.cell? ⟨X, 2, none⟩ = some (.bool false) ∧ w'.cell? ⟨X, 3, none⟩ = some (.slice RA 1 rc))
    (first | (with_reducible exact HN.out _ (by assumption)) | exact HN.out _ (Below.refl _ _) | exact HN.out _ (Below.refl _ _).drew)
    (first
      | (go_at_call 59
         refine (builtin_any _).mono ?_
         rintro e w7 ⟨b7, c7, rfl, ht7, hB7⟩
         have hk7 : Below v2.heap.size v2 w7 := (Below.refl _ _).drew.trans hB7)
      | (go_at_call 38
         refine (KJB.out _ (bTr HV2.out hk7) b7 c7 ht7).mono ?_
         rintro e v3 ⟨rfl, hB8⟩
         have hj3 : Below v2.heap.size v2 v3 := bTr hk7 hB8))
  have HV3 : Hid (Below W2.heap.size W2 v3) := Lib.hid (bTr HV2.out hj3)
  clear m0 m1 m2 m3 hk7 hB8 hB7 ht7 HN hj3
  go_upto_region 4 with fail
  obtain ⟨m0, m1, m2, m3⟩ := HM.out v3 HV3.out
  have HN : Hid (∀ W, Below v3.heap.size v3 W → W.cell? ⟨X, 0, none⟩ = some (.int .i64 1) ∧ W.cell? ⟨X, 1, none⟩ = some (.int .i64 0) ∧ W.cell? ⟨X, 2, none⟩ = some (.bool false) ∧ W.cell? ⟨X, 3, none⟩ = some (.slice RA 1 rc)) := Lib.hid fun W hW => HM.out W (bTr HV3.out hW)
  go_region_held3 (fun w' => w'.cell? ⟨X, 0, none⟩ = some (.int .i64 1) ∧ w'.cell? ⟨X, 1, none⟩ = some (.int .i64 0) ∧ w'.cell? ⟨X, 2, none⟩ = some (.bool false) ∧ w'.cell? ⟨X, 3, none⟩ = some (.slice RA 1 rc))
    (first | (with_reducible exact HN.out _ (by assumption)) | exact HN.out _ (Below.refl _ _) | exact HN.out _ (Below.refl _ _).drew)
    (first
      | (go_at_call 59
         refine (builtin_any _).mono ?_
         rintro e w7 ⟨b7, c7, rfl, ht7, hB7⟩
         have hk7 : Below v3.heap.size v3 w7 := (Below.refl _ _).drew.trans hB7)
      | (go_at_call 38
         refine (KJC.out _ (bTr HV3.out hk7) b7 c7 ht7).mono ?_
         rintro e v4 ⟨rfl, hB8⟩
         have hj4 : Below v3.heap.size v3 v4 := bTr hk7 hB8))
  have HV4 : Hid (Below W2.heap.size W2 v4) := Lib.hid (bTr HV3.out hj4)
  clear m0 m1 m2 m3 hk7 hB8 hB7 ht7 HN hj4
  go_wp2
  go_ret
  exact ⟨rfl, bTr HB.out HV4.out⟩
end Go.Proofs.YtcmdmnnkbliggaaGreatDoor

/-
  What a tied card's listed table gives the walk: the powers of ten.
-/
namespace Go.Proofs.YtcmdmnnkbliggaaGreatDoor
open Go.RowKit
set_option linter.unusedVariables false
set_option maxRecDepth 100000
theorem pow_datum : (Rows.laid_internal_strconv_uint64pow10 : DataW Unit) = Lib.tabData .u64 Lib.pow10Tab := by kernel_rfl
theorem tab_of_third {x y : String × DataW Unit} {rest : List (String × DataW Unit)} {W : World} (h : laidMet Tryz.prog (x :: y :: ("internal/strconv.uint64pow10", Rows.laid_internal_strconv_uint64pow10) :: rest) W) : TabP W := by
  have h2 := h.tail.tail
  rw [pow_datum] at h2
  obtain ⟨g, hg⟩ := gPow
  have : g = 1 := (Option.some.inj ((show Tryz.prog.globalNamed "internal/strconv.uint64pow10" = some 1 by kernel_rfl).symm.trans hg)).symm
  subst this
  exact Lib.tabIs_of_head (t := 343) (e := 59) (n := 20) hg (by kernel_rfl) Tryz.underlying343 Tryz.underlying59 (by kernel_rfl) (by kernel_rfl) h2

end Go.Proofs.YtcmdmnnkbliggaaGreatDoor
