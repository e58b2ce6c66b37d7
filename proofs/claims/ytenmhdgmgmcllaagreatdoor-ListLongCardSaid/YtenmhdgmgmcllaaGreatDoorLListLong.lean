/-
  The law ListLong holds for every input: a text of more than 2^16 bytes is no program's, one of up to 2^16 blanks is. No condition.
-/
import Derived.Test.YtenmhdgmgmcllaaGreatDoorRows
import Derived.Test.YtenmhdgmgmcllaaGreatDoorCards
import Derived.Test.YtenmhdgmgmcllaaGreatDoorTie
import Derived.Test.YtenmhdgmgmcllaaGreatDoorPe
import Derived.Test.YtenmhdgmgmcllaaGreatDoorPi
import Derived.Test.YtenmhdgmgmcllaaGreatDoorPsh
import Derived.Test.YtenmhdgmgmcllaaGreatDoorTab
import Derived.Lay
import Derived.MakeChecks
import Derived.WalkKit
import Derived.ProofKit
import Derived.OpenShut
import Derived.ShutString
import Derived.ChangeOld
import Derived.Below
import Derived.Lib.SmallJoins
import Derived.SevenTiedAt
import Derived.LaidMore
import Derived.Stop.Joined
import Derived.Deep.Cut
import Derived.RegionTactic
import Derived.Deep.RegionHeld3
import Derived.Deep.CutRange
namespace Go.Proofs.YtenmhdgmgmcllaaGreatDoor
open Go.RowKit Go.Shelf
set_option linter.unusedVariables false


set_option maxRecDepth 100000 in
set_option maxHeartbeats 8000000 in
theorem long_go {w0 : World} (n : Nat) (hn : n < 256) (he : EnvL w0) :
    Calls Tryz.prog 3 #[.int .u8 n] w0 fun e w' => e = .returned (.bool true) ∧ Below w0.heap.size w0 w' := by
  have v0 : IntKind.i64.wrap (n : Int) = (n : Int) := IntWalk.i64_in _ (by omega)
  obtain ⟨r, hr⟩ : ∃ r, n % 40 = r := ⟨_, rfl⟩
  have hr40 : r < 40 := by omega
  have v1 : (n : Int).tmod 40 = (r : Int) := by rw [Int.tmod_eq_emod_of_nonneg (by omega)]; omega
  obtain ⟨k, hk⟩ : ∃ k : Nat, 65516 + r = k := ⟨_, rfl⟩
  have v2 : (65516 : Int) + (r : Int) = (k : Int) := by omega
  have hk1 : 65516 ≤ k := by omega
  have hk2 : k < 65556 := by omega
  obtain ⟨W1, hmk, hown, hB1⟩ := mk_oneL Tryz.underlying22 (show (Tryz.prog.info? 5).map (fun i => (i.zero, i.size, i.bytes)) = some (some (.int .u8 0), 1, 1) by kernel_rfl) rfl (by decide) k (by omega) w0
  have HO : Hid (OwnC W1 w0.heap.size 5 1 (some ⟨w0.heap.size, 0, none⟩) k k (fun i => if i < 0 then Value.int .u8 32 else Value.int .u8 0)) := Lib.hid (hown.congr fun i _ => by rw [if_neg (by omega)])
  have HB1 := Lib.hid hB1
  have HE := Lib.hid he
  have HAW : Hid (∀ W, Below w0.heap.size w0 W → Calls Tryz.prog 5 #[] W fun e w' => e = .returned (.bool true) ∧ Below W.heap.size W w') := Lib.hid fun W hW => awake3_any W (env_on HE.out hW (Nat.le_refl _))
  clear hr hown hB1 he hk
  go_enter Tryz.func3, Tryz.ntmps3
  go_wp2_with fail
  go_loopw [5] (fun i wr => ∃ q : Nat, q ≤ k ∧ i = .int .i64 q ∧ OwnC wr w0.heap.size 5 1 (some ⟨w0.heap.size, 0, none⟩) k k (fun i => if i < q then Value.int .u8 32 else Value.int .u8 0) ∧ Below w0.heap.size w0 wr)
    (fun i _ => k - (intOf i).toNat)
  case atStart => exact ⟨0, by omega, rfl, HO.out, HB1.out⟩
  case round =>
    clear hmk
    obtain ⟨q, hq, rfl, hown, hB⟩ := hrel
    have HOW := Lib.hid hown
    have HBB := Lib.hid hB
    by_cases hlt : q < k
    · obtain ⟨b, eb, _, _, hcs⟩ := hown.at_ (by omega)
      obtain rfl : w0.heap.size = b := by injection eb with eb; injection eb
      obtain ⟨p0, z0⟩ := hcs q (by omega)
      rw [if_neg (by omega)] at p0
      have g1 : (q : Int) < (k : Int) := by omega
      have g2 : (0 : Int) ≤ (q : Int) := by omega
      clear hcs eb hown hB
      go_wp2
      refine ⟨⟨q + 1, by omega, by go_num, (HOW.out.set_ (j := q) (.int .u8 32)).congr fun i _ => ?_, HBB.out.setCell (Nat.le_refl _) _⟩, by simp [intOf]; omega⟩
      by_cases hi : i = q
      · rw [if_pos hi, if_pos (by omega)]
      · rw [if_neg hi]
        by_cases hi2 : i < q
        · rw [if_pos hi2, if_pos (by omega)]
        · rw [if_neg hi2, if_neg (by omega)]
    · obtain rfl : q = k := by omega
      obtain ⟨b, eb, _, hbl, hcs⟩ := hown.at_ (by omega)
      obtain rfl : w0.heap.size = b := by injection eb with eb; injection eb
      have hby : Byt wr wr.heap.size (some ⟨w0.heap.size, 0, none⟩) q q (fun _ => 32) := Byt.mk_ hbl (Nat.le_refl _) (by unfold maxLen; omega) fun i hi => ⟨by
        have := (hcs i (by omega)).1
        rw [if_pos hi] at this
        rw [Nat.zero_add]
        exact this, by decide⟩
      have hstr := str_of_byt (P := Tryz.prog) Tryz.underlying22 Tryz.underlying5 Tryz.underlying9 hby
      have hsz := sbytes_size q fun _ => 32
      have hbk := sbytes_blank q
      obtain ⟨S, hS⟩ : ∃ S, (sbytes q fun _ => 32) = S := ⟨_, rfl⟩
      rw [hS] at hstr hsz hbk
      have g1 : ¬ (q : Int) < (q : Int) := by omega
      have g2 : decide ((q : Int) < (q : Int)) = false := decide_eq_false g1
      clear hcs eb hown hB hby hS HOW HO HB1 v0 v1 v2 hq
      by_cases hle : q ≤ 65536
      · have c1 : decide ((q : Int) > 65536) = false := decide_eq_false (by omega)
        have c2 : decide ((q : Int) ≤ 65536) = true := decide_eq_true (by omega)
        have c3 : ¬ (q : Int) > 65536 := by omega
        have c4 : (q : Int) ≤ 65536 := by omega
        have HPR := Lib.hid (progL_blank S hbk (by omega) wr (env_on HE.out HBB.out (Nat.le_refl _)))
        clear hbk hsz
        go_wp2_with fail
        refine HPR.out.mono ?_
        rintro e w2 ⟨rfl, hB2⟩
        have HB2 := Lib.hid (HBB.out.trans (hB2.mono HBB.out.size))
        have HX := Lib.hid (HAW.out w2 HB2.out)
        clear hB2 HPR HBB HAW hstr
        go_wp2_with fail
        refine HX.out.mono ?_
        rintro e w3 ⟨rfl, hB3⟩
        go_wp2
        go_ret
        exact ⟨rfl, HB2.out.trans (hB3.mono HB2.out.size)⟩
      · have c1 : decide ((q : Int) > 65536) = true := decide_eq_true (by omega)
        have c2 : decide ((q : Int) ≤ 65536) = false := decide_eq_false (by omega)
        have c3 : (q : Int) > 65536 := by omega
        have c4 : ¬ (q : Int) ≤ 65536 := by omega
        have HPR := Lib.hid (progL_long S (by omega) wr)
        clear hbk hsz
        go_wp2_with fail
        refine HPR.out.mono ?_
        rintro e w2 ⟨rfl, hB2⟩
        have HB2 := Lib.hid (HBB.out.trans (hB2.mono HBB.out.size))
        have HX := Lib.hid (HAW.out w2 HB2.out)
        clear hB2 HPR HBB HAW hstr
        go_wp2_with fail
        refine HX.out.mono ?_
        rintro e w3 ⟨rfl, hB3⟩
        go_wp2
        go_ret
        exact ⟨rfl, HB2.out.trans (hB3.mono HB2.out.size)⟩
theorem walk_ListLong {w0 : World} (v : Int) (hv : (Lit.int .u8 v).wf = true) (he : EnvL w0) :
    Calls Tryz.prog 3 #[.int .u8 v] w0 fun e w' => e = .returned (.bool true) ∧ Below w0.heap.size w0 w' := by
  simp [Lit.wf, IntKind.min, IntKind.max, IntKind.signed, IntKind.bits] at hv
  obtain ⟨x, rfl⟩ := Int.eq_ofNat_of_zero_le hv.1
  exact long_go x (by omega) he
theorem of_laid {W : World} (h : laidMetH Tryz.prog Rows.listLongRow.laid W) (hSh : W.ShapedOpen Tryz.prog) : EnvL W := by
  rw [MakeChecks.laidMetH_plain _ _ _ (by kernel_rfl)] at h
  exact env_of (tab_of_third h) hSh

namespace listLongRow
open Go.ChangeShapes Go.WideShapes Go.ChangeAt Go.RowKit Go.Joins
open Go.ChangeMaps (open_string shut_string)
set_option linter.unusedVariables false
theorem own : ownKnob Tryz.prog.godebug = none := by kernel_rfl
theorem laidOut : laidOutB Tryz.prog = true := by kernel_rfl
set_option maxRecDepth 100000 in
theorem lifted (os : Os) (started : os.Started) (H : Type) (enc : TypeId × Value → H) :
    ReturnsInHanded {} Tryz.checked os 3 .any (fun w args => (Rows.listLongSpec.pre enc Tryz.prog Tryz.f3 [] false w args ∧ laidMetH Tryz.prog Rows.listLongRow.laid w) ∧ sizedMet enc Tryz.prog Tryz.f3 (OpenSpec.ofChange Rows.listLongSpec) false w args) (Rows.listLongSpec.post enc Tryz.prog Tryz.f3 false true false false) := by
  refine returnsInHanded_and_shaped (C := Tryz.checked) (X := fun w _ => laidMetH Tryz.prog Rows.listLongRow.laid w) (fun _ _ _ hh h => h.of_heap hh) own started (by kernel_rfl) Tryz.func3
    (ChangeSpec.witness_shaped (enc := enc) (C := Tryz.checked) (os := os) (X := fun w _ => laidMetH Tryz.prog Rows.listLongRow.laid w) false (World.laidAll Tryz.prog os Rows.listLongRow.laid) #[.int .u8 0] 8 (World.laidAll_os _ _ _) (World.shaped_of_ZipB (by kernel_rfl) (by kernel_rfl)) (by kernel_rfl) (by kernel_rfl) (by kernel_rfl) (by rw [MakeChecks.laidMetH_plain _ _ _ (by kernel_rfl)]; exact laidMet_laidAll _ (by kernel_rfl) (by kernel_rfl))) ?_
  intro W base args ds gs before hval0 hW _ _ hL hSh _
  have hval : ∀ (j : Nat) t v, Tryz.f3.params[j]? = some t → args[j]? = some v → Value.okWide Tryz.prog W .any base t v := hval0
  have hW' := hW
  obtain ⟨p, q, hA0, hV, rfl, hfz, hnd⟩ := hW
  have hA : DataW.TrodAll enc Tryz.prog W 0 (fun _ => true) true Tryz.f3.params.toList args.toList ds p := hA0
  rw [Tryz.params3] at hA hval
  obtain ⟨v0, vs0, d0, ds0, p0, q0, hargs, rfl, rfl, h0, r0⟩ := trodAll_cons hA
  obtain ⟨rfl, rfl, rfl⟩ := trodAll_nil r0
  obtain rfl : args = #[v0] := by cases args; simp_all
  obtain ⟨rfl, rfl⟩ := trodVars_none hV
  have k0 := h0
  have lt0 : ∀ x ∈ p0, x.block < W.heap.size := by obtain ⟨m, hm⟩ := k0; exact DataW.trod_lt m _ _ _ hm
  obtain ⟨a0, rfl, rfl, rfl, w0⟩ := open_int Tryz.underlying5 (hval 0 5 v0 rfl rfl) h0
  clear hA0 hval0
  refine (walk_ListLong (w0 := W) a0 w0 (of_laid hL hSh)).mono fun e W' ⟨he, bel⟩ => ?_
  subst he
  exact ⟨_, rfl, _, _, _, [], _, [], hW', trodAll_mk1 (shut_bool Tryz.underlying4 _), (trodAll_cons_mk (Below.trod laidOut (by kernel_rfl) (of_decide_eq_true (by kernel_rfl)) k0 bel lt0) trodAll_mk0), rfl, bel.frame _, fun h => by cases h⟩

theorem over : Rows.listLongRow.holds Tryz.pinned (OpenSpec.ofChange Rows.listLongSpec) :=
  OpenClaim.holds_of_wide 3 Tryz.f3 rfl rfl rfl rfl rfl rfl rfl ⟨rfl, rfl, rfl, rfl, rfl⟩ rfl rfl rfl rfl rfl (by kernel_rfl) Tryz.func3 (by kernel_rfl)
    (of_decide_eq_true (by kernel_rfl)) (by unfold Func.isWrapper; first | (rw [if_pos (by decide +kernel)]; kernel_rfl) | (rw [if_neg (by decide +kernel)]; exact ⟨rfl, rfl⟩))
    (fun os started H enc _ => lifted os started H enc)
end listLongRow

theorem listLong_proved : Rows.ListLongCardSaid :=
  Claim7.holds_tied_plain_at .later [] [.data, .data, .data, .data, .sentinel, .sentinel, .listed, .data, .pinned] true Rows.listLongCard.stood.harness true
    listLongRow.over (fun _ h => by cases h) (by kernel_rfl) (fun _ h => by cases h) listLong_row_tie rfl ⟨rfl, rfl⟩ (by kernel_rfl) rfl
    (fun f fn hf hfn => by
      obtain rfl : f = 3 := Option.some.inj ((show Tryz.prog.funcNamed "strainer/strainerlaw03.ListLong" = some 3 by kernel_rfl).symm.trans hf) |>.symm
      obtain rfl : fn = Tryz.f3 := (Option.some.inj (Tryz.func3.symm.trans hfn)).symm
      exact ⟨by kernel_rfl, fun j t ht => by
        rw [Tryz.params3] at ht
        have hall : ∀ t ∈ [5], Tryz.prog.wantsStandIn t = false := by
          intro t ht
          simp only [List.mem_cons, List.not_mem_nil, or_false] at ht
          rcases ht with rfl <;> kernel_rfl
        exact hall t (by simpa using Array.mem_of_getElem? ht)⟩)
    (by kernel_rfl)
#print axioms listLong_proved
end Go.Proofs.YtenmhdgmgmcllaaGreatDoor
