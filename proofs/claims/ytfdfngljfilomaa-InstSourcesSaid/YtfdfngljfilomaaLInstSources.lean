/-
  The statement of InstSources is proved: for every two codes the law returns true. No condition.
-/
import Derived.Test.YtfdfngljfilomaaRows
import Derived.Test.YtfdfngljfilomaaId
import Derived.Test.YtfdfngljfilomaaLInstCodes
import Derived.WalkKit
import Derived.ProofKit
import Derived.OpenShut
import Derived.ShutString
import Derived.ChangeOld
import Derived.Below
import Derived.Lib.SmallJoins
namespace Go.Proofs.Ytfdfngljfilomaa
open Go.RowKit

/-- The codes that mean something. -/
def okL : List Int := aloneL ++ bothL ++ bothL.map (· + 8)
theorem of_ok (code : Int) (h0 : 0 ≤ code) (h1 : code ≤ 65535) (h : (ofF code).2.2 = true) : code ∈ okL := by
  unfold ofF at h
  unfold okL
  rcases ha : assoc codesKV code with _ | k
  · rw [ha] at h
    dsimp only at h
    split at h
    · rename_i hge
      unfold assoc at hge
      rcases hf : codesKV.find? (fun p => p.1 == (code - 8) % 65536) with _ | p
      · rw [hf] at hge; simp at hge
      · rw [hf] at hge
        have hp := List.mem_of_find?_eq_some hf
        have he : p.1 = (code - 8) % 65536 := by simpa using List.find?_some hf
        have hin := keys_big p hp (by simpa using hge)
        have hr := both_small p.1 hin
        have e : code = p.1 + 8 := by omega
        rw [e]
        exact List.mem_append_right _ (List.mem_map.2 ⟨p.1, hin, rfl⟩)
    · cases h
  · unfold assoc at ha
    obtain ⟨p, hf, _⟩ := Option.map_eq_some_iff.1 ha
    have hp := List.mem_of_find?_eq_some hf
    have he : p.1 = code := by simpa using List.find?_some hf
    rw [← he]
    rcases keys_in p hp with h | h
    · exact List.mem_append_left _ (List.mem_append_left _ h)
    · exact List.mem_append_left _ (List.mem_append_right _ h)
theorem below4 {w w1 w2 w3 w4 : World} (h1 : Below w.heap.size w w1) (h2 : Below w1.heap.size w1 w2) (h3 : Below w2.heap.size w2 w3) (h4 : Below w3.heap.size w3 w4) : Below w.heap.size w w4 := by
  have b2 := h1.trans (h2.mono h1.size)
  have b3 := b2.trans (h3.mono b2.size)
  exact b3.trans (h4.mono b3.size)
theorem src_apart : ∀ a ∈ okL, ∀ b ∈ okL, (ofF a).1 = (ofF b).1 → (ofF a).2.1 = (ofF b).2.1 → a = b := by decide +kernel
theorem src_eight : ∀ a ∈ okL, (ofF a).2.1 = false → 16 ≤ (ofF a).1 → a + 8 ≤ 65535 ∧ ofF (a + 8) = ((ofF a).1, true, true) := by decide +kernel

set_option maxRecDepth 100000 in
set_option maxHeartbeats 4000000 in
theorem walk_InstSources {w0 : World} (a : Int) (ha : (Lit.int .u16 a).wf = true) (b : Int) (hb : (Lit.int .u16 b).wf = true) :
    Calls Try.prog 14 #[.int .u16 a, .int .u16 b] w0 fun e w' => e = .returned (.bool true) ∧ Below w0.heap.size w0 w' := by
  simp [Lit.wf, IntKind.min, IntKind.max, IntKind.signed, IntKind.bits] at ha hb
  obtain ⟨a0, a1⟩ := ha
  obtain ⟨b0, b1⟩ := hb
  have hw : IntKind.u16.wrap (a + 8) = (a + 8) % 65536 := IntKind.wrap_u16 _
  have HO := Lib.hid (fun W => of_any a W a0 a1)
  have HP := Lib.hid (fun W => of_any b W b0 b1)
  have HQ := Lib.hid (fun W => of_any (IntKind.u16.wrap (a + 8)) W (by rw [hw]; omega) (by rw [hw]; omega))
  have f1 : (ofF a).2.2 = true → (ofF b).2.2 = true → (ofF a).1 = (ofF b).1 → (ofF a).2.1 = (ofF b).2.1 → a = b := fun h1 h2 => src_apart a (of_ok a a0 a1 h1) b (of_ok b b0 b1 h2)
  have f2 : (ofF a).2.2 = true → (ofF a).2.1 = false → 16 ≤ (ofF a).1 → (ofF (IntKind.u16.wrap (a + 8))).2.2 = true ∧ (ofF (IntKind.u16.wrap (a + 8))).1 = (ofF a).1 ∧ (ofF (IntKind.u16.wrap (a + 8))).2.1 = true := fun h1 h2 h3 => by
    obtain ⟨h4, h5⟩ := src_eight a (of_ok a a0 a1 h1) h2 h3
    rw [hw, Int.emod_eq_of_lt (by omega) (by omega), h5]
    exact ⟨rfl, rfl, rfl⟩
  clear hw
  generalize (ofF a).1 = k at *
  generalize (ofF a).2.1 = x at *
  generalize (ofF a).2.2 = ok at *
  generalize (ofF b).1 = j at *
  generalize (ofF b).2.1 = y at *
  generalize (ofF b).2.2 = is at *
  generalize (ofF (IntKind.u16.wrap (a + 8))).1 = m at *
  generalize (ofF (IntKind.u16.wrap (a + 8))).2.1 = z at *
  generalize (ofF (IntKind.u16.wrap (a + 8))).2.2 = too at *
  have F1 := Lib.hid f1
  have F2 := Lib.hid f2
  clear f1 f2
  rcases ok with _ | _
  · go_enter Try.func14, Try.ntmps14
    go_wp2_with fail
    refine (HO.out _).mono ?_
    rintro e w1 ⟨rfl, hB1⟩
    go_wp2_with fail
    refine (HP.out _).mono ?_
    rintro e w2 ⟨rfl, hB2⟩
    go_wp2_with fail
    refine (HQ.out _).mono ?_
    rintro e w3 ⟨rfl, hB3⟩
    go_wp2_with fail
    refine (awake2_any _).mono ?_
    rintro e w4 ⟨rfl, hB4⟩
    go_wp2
    go_ret
    exact ⟨rfl, below4 hB1 hB2 hB3 hB4⟩
  · rcases is with _ | _
    · clear F1
      rcases x with _ | _
      · by_cases h16 : k < 16
        · go_enter Try.func14, Try.ntmps14
          go_wp2_with fail
          refine (HO.out _).mono ?_
          rintro e w1 ⟨rfl, hB1⟩
          go_wp2_with fail
          refine (HP.out _).mono ?_
          rintro e w2 ⟨rfl, hB2⟩
          go_wp2_with fail
          refine (HQ.out _).mono ?_
          rintro e w3 ⟨rfl, hB3⟩
          go_wp2_with fail
          refine (awake2_any _).mono ?_
          rintro e w4 ⟨rfl, hB4⟩
          go_wp2
          go_ret
          exact ⟨rfl, below4 hB1 hB2 hB3 hB4⟩
        · obtain ⟨rfl, rfl, rfl⟩ := F2.out rfl rfl (by omega)
          go_enter Try.func14, Try.ntmps14
          go_wp2_with fail
          refine (HO.out _).mono ?_
          rintro e w1 ⟨rfl, hB1⟩
          go_wp2_with fail
          refine (HP.out _).mono ?_
          rintro e w2 ⟨rfl, hB2⟩
          go_wp2_with fail
          refine (HQ.out _).mono ?_
          rintro e w3 ⟨rfl, hB3⟩
          go_wp2_with fail
          refine (awake2_any _).mono ?_
          rintro e w4 ⟨rfl, hB4⟩
          go_wp2
          go_ret
          exact ⟨rfl, below4 hB1 hB2 hB3 hB4⟩
      · go_enter Try.func14, Try.ntmps14
        go_wp2_with fail
        refine (HO.out _).mono ?_
        rintro e w1 ⟨rfl, hB1⟩
        go_wp2_with fail
        refine (HP.out _).mono ?_
        rintro e w2 ⟨rfl, hB2⟩
        go_wp2_with fail
        refine (HQ.out _).mono ?_
        rintro e w3 ⟨rfl, hB3⟩
        go_wp2_with fail
        refine (awake2_any _).mono ?_
        rintro e w4 ⟨rfl, hB4⟩
        go_wp2
        go_ret
        exact ⟨rfl, below4 hB1 hB2 hB3 hB4⟩
    · by_cases hab : a = b
      · subst hab
        clear F1
        rcases x with _ | _
        · by_cases h16 : k < 16
          · go_enter Try.func14, Try.ntmps14
            go_wp2_with fail
            refine (HO.out _).mono ?_
            rintro e w1 ⟨rfl, hB1⟩
            go_wp2_with fail
            refine (HP.out _).mono ?_
            rintro e w2 ⟨rfl, hB2⟩
            go_wp2_with fail
            refine (HQ.out _).mono ?_
            rintro e w3 ⟨rfl, hB3⟩
            go_wp2_with fail
            refine (awake2_any _).mono ?_
            rintro e w4 ⟨rfl, hB4⟩
            go_wp2
            go_ret
            exact ⟨rfl, below4 hB1 hB2 hB3 hB4⟩
          · obtain ⟨rfl, rfl, rfl⟩ := F2.out rfl rfl (by omega)
            go_enter Try.func14, Try.ntmps14
            go_wp2_with fail
            refine (HO.out _).mono ?_
            rintro e w1 ⟨rfl, hB1⟩
            go_wp2_with fail
            refine (HP.out _).mono ?_
            rintro e w2 ⟨rfl, hB2⟩
            go_wp2_with fail
            refine (HQ.out _).mono ?_
            rintro e w3 ⟨rfl, hB3⟩
            go_wp2_with fail
            refine (awake2_any _).mono ?_
            rintro e w4 ⟨rfl, hB4⟩
            go_wp2
            go_ret
            exact ⟨rfl, below4 hB1 hB2 hB3 hB4⟩
        · go_enter Try.func14, Try.ntmps14
          go_wp2_with fail
          refine (HO.out _).mono ?_
          rintro e w1 ⟨rfl, hB1⟩
          go_wp2_with fail
          refine (HP.out _).mono ?_
          rintro e w2 ⟨rfl, hB2⟩
          go_wp2_with fail
          refine (HQ.out _).mono ?_
          rintro e w3 ⟨rfl, hB3⟩
          go_wp2_with fail
          refine (awake2_any _).mono ?_
          rintro e w4 ⟨rfl, hB4⟩
          go_wp2
          go_ret
          exact ⟨rfl, below4 hB1 hB2 hB3 hB4⟩
      · have hq : (a != b) = true := by simpa using hab
        by_cases hkj : k = j
        · subst hkj
          rcases y with _ | _
          · rcases x with _ | _
            · exact absurd (F1.out rfl rfl rfl rfl) hab
            · clear hab
              go_enter Try.func14, Try.ntmps14
              go_wp2_with fail
              refine (HO.out _).mono ?_
              rintro e w1 ⟨rfl, hB1⟩
              go_wp2_with fail
              refine (HP.out _).mono ?_
              rintro e w2 ⟨rfl, hB2⟩
              go_wp2_with fail
              refine (HQ.out _).mono ?_
              rintro e w3 ⟨rfl, hB3⟩
              go_wp2_with fail
              refine (awake2_any _).mono ?_
              rintro e w4 ⟨rfl, hB4⟩
              go_wp2
              go_ret
              exact ⟨rfl, below4 hB1 hB2 hB3 hB4⟩
          · rcases x with _ | _
            · clear hab
              by_cases h16 : k < 16
              · go_enter Try.func14, Try.ntmps14
                go_wp2_with fail
                refine (HO.out _).mono ?_
                rintro e w1 ⟨rfl, hB1⟩
                go_wp2_with fail
                refine (HP.out _).mono ?_
                rintro e w2 ⟨rfl, hB2⟩
                go_wp2_with fail
                refine (HQ.out _).mono ?_
                rintro e w3 ⟨rfl, hB3⟩
                go_wp2_with fail
                refine (awake2_any _).mono ?_
                rintro e w4 ⟨rfl, hB4⟩
                go_wp2
                go_ret
                exact ⟨rfl, below4 hB1 hB2 hB3 hB4⟩
              · obtain ⟨rfl, rfl, rfl⟩ := F2.out rfl rfl (by omega)
                go_enter Try.func14, Try.ntmps14
                go_wp2_with fail
                refine (HO.out _).mono ?_
                rintro e w1 ⟨rfl, hB1⟩
                go_wp2_with fail
                refine (HP.out _).mono ?_
                rintro e w2 ⟨rfl, hB2⟩
                go_wp2_with fail
                refine (HQ.out _).mono ?_
                rintro e w3 ⟨rfl, hB3⟩
                go_wp2_with fail
                refine (awake2_any _).mono ?_
                rintro e w4 ⟨rfl, hB4⟩
                go_wp2
                go_ret
                exact ⟨rfl, below4 hB1 hB2 hB3 hB4⟩
            · exact absurd (F1.out rfl rfl rfl rfl) hab
        · have hk : (k == j) = false := by simpa using hkj
          clear hkj hab F1
          rcases x with _ | _
          · by_cases h16 : k < 16
            · go_enter Try.func14, Try.ntmps14
              go_wp2_with fail
              refine (HO.out _).mono ?_
              rintro e w1 ⟨rfl, hB1⟩
              go_wp2_with fail
              refine (HP.out _).mono ?_
              rintro e w2 ⟨rfl, hB2⟩
              go_wp2_with fail
              refine (HQ.out _).mono ?_
              rintro e w3 ⟨rfl, hB3⟩
              go_wp2_with fail
              refine (awake2_any _).mono ?_
              rintro e w4 ⟨rfl, hB4⟩
              go_wp2
              go_ret
              exact ⟨rfl, below4 hB1 hB2 hB3 hB4⟩
            · obtain ⟨rfl, rfl, rfl⟩ := F2.out rfl rfl (by omega)
              go_enter Try.func14, Try.ntmps14
              go_wp2_with fail
              refine (HO.out _).mono ?_
              rintro e w1 ⟨rfl, hB1⟩
              go_wp2_with fail
              refine (HP.out _).mono ?_
              rintro e w2 ⟨rfl, hB2⟩
              go_wp2_with fail
              refine (HQ.out _).mono ?_
              rintro e w3 ⟨rfl, hB3⟩
              go_wp2_with fail
              refine (awake2_any _).mono ?_
              rintro e w4 ⟨rfl, hB4⟩
              go_wp2
              go_ret
              exact ⟨rfl, below4 hB1 hB2 hB3 hB4⟩
          · go_enter Try.func14, Try.ntmps14
            go_wp2_with fail
            refine (HO.out _).mono ?_
            rintro e w1 ⟨rfl, hB1⟩
            go_wp2_with fail
            refine (HP.out _).mono ?_
            rintro e w2 ⟨rfl, hB2⟩
            go_wp2_with fail
            refine (HQ.out _).mono ?_
            rintro e w3 ⟨rfl, hB3⟩
            go_wp2_with fail
            refine (awake2_any _).mono ?_
            rintro e w4 ⟨rfl, hB4⟩
            go_wp2
            go_ret
            exact ⟨rfl, below4 hB1 hB2 hB3 hB4⟩

namespace instSourcesRow
open Go.ChangeShapes Go.WideShapes Go.ChangeAt Go.RowKit Go.Joins
open Go.ChangeMaps (open_string shut_string)
set_option linter.unusedVariables false
theorem own : ownKnob Try.prog.godebug = none := by kernel_rfl
theorem laidOut : laidOutB Try.prog = true := by kernel_rfl
set_option maxRecDepth 100000 in
theorem lifted (os : Os) (started : os.Started) (H : Type) (enc : TypeId × Value → H) :
    ReturnsInHanded {} Try.checked os 14 .any (Rows.instSourcesSpec.pre6 enc Try.prog Try.f14 Rows.instSourcesRow.domain false) (Rows.instSourcesSpec.post enc Try.prog Try.f14 false true false false) := by
  refine returnsInHanded_of_change (C := Try.checked) own started (by kernel_rfl) Try.func14
    (ChangeSpec.witness6 (enc := enc) (C := Try.checked) false ⟨#[], #[.int .u16 0, .int .u16 0], []⟩ 8 (by kernel_rfl) (by kernel_rfl) (by kernel_rfl) (by kernel_rfl)) ?_
  intro W base args ds gs before hval0 hW hcnd _
  have hval : ∀ (j : Nat) t v, Try.f14.params[j]? = some t → args[j]? = some v → Value.okWide Try.prog W .any base t v := hval0
  have hW' := hW
  obtain ⟨p, q, hA0, hV, rfl, hfz, hnd⟩ := hW
  have hA : DataW.TrodAll enc Try.prog W 0 (fun _ => true) true Try.f14.params.toList args.toList ds p := hA0
  rw [Try.params14] at hA hval
  obtain ⟨v0, vs0, d0, ds0, p0, q0, hargs, rfl, rfl, h0, r0⟩ := trodAll_cons hA
  obtain ⟨v1, vs1, d1, ds1, p1, q1, rfl, rfl, rfl, h1, r1⟩ := trodAll_cons r0
  obtain ⟨rfl, rfl, rfl⟩ := trodAll_nil r1
  obtain rfl : args = #[v0, v1] := by cases args; simp_all
  obtain ⟨rfl, rfl⟩ := trodVars_none hV
  have k0 := h0
  have lt0 : ∀ x ∈ p0, x.block < W.heap.size := by obtain ⟨m, hm⟩ := k0; exact DataW.trod_lt m _ _ _ hm
  have k1 := h1
  have lt1 : ∀ x ∈ p1, x.block < W.heap.size := by obtain ⟨m, hm⟩ := k1; exact DataW.trod_lt m _ _ _ hm
  obtain ⟨a0, rfl, rfl, rfl, w0⟩ := open_int Try.underlying48 (hval 0 48 v0 rfl rfl) h0
  obtain ⟨a1, rfl, rfl, rfl, w1⟩ := open_int Try.underlying48 (hval 1 48 v1 rfl rfl) h1
  clear hA0 hval0
  refine (walk_InstSources (w0 := W) a0 w0 a1 w1).mono fun e W' ⟨he, bel⟩ => ?_
  subst he
  exact ⟨_, rfl, _, _, _, [], _, [], hW', trodAll_mk1 (shut_bool Try.underlying4 _), (trodAll_cons_mk (Below.trod laidOut (by kernel_rfl) (of_decide_eq_true (by kernel_rfl)) k0 bel lt0) (trodAll_cons_mk (Below.trod laidOut (by kernel_rfl) (of_decide_eq_true (by kernel_rfl)) k1 bel lt1) trodAll_mk0)), rfl, bel.frame _, fun h => by cases h⟩

theorem over : Rows.instSourcesRow.holds Try.pinned (OpenSpec.ofChange Rows.instSourcesSpec) :=
  OpenClaim.holds_of_wide 14 Try.f14 rfl rfl rfl rfl rfl rfl rfl ⟨rfl, rfl, rfl, rfl, rfl⟩ rfl rfl rfl rfl rfl (by kernel_rfl) Try.func14 (by kernel_rfl)
    (of_decide_eq_true (by kernel_rfl)) (by unfold Func.isWrapper; first | (rw [if_pos (by decide +kernel)]; kernel_rfl) | (rw [if_neg (by decide +kernel)]; exact ⟨rfl, rfl⟩))
    (fun os started H enc _ => lifted os started H enc)
end instSourcesRow

theorem instSources_proved : Rows.InstSourcesSaid := instSourcesRow.over
#print axioms instSources_proved
end Go.Proofs.Ytfdfngljfilomaa
