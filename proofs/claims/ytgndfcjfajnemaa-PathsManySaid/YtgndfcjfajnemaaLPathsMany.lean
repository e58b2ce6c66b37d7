/-
  The law PathsMany holds for every input: of a row of branches each of which doubles them there are so many paths, up to 4096. No condition.
-/
import Derived.Test.YtgndfcjfajnemaaWyl
import Derived.Test.YtgndfcjfajnemaaRows
import Derived.Below
import Derived.ChangeOld
import Derived.ShutString
import Derived.OpenShut
import Derived.ProofKit
import Derived.WalkKit
import Derived.Deep.Slices
import Derived.Deep.Fields
import Derived.Lib.SmallJoins
namespace Go.Proofs.Ytgndfcjfajnemaa
open Go.RowKit Go.Shelf
set_option linter.unusedVariables false

def mB (i : Nat) : IV := if i = 0 then ⟨32, 0, 0, 0⟩ else ⟨69, 0, 0, 2 ^ (i - 1)⟩
def mG (k i : Nat) : IV := if i ≤ k then mB i else ⟨6, 0, 0, 0⟩
theorem mB_kd {i : Nat} (h : 1 ≤ i) : kd (mB i) = 28 ∧ (mB i).t = 0 ∧ (mB i).f = 0 := by
  unfold mB
  rw [if_neg (by omega)]
  exact ⟨by kernel_rfl, rfl, rfl⟩
theorem m_pN (k : Nat) : ∀ d m i, 1 ≤ i → i + d = k + 1 → d + 1 ≤ m → pN (mG k) m i = 2 ^ d := by
  intro d
  induction d with
  | zero =>
    intro m i h1 h2 h3
    obtain ⟨m, rfl⟩ : ∃ x, m = x + 1 := ⟨m - 1, by omega⟩
    rw [pN_s]
    have e : mG k i = ⟨6, 0, 0, 0⟩ := by unfold mG; rw [if_neg (by omega)]
    rw [e, if_pos (by decide +kernel)]
  | succ d ih =>
    intro m i h1 h2 h3
    obtain ⟨m, rfl⟩ : ∃ x, m = x + 1 := ⟨m - 1, by omega⟩
    have e : mG k i = mB i := by unfold mG; rw [if_pos (by omega)]
    obtain ⟨a, b, c⟩ := mB_kd h1
    rw [pN_s, e, a, b, c, if_neg (by decide), if_pos (by decide), ih m (i + 1 + 0) (by omega) (by omega) (by omega), Nat.pow_succ]
    omega
theorem m_cnt (k : Nat) : pN (mG k) (k + 2) 0 = 2 ^ k := by
  have e : mG k 0 = ⟨32, 0, 0, 0⟩ := by unfold mG; rw [if_pos (by omega)]; rfl
  rw [pN_s, e, if_neg (by decide +kernel), if_neg (by decide +kernel), if_neg (by decide +kernel)]
  exact m_pN k k (k + 1) (0 + 1) (by omega) (by omega) (by omega)
set_option maxRecDepth 100000 in
theorem m_plain : ∀ k, k < 15 → plainB (mG k) (k + 2) = true := by decide +kernel
theorem m_ok (k i : Nat) (hk : k < 15) : (mG k i).ok := by
  unfold mG
  split
  · unfold mB
    split
    · exact ⟨by decide, by decide, by decide, by decide⟩
    · refine ⟨Nat.lt_of_lt_of_le (show 69 < 70 by decide) (by decide), (show 0 < 256 by decide), (show 0 < 256 by decide), ?_⟩
      show 2 ^ (i - 1) < 4294967296
      exact Nat.lt_of_le_of_lt (Nat.pow_le_pow_right (by decide) (show i - 1 ≤ 14 by omega)) (by decide)
  · exact ⟨by decide, by decide, by decide, by decide⟩
theorem m_end (k : Nat) : ∀ i, i < (k + 1 + 1) * 4 → catC ((k + 1) * 4) (icell mB) (icell fun _ => ⟨6, 0, 0, 0⟩) i = icell (mG k) i := fun i hi => by
  have h := icell_cat (mG k) (k + 1) i hi
  rw [← h]
  have e : mG k (k + 1) = ⟨6, 0, 0, 0⟩ := by unfold mG; rw [if_neg (by omega)]
  rw [e]
  unfold catC
  split
  · have e2 : mG k (i / 4) = mB (i / 4) := by unfold mG; rw [if_pos (by omega)]
    unfold icell
    rw [e2]
  · rfl
theorem m_own (w : World) : OwnC (w.alloc (.cells #[.int .u16 32, .int .u8 0, .int .u8 0, .int .u32 0] 61)) w.heap.size 61 4 (some ⟨w.heap.size, 0, none⟩) 1 1 (icell mB) := by
  refine ⟨by simp, .inr ⟨w.heap.size, 1, _, rfl, Nat.le_refl _, heap_alloc_last w _, Nat.le_refl _, by decide, rfl, ?_⟩⟩
  rfl
theorem m_one (w : World) (v : Nat) (x : Int) (hx : x = (v : Int)) : Cel (w.alloc (.cells #[.int .u16 69, .int .u8 0, .int .u8 0, .int .u32 x] 61)) (w.heap.size + 1) 4 (some ⟨w.heap.size, 0, none⟩) 1 1 (icell fun _ => ⟨69, 0, 0, v⟩) := by subst hx; exact one_inst w ⟨69, 0, 0, v⟩ 61
theorem m_last (w : World) : Cel (w.alloc (.cells #[.int .u16 6, .int .u8 0, .int .u8 0, .int .u32 0] 61)) (w.heap.size + 1) 4 (some ⟨w.heap.size, 0, none⟩) 1 1 (icell fun _ => ⟨6, 0, 0, 0⟩) := one_inst w ⟨6, 0, 0, 0⟩ 61
theorem m_shl (j : Nat) (hj : j < 15) : (2 : Int) ^ j % 4294967296 = ((2 ^ j : Nat) : Int) := by
  match j, hj with
  | 0, _ | 1, _ | 2, _ | 3, _ | 4, _ | 5, _ | 6, _ | 7, _ | 8, _ | 9, _ | 10, _ | 11, _ | 12, _ | 13, _ | 14, _ => rfl
  | j + 15, h => omega
theorem m_shlI (j : Nat) (hj : j < 15) : ((2 ^ j : Nat) : Int) = wrap64 (2 ^ j) := by
  match j, hj with
  | 0, _ | 1, _ | 2, _ | 3, _ | 4, _ | 5, _ | 6, _ | 7, _ | 8, _ | 9, _ | 10, _ | 11, _ | 12, _ | 13, _ | 14, _ => unfold wrap64; decide
  | j + 15, h => omega
set_option maxRecDepth 100000 in
set_option maxHeartbeats 8000000 in
theorem walk_PathsMany {w0 : World} (a : Int) (ha : (Lit.int .u8 a).wf = true) :
    Calls Try.prog 6 #[.int .u8 a] w0 fun e w' => e = .returned (.bool true) ∧ Below w0.heap.size w0 w' := by
  simp [Lit.wf, IntKind.min, IntKind.max, IntKind.signed, IntKind.bits] at ha
  obtain ⟨a0, a1⟩ := ha
  obtain ⟨k, hk⟩ : ∃ r : Nat, a % 15 = (r : Int) := ⟨(a % 15).toNat, by omega⟩
  have hk15 : k < 15 := by omega
  have HO0 := Lib.hid (m_own w0)
  have HB0 : Hid (Below w0.heap.size w0 (w0.alloc (.cells #[.int .u16 32, .int .u8 0, .int .u8 0, .int .u32 0] 61))) := Lib.hid ((Below.refl _ _).alloc (Nat.le_refl _) _)
  have hp := Lib.hid (m_plain k hk15)
  have hc := Lib.hid (m_cnt k)
  go_enter Try.func6, Try.ntmps6
  go_wp2_with fail
  simp only [hk]
  go_loopw [4, 5] (fun x i wr => ∃ (j : Nat) (A' : Option Addr) (c' : Nat), j ≤ k ∧ i = .int .i64 j ∧ x = .slice A' (j + 1) c' ∧ Hid (OwnC wr w0.heap.size 61 4 A' (j + 1) c' (icell mB)) ∧ Hid (Below w0.heap.size w0 wr))
    (fun _ i _ => k - (intOf i).toNat)
  case atStart => exact ⟨0, some ⟨w0.heap.size, 0, none⟩, 1, Nat.zero_le _, rfl, rfl, HO0, HB0⟩
  case round =>
    clear HO0 HB0
    obtain ⟨j, A', c', hj, rfl, rfl, HO, HB⟩ := hrel
    have hs := HB.out.size
    by_cases hlt : j < k
    · have HSH : Hid ((2 : Int) ^ j % 4294967296 = ((2 ^ j : Nat) : Int)) := Lib.hid (m_shl j (by omega))
      have HCT : Hid (∀ i, i < (j + 1 + 1) * 4 → catC ((j + 1) * 4) (icell mB) (icell fun _ => ⟨69, 0, 0, 2 ^ j⟩) i = icell mB i) := Lib.hid (icell_cat mB (j + 1))
      have i1 : (j : Int) < (k : Int) := by omega
      go_wp2_with (at_builtin; go_must (refine app_cells _ rfl _ _ _ 61 rfl Try.underlying23 infoI rfl (by decide) rfl (HO.out.alloc _) rfl (m_one _ (2 ^ j) _ HSH.out) (fun i _ => icell_one _ i) (by unfold maxLen; omega) (by omega) (by simp; omega) (j + 1 + 1) rfl (icell mB) HCT.out ?_; rintro A2 c2 w2 hown2 hB2; have HO2 := Lib.hid hown2; have HB2 := Lib.hid ((HB.out.alloc hs _).trans hB2); clear hown2 hB2))
      exact ⟨⟨j + 1, A2, c2, by omega, by go_num, rfl, HO2, HB2⟩, by simp [intOf]; omega⟩
    · obtain rfl : j = k := by omega
      have i1 : ¬ (j : Int) < (j : Int) := by omega
      have HM := Lib.hid (m_end j)
      go_wp2_with (at_builtin; go_must (refine app_cells _ rfl _ _ _ 61 rfl Try.underlying23 infoI rfl (by decide) rfl (HO.out.alloc _) rfl (m_last _) (fun i _ => icell_one _ i) (by unfold maxLen; omega) (by omega) (by simp; omega) (j + 1 + 1) rfl (icell (mG j)) HM.out ?_; rintro A2 c2 w2 hown2 hB2; have HO2 := Lib.hid hown2; have HB2 := Lib.hid ((HB.out.alloc hs _).trans hB2); clear hown2 hB2))
      have HI : Hid (Ins w2 w2.heap.size A2 (j + 1 + 1) c2 (mG j)) := Lib.hid ⟨HO2.out.cel, fun i _ => m_ok j i hk15⟩
      clear HO2 HO HB
      refine (all_any _ _ _ _ _ HI.out).mono ?_
      rintro e w3 ⟨hR, hB3⟩
      have HB3 := Lib.hid (HB2.out.trans (hB3.mono HB2.out.size))
      clear hB3
      have hpl : plainB (mG j) (j + 1 + 1) = true := hp.out
      have hcn : pN (mG j) (j + 1 + 1) 0 = 2 ^ j := hc.out
      rcases hR with ⟨h0, _⟩ | ⟨_, hm, rfl⟩ | ⟨_, hm, A3, c3, S3, rfl, _⟩
      · rw [hpl] at h0; cases h0
      · have h12 : 12 < j := by
          rcases Nat.lt_or_ge 12 j with h | h
          · exact h
          · exfalso
            rw [hcn] at hm
            have := Nat.pow_le_pow_right (n := 2) (by decide) h
            omega
        have i2 : (j : Int) > 12 := by omega
        go_wp2_with (go_at_call 11; refine (awake27_any _).mono ?_; rintro e w5 ⟨rfl, hB5⟩; have HB5 := Lib.hid (HB3.out.trans (hB5.mono HB3.out.size)); clear hB5)
        go_ret
        exact ⟨rfl, HB5.out⟩
      · have h12 : ¬ 12 < j := by
          intro h
          rw [hcn] at hm
          have := Nat.pow_le_pow_right (n := 2) (by decide) (show 13 ≤ j by omega)
          omega
        have i2 : ¬ (j : Int) > 12 := by omega
        have hsh := m_shlI j (by omega)
        have hlen : (pF (mG j) (j + 1 + 1) 0 0 0 [] 0).length = 2 ^ j := by rw [pF_len]; exact hcn
        rw [hlen]
        obtain ⟨N, hN⟩ : ∃ N, 2 ^ j = N := ⟨_, rfl⟩
        rw [hN] at hsh
        rw [hN]
        clear hlen hm hcn hpl
        go_wp2_with (go_at_call 11; refine (awake27_any _).mono ?_; rintro e w5 ⟨rfl, hB5⟩; have HB5 := Lib.hid (HB3.out.trans (hB5.mono HB3.out.size)); clear hB5)
        go_ret
        exact ⟨rfl, HB5.out⟩


namespace pathsManyRow
open Go.ChangeShapes Go.WideShapes Go.ChangeAt Go.RowKit Go.Joins
open Go.ChangeMaps (open_string shut_string)
set_option linter.unusedVariables false
theorem own : ownKnob Try.prog.godebug = none := by kernel_rfl
theorem laidOut : laidOutB Try.prog = true := by kernel_rfl
set_option maxRecDepth 100000 in
theorem lifted (os : Os) (started : os.Started) (H : Type) (enc : TypeId × Value → H) :
    ReturnsInHanded {} Try.checked os 6 .any (Rows.pathsManySpec.pre6 enc Try.prog Try.f6 Rows.pathsManyRow.domain false) (Rows.pathsManySpec.post enc Try.prog Try.f6 false true false false) := by
  refine returnsInHanded_of_change (C := Try.checked) own started (by kernel_rfl) Try.func6
    (ChangeSpec.witness6 (enc := enc) (C := Try.checked) false ⟨#[], #[.int .u8 0], []⟩ 8 (by kernel_rfl) (by kernel_rfl) (by kernel_rfl) (by kernel_rfl)) ?_
  intro W base args ds gs before hval0 hW hcnd _
  have hval : ∀ (j : Nat) t v, Try.f6.params[j]? = some t → args[j]? = some v → Value.okWide Try.prog W .any base t v := hval0
  have hW' := hW
  obtain ⟨p, q, hA0, hV, rfl, hfz, hnd⟩ := hW
  have hA : DataW.TrodAll enc Try.prog W 0 (fun _ => true) true Try.f6.params.toList args.toList ds p := hA0
  rw [Try.params6] at hA hval
  obtain ⟨v0, vs0, d0, ds0, p0, q0, hargs, rfl, rfl, h0, r0⟩ := trodAll_cons hA
  obtain ⟨rfl, rfl, rfl⟩ := trodAll_nil r0
  obtain rfl : args = #[v0] := by cases args; simp_all
  obtain ⟨rfl, rfl⟩ := trodVars_none hV
  have k0 := h0
  have lt0 : ∀ x ∈ p0, x.block < W.heap.size := by obtain ⟨m, hm⟩ := k0; exact DataW.trod_lt m _ _ _ hm
  obtain ⟨a0, rfl, rfl, rfl, w0⟩ := open_int Try.underlying5 (hval 0 5 v0 rfl rfl) h0
  clear hA0 hval0
  refine (walk_PathsMany (w0 := W) a0 w0).mono fun e W' ⟨he, bel⟩ => ?_
  subst he
  exact ⟨_, rfl, _, _, _, [], _, [], hW', trodAll_mk1 (shut_bool Try.underlying4 _), (trodAll_cons_mk (Below.trod laidOut (by kernel_rfl) (of_decide_eq_true (by kernel_rfl)) k0 bel lt0) trodAll_mk0), rfl, bel.frame _, fun h => by cases h⟩

theorem over_inPlace : (Rows.pathsManyRow.inPlace == Try.prog.inPlace 6) = true := by kernel_rfl
theorem over_unfollowed : (Rows.pathsManyRow.unfollowed == Try.prog.unfollowed 6) = true := by kernel_rfl
theorem over_recurses : (Rows.pathsManyRow.recurses == Try.prog.recurses 6) = true := by kernel_rfl
theorem over_named : (Rows.pathsManyRow.named == Try.prog.varsNamed 6) = true := by kernel_rfl
theorem over_closed : joinedFacts Try.prog 6 Try.f6 Rows.pathsManySpec Rows.pathsManyRow = true := by
  unfold joinedFacts
  rw [over_inPlace, over_unfollowed, over_recurses, over_named, laidOut]
  kernel_rfl
theorem over_found : Try.prog.funcNamed Rows.pathsManyRow.func = some 6 := by kernel_rfl
theorem over : Rows.pathsManyRow.holds Try.pinned (OpenSpec.ofChange Rows.pathsManySpec) :=
  OpenClaim.holds_of_wide 6 Try.f6 rfl rfl rfl rfl rfl rfl rfl ⟨rfl, rfl, rfl, rfl, rfl⟩ rfl rfl rfl rfl rfl over_found Try.func6 over_closed
    (of_decide_eq_true (by kernel_rfl)) (by unfold Func.isWrapper; first | (rw [if_pos (by decide +kernel)]; kernel_rfl) | (rw [if_neg (by decide +kernel)]; exact ⟨rfl, rfl⟩))
    (fun os started H enc _ => lifted os started H enc)
end pathsManyRow

theorem pathsMany_proved : Rows.PathsManySaid := pathsManyRow.over
#print axioms pathsMany_proved
end Go.Proofs.Ytgndfcjfajnemaa
