/-
  The law PathsTell holds for every input: all paths of any program, in order, or why there are none. No condition.
-/
import Derived.Test.YtmndolojfdekdaaWz2
import Derived.Test.YtmndolojfdekdaaWym
import Derived.Test.YtmndolojfdekdaaIf
import Derived.Test.YtmndolojfdekdaaRows
import Derived.Below
import Derived.ChangeOld
import Derived.ShutString
import Derived.Lib.SmallJoins
import Derived.OpenShut
import Derived.ProofKit
import Derived.WalkKit
import Derived.Deep.RegionHeld3
namespace Go.Proofs.Ytmndolojfdekdaa
open Go.RowKit Go.Shelf
set_option linter.unusedVariables false

/-- A path's cells. -/
theorem pts_at {w : World} {A : Option Addr} {c : Nat} {L : List PV} {S : Nat → Option Addr × Nat} (h : Pths w A c L S) {k : Nat} (hk : k < L.length) {v : PV} (hv : L[k]! = v) : ∃ b off, A = some ⟨b, off, none⟩ ∧ b < w.heap.size ∧
    w.cell? ⟨b, off + k * 3, none⟩ = some (.slice (S k).1 v.ts.length (S k).2) ∧ w.cell? ⟨b, off + k * 3 + 1, none⟩ = some (.int .i64 v.st) ∧ w.cell? ⟨b, off + k * 3 + 2, none⟩ = some (.int .u32 v.v) ∧ Cel w w.heap.size 5 (S k).1 v.ts.length (S k).2 (tscell fun j => v.ts[j]!) := by
  subst hv
  obtain ⟨b, off, rfl, hb, hc⟩ := h.1.at_ (by omega)
  refine ⟨b, off, rfl, hb, ?_, ?_, ?_, h.2 k hk⟩
  · have := hc (k * 3) (by omega)
    rw [this]
    unfold pvcell
    rw [if_pos (by omega), show k * 3 / 3 = k by omega]
  · have := hc (k * 3 + 1) (by omega)
    rw [← Nat.add_assoc] at this
    rw [this]
    unfold pvcell
    rw [if_neg (by omega), if_pos (by omega), show (k * 3 + 1) / 3 = k by omega]
  · have := hc (k * 3 + 2) (by omega)
    rw [← Nat.add_assoc] at this
    rw [this]
    unfold pvcell
    rw [if_neg (by omega), if_neg (by omega), show (k * 3 + 2) / 3 = k by omega]
set_option maxRecDepth 100000 in
set_option maxHeartbeats 8000000 in
theorem walk_PathsTell {w0 : World} (A : Option Addr) (n c : Nat) (g : Nat → IV) (hr : Ins w0 w0.heap.size A n c g) :
    Calls Try.prog 4 #[.slice A n c] w0 fun e w' => e = .returned (.bool true) ∧ Below w0.heap.size w0 w' := by
  by_cases h1 : 40 < n
  · have j1 : (n : Int) > 40 := by omega
    clear hr
    go_enter Try.func4, Try.ntmps4
    go_wp2
    go_ret
    exact ⟨rfl, Below.refl _ _⟩
  · have j1 : ¬ (n : Int) > 40 := by omega
    have HI0 := Lib.hid hr
    clear hr
    go_enter Try.func4, Try.ntmps4
    go_wp2_with fail
    refine (all27_any A n c g _ (by omega) HI0.out).mono ?_
    rintro e w2 ⟨A2, c2, rfl, hown2, hB2⟩
    have HI2 : Hid (Ins w2 w2.heap.size A2 n c2 g) := Lib.hid ⟨hown2.cel, HI0.out.2⟩
    have HB2 := Lib.hid hB2
    have HIl2 := Lib.hid ((HI0.out.below hB2).more hB2.size)
    clear hown2 hB2
    go_wp2_with fail
    refine (all_any A2 n c2 g _ HI2.out).mono ?_
    rintro e w3 ⟨hR, hB3⟩
    have HB3 := Lib.hid (HB2.out.trans (hB3.mono HB2.out.size))
    have HI3 := Lib.hid ((HI2.out.below hB3).more hB3.size)
    have HIl3 := Lib.hid ((HIl2.out.below hB3).more hB3.size)
    have HRP := Lib.hid (rplain_any A n c g w3 HIl3.out (by omega))
    clear hB3 HI2 HIl2 HI0 HB2
    rcases hR with ⟨hp, rfl⟩ | ⟨hp, hm, rfl⟩ | ⟨hp, hm, A3, c3, S3, rfl, hP3⟩
    · rw [hp] at HRP
      have HPL : Hid (∀ W, Below w3.heap.size w3 W → Calls Try.prog 22 #[.slice A2 n c2] W fun e w' => e = .returned (.bool false) ∧ Below W.heap.size W w') := Lib.hid fun W hW => by
        have h := plain_any A2 n c2 g W ((HI3.out.below hW).more hW.size)
        rw [hp] at h
        exact h
      clear hp
      go_wp2_with (first
        | (go_at_call 21; refine HRP.out.mono ?_; rintro e w4 ⟨rfl, hB4⟩; have HB4 := Lib.hid hB4; clear hB4)
        | (go_at_call 22; refine (HPL.out _ HB4.out).mono ?_; rintro e w5 ⟨rfl, hB5⟩; have HB5 := Lib.hid (HB3.out.trans ((HB4.out.trans (hB5.mono HB4.out.size)).mono HB3.out.size)); clear hB5)
        | (go_at_call 23; refine (awake27_any _).mono ?_; rintro e w6 ⟨rfl, hB6⟩; have HB6 := Lib.hid (HB5.out.trans (hB6.mono HB5.out.size)); clear hB6))
      go_ret
      exact ⟨rfl, HB6.out⟩
    all_goals
      have HPL : Hid (∀ W, Below w3.heap.size w3 W → Calls Try.prog 22 #[.slice A2 n c2] W fun e w' => e = .returned (.bool true) ∧ Below W.heap.size W w') := Lib.hid fun W hW => by
        have h := plain_any A2 n c2 g W ((HI3.out.below hW).more hW.size)
        rw [hp] at h
        exact h
      have HMN : Hid (∀ W, Below w3.heap.size w3 W → Calls Try.prog 24 #[.slice A n c] W fun e w' => (∃ B, e = .returned (.slice (some ⟨B, 0, none⟩) n n) ∧ w'.cell? ⟨B, 0, none⟩ = some (.int .i64 ((min (pN g n 0) 5000 : Nat) : Int))) ∧ Below W.heap.size W w') := Lib.hid fun W hW => many_any A n c g W ((HIl3.out.below hW).more hW.size) hp
      have hn0 : (0 : Int) < (n : Int) := by have := (plainB_facts hp).1.pos; omega
      have i00 : (0 : Int) ≤ 0 := Int.le_refl _
    · rw [hp] at HRP
      obtain ⟨z, hz⟩ : ∃ z, min (pN g n 0) 5000 = z := ⟨_, rfl⟩
      rw [hz] at HMN
      have hz1 : (z : Int) > 4096 := by omega
      clear hp hm hz
      go_wp2_with (first
        | (go_at_call 21; refine HRP.out.mono ?_; rintro e w4 ⟨rfl, hB4⟩; have HB4 := Lib.hid hB4; clear hB4)
        | (go_at_call 22; refine (HPL.out _ HB4.out).mono ?_; rintro e w5 ⟨rfl, hB5⟩; have HB5 := Lib.hid (HB4.out.trans (hB5.mono HB4.out.size)); clear hB5)
        | (go_at_call 24; refine (HMN.out _ HB5.out).mono ?_; rintro e w6 ⟨⟨B, rfl, m0⟩, hB6⟩; have HB6 := Lib.hid (HB3.out.trans ((HB5.out.trans (hB6.mono HB5.out.size)).mono HB3.out.size)); clear hB6)
        | (go_at_call 23; refine (awake27_any _).mono ?_; rintro e w7 ⟨rfl, hB7⟩; have HB7 := Lib.hid (HB6.out.trans (hB7.mono HB6.out.size)); clear hB7))
      go_ret
      exact ⟨rfl, HB7.out⟩
    · rw [hp] at HRP
      obtain ⟨hF, hk, _⟩ := plainB_facts hp
      obtain ⟨z, hz⟩ : ∃ z, min (pN g n 0) 5000 = z := ⟨_, rfl⟩
      rw [hz] at HMN
      have hz1 : ¬ (z : Int) > 4096 := by omega
      have hlen : (pF g n 0 0 0 [] 0).length ≤ 4096 := by rw [pF_len]; exact hm
      have hok := pF_ok hF hk HIl3.out.2 n 0 0 0 [] 0 hF.pos (by decide) (by decide) (fun x hx => by cases hx)
      have HFR : Hid (∀ W, Below w3.heap.size w3 W → Calls Try.prog 25 #[.slice A n c, .int .i64 0, .int .i64 0, .int .u32 0, .slice none 0 0, .int .i64 0] W fun e w' => ∃ A' c' S', e = .returned (.slice A' (pF g n 0 0 0 [] 0).length c') ∧ Pths w' A' c' (pF g n 0 0 0 [] 0) S' ∧ Below W.heap.size W w') := Lib.hid fun W hW =>
        (from_all g n A c hF hk n 0 0 0 [] 0 W none 0 hF.pos (by omega) (by decide) (by decide) (by omega) (by simp; omega) (by omega) ((HIl3.out.below hW).more hW.size) Cel.nil_ (fun b e => by cases e)).mono fun e w' ⟨A', c', S', h1, h2, h3⟩ => ⟨A', c', S', h1, h2.pths h3.size, h3⟩
      obtain ⟨L, hL⟩ : ∃ L, pF g n 0 0 0 [] 0 = L := ⟨_, rfl⟩
      rw [hL] at hP3 hlen hok HFR
      rw [hL]
      have HOK := Lib.hid hok
      have HP3 := Lib.hid hP3
      obtain ⟨N, hN⟩ : ∃ N, L.length = N := ⟨_, rfl⟩
      rw [hN] at hlen HFR
      rw [hN]
      have t1 : ((N : Int) != (N : Int)) = false := by simp
      clear hp hm hF hk hok hL hP3 hz
      go_wp2_with (first
        | (go_at_call 21; refine HRP.out.mono ?_; rintro e w4 ⟨rfl, hB4⟩; have HB4 := Lib.hid hB4; clear hB4)
        | (go_at_call 22; refine (HPL.out _ HB4.out).mono ?_; rintro e w5 ⟨rfl, hB5⟩; have HB5 := Lib.hid (HB4.out.trans (hB5.mono HB4.out.size)); clear hB5)
        | (go_at_call 24; refine (HMN.out _ HB5.out).mono ?_; rintro e w6 ⟨⟨B, rfl, m0⟩, hB6⟩; have HB6 := Lib.hid (HB5.out.trans (hB6.mono HB5.out.size)); clear hB6)
        | (go_at_call 25; refine (HFR.out _ HB6.out).mono ?_; rintro e w7 ⟨A7, c7, S7, rfl, hP7, hB7⟩; have HP7 := Lib.hid hP7; have HC7 := Lib.hid (HB6.out.trans (hB7.mono HB6.out.size)); have HB7 := Lib.hid (HB3.out.trans (HC7.out.mono HB3.out.size)); clear hB7 hP7))
      have HP3 := Lib.hid (HP3.out.keep HC7.out)
      go_loopw [7] (fun i wr => ∃ k : Nat, k ≤ N ∧ i = .int .i64 k ∧ Hid (Below w7.heap.size w7 wr)) (fun i _ => N - (intOf i).toNat)
      case atStart => exact ⟨0, Nat.zero_le _, rfl, Lib.hid (Below.refl _ _)⟩
      case round =>
        clear m0
        obtain ⟨k, hk, rfl, HBr⟩ := hrel
        have hsr := HBr.out.size
        by_cases hlt : k < N
        · obtain ⟨v, hv⟩ : ∃ v, L[k]! = v := ⟨_, rfl⟩
          obtain ⟨b, off, rfl, hbl, q0, q1, q2, hts⟩ := pts_at (HP3.out.keep HBr.out) (hN ▸ hlt) hv
          obtain ⟨b', off', rfl, hbl', r0, r1, r2, hts'⟩ := pts_at (HP7.out.keep HBr.out) (hN ▸ hlt) hv
          have hvm : v ∈ L := by rw [← hv, getElem!_pos L k (by omega)]; exact List.getElem_mem _
          obtain ⟨ho1, ho2, ho3⟩ := HOK.out v hvm
          have ho2 : v.ts.length ≤ 1000000 := by have : ([] : List TV).length + n ≤ 40 := by simp; omega
                                                 omega
          have HSM : Hid (∀ W, Below wr.heap.size wr W → Calls Try.prog 26 #[.agg #[.slice (S3 k).1 v.ts.length (S3 k).2, .int .i64 v.st, .int .u32 v.v], .agg #[.slice (S7 k).1 v.ts.length (S7 k).2, .int .i64 v.st, .int .u32 v.v]] W fun e w' => e = .returned (.bool true) ∧ Below W.heap.size W w') := Lib.hid fun W hW =>
            same27_any (S3 k).1 (S7 k).1 (S3 k).2 (S7 k).2 v.ts.length v.st v.v (fun j => v.ts[j]!) W ho2 ((hts.below hW).more hW.size) ((hts'.below hW).more hW.size)
          obtain ⟨ts, vs, vv⟩ := v
          dsimp only at q0 q1 q2 r0 r1 r2 HSM
          generalize ts.length = tl at *
          have i1 : (0 : Int) ≤ (k : Int) := by omega
          have i2 : (k : Int) < (N : Int) := by omega
          have HM : Hid (∀ W, Below wr.heap.size wr W → (W.cell? ⟨b, off + k * 3, none⟩ = some (.slice (S3 k).1 tl (S3 k).2) ∧ W.cell? ⟨b, off + k * 3 + 1, none⟩ = some (.int .i64 vs) ∧ W.cell? ⟨b, off + k * 3 + 2, none⟩ = some (.int .u32 vv)) ∧ W.cell? ⟨b', off' + k * 3, none⟩ = some (.slice (S7 k).1 tl (S7 k).2) ∧ W.cell? ⟨b', off' + k * 3 + 1, none⟩ = some (.int .i64 vs) ∧ W.cell? ⟨b', off' + k * 3 + 2, none⟩ = some (.int .u32 vv)) := Lib.hid fun W hW => ⟨⟨(hW.cell (p := ⟨b, off + k * 3, none⟩) hbl).trans q0, (hW.cell (p := ⟨b, off + k * 3 + 1, none⟩) hbl).trans q1, (hW.cell (p := ⟨b, off + k * 3 + 2, none⟩) hbl).trans q2⟩, (hW.cell (p := ⟨b', off' + k * 3, none⟩) hbl').trans r0, (hW.cell (p := ⟨b', off' + k * 3 + 1, none⟩) hbl').trans r1, (hW.cell (p := ⟨b', off' + k * 3 + 2, none⟩) hbl').trans r2⟩
          clear hts hts' ho1 ho2 ho3 hvm hv q0 q1 q2 r0 r1 r2
          go_wp2
          go_region_held3 (fun w' => (w'.cell? ⟨b, off + k * 3, none⟩ = some (.slice (S3 k).1 tl (S3 k).2) ∧ w'.cell? ⟨b, off + k * 3 + 1, none⟩ = some (.int .i64 vs) ∧ w'.cell? ⟨b, off + k * 3 + 2, none⟩ = some (.int .u32 vv)) ∧ w'.cell? ⟨b', off' + k * 3, none⟩ = some (.slice (S7 k).1 tl (S7 k).2) ∧ w'.cell? ⟨b', off' + k * 3 + 1, none⟩ = some (.int .i64 vs) ∧ w'.cell? ⟨b', off' + k * 3 + 2, none⟩ = some (.int .u32 vv))
            (first | (with_reducible exact HM.out _ (by assumption)) | exact HM.out _ (Below.refl _ _) | exact HM.out _ (Below.refl _ _).drew)
            (first | (go_at_call 26; (refine (HSM.out _ (Below.refl _ _).drew).mono ?_); rintro e w9 ⟨rfl, hB9⟩; have HK9 : Below wr.heap.size wr w9 := (Below.refl _ _).drew.trans hB9))
          go_wp2
          exact ⟨⟨k + 1, by omega, by go_num, Lib.hid (HBr.out.trans (HK9.mono HBr.out.size))⟩, by simp [intOf]; omega⟩
        · obtain rfl : k = N := by omega
          have HBZ := Lib.hid (HB7.out.trans (HBr.out.mono HB7.out.size))
          go_wp2_with (go_at_call 23; refine (awake27_any _).mono ?_; rintro e w8 ⟨rfl, hB8⟩; have HB8 := Lib.hid (HBZ.out.trans (hB8.mono HBZ.out.size)); clear hB8)
          go_ret
          exact ⟨rfl, HB8.out⟩

namespace pathsTellRow
open Go.ChangeShapes Go.WideShapes Go.ChangeAt Go.RowKit Go.Joins
open Go.ChangeMaps (open_string shut_string)
set_option linter.unusedVariables false
theorem own : ownKnob Try.prog.godebug = none := by kernel_rfl
theorem laidOut : laidOutB Try.prog = true := by kernel_rfl
set_option maxRecDepth 100000 in
theorem lifted (os : Os) (started : os.Started) (H : Type) (enc : TypeId × Value → H) :
    ReturnsInHanded {} Try.checked os 4 .any (Rows.pathsTellSpec.pre6 enc Try.prog Try.f4 Rows.pathsTellRow.domain false) (Rows.pathsTellSpec.post enc Try.prog Try.f4 false true false false) := by
  refine returnsInHanded_of_change (C := Try.checked) own started (by kernel_rfl) Try.func4
    (ChangeSpec.witness6 (enc := enc) (C := Try.checked) false ⟨#[], #[.slice none 0 0], []⟩ 8 (by kernel_rfl) (by kernel_rfl) (by kernel_rfl) (by kernel_rfl)) ?_
  intro W base args ds gs before hval0 hW hcnd _
  have hval : ∀ (j : Nat) t v, Try.f4.params[j]? = some t → args[j]? = some v → Value.okWide Try.prog W .any base t v := hval0
  have hW' := hW
  obtain ⟨p, q, hA0, hV, rfl, hfz, hnd⟩ := hW
  have hA : DataW.TrodAll enc Try.prog W 0 (fun _ => true) true Try.f4.params.toList args.toList ds p := hA0
  rw [Try.params4] at hA hval
  obtain ⟨v0, vs0, d0, ds0, p0, q0, hargs, rfl, rfl, h0, r0⟩ := trodAll_cons hA
  obtain ⟨rfl, rfl, rfl⟩ := trodAll_nil r0
  obtain rfl : args = #[v0] := by cases args; simp_all
  obtain ⟨rfl, rfl⟩ := trodVars_none hV
  have k0 := h0
  have lt0 : ∀ x ∈ p0, x.block < W.heap.size := by obtain ⟨m, hm⟩ := k0; exact DataW.trod_lt m _ _ _ hm
  obtain ⟨a0, len0, cap0, rfl⟩ := okWide_slice Try.underlying22 (hval 0 22 v0 rfl rfl)
  obtain ⟨g0, w0⟩ := open_ins h0
  clear hA0 hval0
  refine (walk_PathsTell (w0 := W) a0 len0 cap0 g0 w0).mono fun e W' ⟨he, bel⟩ => ?_
  subst he
  exact ⟨_, rfl, _, _, _, [], _, [], hW', trodAll_mk1 (shut_bool Try.underlying4 _), (trodAll_cons_mk (Below.trod laidOut (by kernel_rfl) (of_decide_eq_true (by kernel_rfl)) k0 bel lt0) trodAll_mk0), rfl, bel.frame _, fun h => by cases h⟩

theorem over_inPlace : (Rows.pathsTellRow.inPlace == Try.prog.inPlace 4) = true := by kernel_rfl
theorem over_unfollowed : (Rows.pathsTellRow.unfollowed == Try.prog.unfollowed 4) = true := by kernel_rfl
theorem over_recurses : (Rows.pathsTellRow.recurses == Try.prog.recurses 4) = true := by kernel_rfl
theorem over_named : (Rows.pathsTellRow.named == Try.prog.varsNamed 4) = true := by kernel_rfl
theorem over_closed : joinedFacts Try.prog 4 Try.f4 Rows.pathsTellSpec Rows.pathsTellRow = true := by
  unfold joinedFacts
  rw [over_inPlace, over_unfollowed, over_recurses, over_named, laidOut]
  kernel_rfl
theorem over_found : Try.prog.funcNamed Rows.pathsTellRow.func = some 4 := by kernel_rfl
theorem over : Rows.pathsTellRow.holds Try.pinned (OpenSpec.ofChange Rows.pathsTellSpec) :=
  OpenClaim.holds_of_wide 4 Try.f4 rfl rfl rfl rfl rfl rfl rfl ⟨rfl, rfl, rfl, rfl, rfl⟩ rfl rfl rfl rfl rfl over_found Try.func4 over_closed
    (of_decide_eq_true (by kernel_rfl)) (by unfold Func.isWrapper; first | (rw [if_pos (by decide +kernel)]; kernel_rfl) | (rw [if_neg (by decide +kernel)]; exact ⟨rfl, rfl⟩))
    (fun os started H enc _ => lifted os started H enc)
end pathsTellRow

theorem pathsTell_proved : Rows.PathsTellSaid := pathsTellRow.over
#print axioms pathsTell_proved
end Go.Proofs.Ytmndolojfdekdaa
