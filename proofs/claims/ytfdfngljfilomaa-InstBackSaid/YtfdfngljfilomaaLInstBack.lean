/-
  The statement of InstBack is proved: for every instructions and every bytes the law returns true. No condition.
-/
import Derived.Test.YtfdfngljfilomaaRows
import Derived.Test.YtfdfngljfilomaaIj
import Derived.Test.YtfdfngljfilomaaIf
import Derived.WalkKit
import Derived.ProofKit
import Derived.OpenShut
import Derived.ShutString
import Derived.ChangeOld
import Derived.Below
import Derived.Lib.SmallJoins
import Derived.Deep.RegionWith
namespace Go.Proofs.Ytfdfngljfilomaa
open Go.RowKit

theorem Byt.drew2 {w : World} {B n c : Nat} {A : Option Addr} {f : Nat → Nat} (h : Byt w B A n c f) : Byt w.drew B A n c f := h
theorem Ins.drew2 {w : World} {B n c : Nat} {A : Option Addr} {g : Nat → IV} (h : Ins w B A n c g) : Ins w.drew B A n c g := h
set_option maxRecDepth 100000 in
set_option maxHeartbeats 4000000 in
theorem back2_ok {w0 : World} (A : Option Addr) (n c : Nat) (g : Nat → IV) (hr : Ins w0 w0.heap.size A n c g) (C : Option Addr) (k d : Nat) (f : Nat → Nat) (hs : Byt w0 w0.heap.size C k d f) (hn : n ≤ 300) (hk : k ≤ 3000) :
    Calls Try.prog 12 #[.slice A n c, .slice C k d] w0 fun e w' => e = .returned (.bool true) ∧ Below w0.heap.size w0 w' := by
  have HD := Lib.hid (fun (W : World) A c (h : Byt W W.heap.size A (8 * n) c (wbytes g)) => read_ok A (8 * n) c (wbytes g) W (by omega) (by omega) h)
  have e8 : 8 * n / 8 = n := by omega
  rw [e8] at HD
  have HC := Lib.hid (icell_congr _ _ n (read_write g n hr.2))
  clear e8
  go_enter Try.func12, Try.ntmps12
  go_wp2_with fail
  refine (of2_any _ _ _ _ _ (by omega) hr).mono ?_
  rintro e w1 ⟨A1, c1, rfl, hown1, hB1⟩
  have hi1 : Ins w1 w1.heap.size A1 n c1 g := ⟨hown1.cel, hr.2⟩
  go_wp2_with fail
  refine (write_any _ _ _ _ _ (by omega) hi1).mono ?_
  rintro e w2 ⟨A2, c2, rfl, hown2, hB2⟩
  have hb2 := hB1.trans (hB2.mono hB1.size)
  go_wp2_with fail
  refine (HD.out _ _ _ hown2.byt).mono ?_
  rintro e w3 ⟨A3, c3, rfl, hown3, hB3⟩
  have hb3 := hb2.trans (hB3.mono hb2.size)
  go_wp2_with fail
  refine (told_yes _ _ _ _ _ g _ ⟨(hown3.congr HC.out).cel, hr.2⟩ ((hr.below hb3).more hb3.size)).mono ?_
  rintro e w4 ⟨rfl, hB4⟩
  have hb4 := hb3.trans (hB4.mono hb3.size)
  have hs4 := (hs.below hb4).more hb4.size
  by_cases h8 : k % 8 = 0
  · obtain ⟨m, rfl⟩ : ∃ m, k = 8 * m := ⟨k / 8, by omega⟩
    have HR := Lib.hid (read_ok C (8 * m) d f w4 (by omega) h8 hs4)
    have e8 : 8 * m / 8 = m := by omega
    rw [e8] at HR
    have HO : Hid (∀ i, i < m → (rg f i).ok) := fun i hi => rg_ok hs i (by omega)
    have HE := Lib.hid (sbytes_congr (8 * m) _ _ (write_read f m (fun j hj => hs.lt hj)))
    clear h8 e8
    go_wp2_with fail
    refine (HR.out).mono ?_
    rintro e w5 ⟨A5, c5, rfl, hown5, hB5⟩
    have hb5 := hb4.trans (hB5.mono hb4.size)
    have hi5 : Ins w5 w5.heap.size A5 m c5 (rg f) := ⟨hown5.cel, HO.out⟩
    have hsC := (hs4.below hB5).more hB5.size
    have hstr0 := str_of_byt (P := Try.prog) Try.underlying22 Try.underlying5 Try.underlying9 hsC.drew2
    generalize hS : sbytes (8 * m) f = S at hstr0
    have HS := Lib.hid hS
    clear hS
    go_wp2_with fail
    go_region_with (first
      | (go_at_call 28
         refine (write_any _ _ _ (rg f) _ (by omega) hi5.drew2).mono ?_
         rintro e w6 ⟨A6, c6, rfl, hown6, hB6⟩
         have hb6 : Below w0.heap.size w0 w6 := (hb5.drew).trans (hB6.mono hb5.size)
         have hstr1 := str_of_byt (P := Try.prog) Try.underlying22 Try.underlying5 Try.underlying9 hown6.byt
         have hstr2 := str_of_byt (P := Try.prog) Try.underlying22 Try.underlying5 Try.underlying9 (hsC.drew2.below hB6)
         rw [HE.out] at hstr1
         rw [HS.out] at hstr1 hstr2)
      | (go_at_call 27
         refine (awake2_any _).mono ?_
         rintro e w7 ⟨rfl, hB7⟩
         have hb7 := hb6.trans (hB7.mono hb6.size)))
    all_goals go_wp2
    all_goals go_ret
    all_goals exact ⟨rfl, hb7⟩
  · obtain ⟨E, hE, HR⟩ : ∃ E : Int, (E != 0) = true ∧ Hid (Calls Try.prog 31 #[.slice C k d] w4 fun e w' => e = .returned (.tuple #[.slice none 0 0, .int .i64 E]) ∧ w4 = w') := ⟨2, by decide, read_short C k d w4 (by omega) h8⟩
    clear h8
    go_wp2_with fail
    refine (HR.out).mono ?_
    rintro e w5 ⟨rfl, rfl⟩
    go_wp2_with fail
    first
      | (go_region_with (first
          | (go_at_call 27
             refine (awake2_any _).mono ?_
             rintro e w7 ⟨rfl, hB7⟩
             have hb7 := hb4.drew.trans (hB7.mono hb4.size))))
      | fail "region"
    all_goals go_wp2
    all_goals go_ret
    all_goals exact ⟨rfl, hb7⟩

set_option maxHeartbeats 1000000 in
theorem walk_InstBack {w0 : World} (A : Option Addr) (n c : Nat) (g : Nat → IV) (hr : Ins w0 w0.heap.size A n c g) (C : Option Addr) (k d : Nat) (f : Nat → Nat) (hs : Byt w0 w0.heap.size C k d f) :
    Calls Try.prog 12 #[.slice A n c, .slice C k d] w0 fun e w' => e = .returned (.bool true) ∧ Below w0.heap.size w0 w' := by
  have hmx := hr.1.le
  have hmy := hs.le
  unfold maxLen at hmx hmy
  obtain ⟨m1, m2⟩ := hmx
  obtain ⟨m3, m4⟩ := hmy
  by_cases h : 300 < n
  · go_enter Try.func12, Try.ntmps12
    go_wp2
    go_ret
    exact ⟨rfl, Below.refl _ _⟩
  · by_cases h' : 3000 < k
    · go_enter Try.func12, Try.ntmps12
      go_wp2
      go_ret
      exact ⟨rfl, Below.refl _ _⟩
    · exact back2_ok A n c g hr C k d f hs (by omega) (by omega)

namespace instBackRow
open Go.ChangeShapes Go.WideShapes Go.ChangeAt Go.RowKit Go.Joins
open Go.ChangeMaps (open_string shut_string)
set_option linter.unusedVariables false
theorem own : ownKnob Try.prog.godebug = none := by kernel_rfl
theorem laidOut : laidOutB Try.prog = true := by kernel_rfl
set_option maxRecDepth 100000 in
theorem lifted (os : Os) (started : os.Started) (H : Type) (enc : TypeId × Value → H) :
    ReturnsInHanded {} Try.checked os 12 .any (Rows.instBackSpec.pre6 enc Try.prog Try.f12 Rows.instBackRow.domain false) (Rows.instBackSpec.post enc Try.prog Try.f12 false true false false) := by
  refine returnsInHanded_of_change (C := Try.checked) own started (by kernel_rfl) Try.func12
    (ChangeSpec.witness6 (enc := enc) (C := Try.checked) false ⟨#[], #[.slice none 0 0, .slice none 0 0], []⟩ 8 (by kernel_rfl) (by kernel_rfl) (by kernel_rfl) (by kernel_rfl)) ?_
  intro W base args ds gs before hval0 hW hcnd _
  have hval : ∀ (j : Nat) t v, Try.f12.params[j]? = some t → args[j]? = some v → Value.okWide Try.prog W .any base t v := hval0
  have hW' := hW
  obtain ⟨p, q, hA0, hV, rfl, hfz, hnd⟩ := hW
  have hA : DataW.TrodAll enc Try.prog W 0 (fun _ => true) true Try.f12.params.toList args.toList ds p := hA0
  rw [Try.params12] at hA hval
  obtain ⟨v0, vs0, d0, ds0, p0, q0, hargs, rfl, rfl, h0, r0⟩ := trodAll_cons hA
  obtain ⟨v1, vs1, d1, ds1, p1, q1, rfl, rfl, rfl, h1, r1⟩ := trodAll_cons r0
  obtain ⟨rfl, rfl, rfl⟩ := trodAll_nil r1
  obtain rfl : args = #[v0, v1] := by cases args; simp_all
  obtain ⟨rfl, rfl⟩ := trodVars_none hV
  have k0 := h0
  have lt0 : ∀ x ∈ p0, x.block < W.heap.size := by obtain ⟨m, hm⟩ := k0; exact DataW.trod_lt m _ _ _ hm
  have k1 := h1
  have lt1 : ∀ x ∈ p1, x.block < W.heap.size := by obtain ⟨m, hm⟩ := k1; exact DataW.trod_lt m _ _ _ hm
  obtain ⟨a0, len0, cap0, rfl⟩ := okWide_slice Try.underlying55 (hval 0 55 v0 rfl rfl)
  obtain ⟨g0, w0⟩ := open_ins h0
  obtain ⟨a1, len1, cap1, rfl⟩ := okWide_slice Try.underlying22 (hval 1 22 v1 rfl rfl)
  obtain ⟨f1, w1⟩ : ∃ f, Byt W W.heap.size a1 len1 cap1 f := by
    obtain ⟨fuel, hf⟩ := h1
    rcases open_ints Try.underlying22 Try.underlying5 (by kernel_rfl) hf with ⟨hcs, _⟩ | ⟨x, l, c, zs, hcs, _, hl, hm, hz, _, hcell, hwz⟩
    · simp [Value.cells] at hcs
      obtain ⟨rfl, rfl, rfl⟩ := hcs
      exact ⟨fun _ => 0, Byt.nil_⟩
    · simp [Value.cells] at hcs
      obtain ⟨rfl, rfl, rfl⟩ := hcs
      exact ⟨_, byt_of_ints hl hm (by have : zs.length = cap1 := by simpa using hz
                                      omega) hcell hwz⟩
  clear hA0 hval0
  refine (walk_InstBack (w0 := W) a0 len0 cap0 g0 w0 a1 len1 cap1 f1 w1).mono fun e W' ⟨he, bel⟩ => ?_
  subst he
  exact ⟨_, rfl, _, _, _, [], _, [], hW', trodAll_mk1 (shut_bool Try.underlying4 _), (trodAll_cons_mk (Below.trod laidOut (by kernel_rfl) (of_decide_eq_true (by kernel_rfl)) k0 bel lt0) (trodAll_cons_mk (Below.trod laidOut (by kernel_rfl) (of_decide_eq_true (by kernel_rfl)) k1 bel lt1) trodAll_mk0)), rfl, bel.frame _, fun h => by cases h⟩

theorem over : Rows.instBackRow.holds Try.pinned (OpenSpec.ofChange Rows.instBackSpec) :=
  OpenClaim.holds_of_wide 12 Try.f12 rfl rfl rfl rfl rfl rfl rfl ⟨rfl, rfl, rfl, rfl, rfl⟩ rfl rfl rfl rfl rfl (by kernel_rfl) Try.func12 (by kernel_rfl)
    (of_decide_eq_true (by kernel_rfl)) (by unfold Func.isWrapper; first | (rw [if_pos (by decide +kernel)]; kernel_rfl) | (rw [if_neg (by decide +kernel)]; exact ⟨rfl, rfl⟩))
    (fun os started H enc _ => lifted os started H enc)
end instBackRow

theorem instBack_proved : Rows.InstBackSaid := instBackRow.over
#print axioms instBack_proved
end Go.Proofs.Ytfdfngljfilomaa
