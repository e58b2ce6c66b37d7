/-
  formOf where no form fits: it panics; list.read: a panic is caught.
-/
import Derived.Test.YtebeoadmdflfcaaGreatDoorPk
import Derived.Defers
import Derived.Recover
namespace Go.Proofs.YtebeoadmdflfcaaGreatDoor
open Go.RowKit Go.Shelf
set_option linter.unusedVariables false

set_option maxRecDepth 100000 in
set_option maxHeartbeats 16000000 in
theorem formOf_none (b o n2 c2 : Nat) (W : Nat → List UInt8) (hW : ∀ i, i < n2 → (W i).length ≤ 100000) (hn2 : n2 ≤ 1000000) (hno : ∀ i, i < 42 → fitQ n2 W i = false) (w : World) (h2 : WdP w b o n2 W) (he : EnvR w) :
    Calls Tryz.prog 46 #[.slice (some ⟨b, o, none⟩) n2 c2] w fun e w' => e = .panicked [{ v := .iface 26 (.int .i64 13), recovered := false }] ∧ Below w.heap.size w w' := by
  obtain ⟨W0, hW0⟩ : ∃ X, w.alloc (.cells #[.int .u16 0, .string ⟨#[]⟩] 56) = X := ⟨_, rfl⟩
  have hb0 : Below w.heap.size w W0 := by rw [← hW0]; exact (Below.refl _ _).alloc (Nat.le_refl _) _
  have hz0 : W0.heap.size = w.heap.size + 1 := by rw [← hW0]; simp
  have r0 : RowC W0 w.heap.size #[.int .u16 0, .string ⟨#[]⟩] 56 := by rw [← hW0]; exact RowC.new _ _ _ _ rfl
  have HFM := Lib.hid (forms_any W0)
  have HOW := Lib.hid (ownFm W0)
  have HW2 := Lib.hid (h2.below hb0)
  have HE := Lib.hid (envR_on he hb0 (Nat.le_refl _))
  have HFIT := Lib.hid hno
  have HWL := Lib.hid hW
  have HB0 := Lib.hid hb0
  have HZ0 := Lib.hid hz0
  have HR0 := Lib.hid r0
  have HW0 := Lib.hid hW0
  clear hno h2 he hb0 hz0 r0 hW0 hW
  go_enter Tryz.func46, Tryz.ntmps46
  go_upto_region 1 with fail
  rw [HW0.out]
  go_wp2_with fail
  refine HFM.out.mono ?_
  rintro e w1 ⟨rfl, rfl⟩
  obtain ⟨W1, hW1⟩ : ∃ X, W0.alloc (.cells fmA 56) = X := ⟨_, rfl⟩
  have hb1 : Below W0.heap.size W0 W1 := by rw [← hW1]; exact (Below.refl _ _).alloc (Nat.le_refl _) _
  have ho1 := HOW.out
  rw [hW1] at ho1 ⊢
  have HO1 := Lib.hid (ho1.alloc (.cells #[.int .u16 0, .string ⟨#[46, 99, 111, 100, 101, 32, 67, 32, 84, 32, 70, 32, 75]⟩] 56))
  have HB1 := Lib.hid hb1
  clear hW1 ho1 hb1 HOW HFM HW0
  have h01 : Hid (W0.heap.size ≤ W1.heap.size) := Lib.hid HB1.out.size
  go_wp2_with (at_builtin; go_must (refine app_cells _ (by rfl) _ _ _ 56 (by rfl) Tryz.underlying52 infoFm (by rfl) (by decide) rfl HO1.out rfl (oneFm W1) (fun i _ => fmF_one _) (by decide) (by decide) (by have := h01.out; simp; omega) 42 rfl fmF (by intro i hi; unfold catC; split; rfl; next h => show fmF (82 + (i - 41 * 2)) = fmF i; rw [show 82 + (i - 41 * 2) = i by omega]) ?_
                                    rintro A7 c7 w7 hown7 hB7))
  obtain ⟨b7, o7, rfl, hb7, hc7⟩ := hown7.cel.at_ (by omega)
  have HC7 := Lib.hid hc7
  have HB7 := Lib.hid hB7
  clear hown7 hB7 hc7 HO1
  have hz7 : W0.heap.size ≤ w7.heap.size := by have h1 := HB7.out.size; have h2 := h01.out; simp at h1; omega
  have HBW : Hid (Below W0.heap.size W0 w7) := Lib.hid ((HB1.out.alloc HB1.out.size _).trans HB7.out)
  have HRR := Lib.hid (HR0.out.below HBW.out HR0.out.lt)
  have HWW := Lib.hid (HW2.out.below HBW.out)
  have HEE := Lib.hid (envR_on HE.out HBW.out (Nat.le_refl _))
  go_loopw [11] (fun i wr => ∃ q : Nat, q ≤ 42 ∧ i = .int .i64 q ∧ Below w7.heap.size w7 wr) (fun i _ => 42 - (intOf i).toNat)
  case atStart => exact ⟨0, by omega, rfl, Below.refl _ _⟩
  case round =>
    obtain ⟨q, hq, rfl, hB⟩ := hrel
    by_cases hlt : q < 42
    · have g1 : (q : Int) < 42 := by omega
      have g2 : (0 : Int) ≤ (q : Int) := by omega
      have m0 := (hB.cell (p := ⟨b7, o7 + q * 2, none⟩) hb7).trans (HC7.out (q * 2) (by omega))
      have m1 := (hB.cell (p := ⟨b7, o7 + (q * 2 + 1), none⟩) hb7).trans (HC7.out (q * 2 + 1) (by omega))
      rw [show fmF (q * 2) = .int .u16 (codeQ q : Nat) by unfold fmF; rw [if_pos (by omega), show q * 2 / 2 = q by omega]] at m0
      rw [show fmF (q * 2 + 1) = .string ⟨(patQ q).toArray⟩ by unfold fmF; rw [if_neg (by omega), show (q * 2 + 1) / 2 = q by omega]] at m1
      rw [← Nat.add_assoc] at m1
      have HFP := Lib.hid fun X h => fieldsP_any q (by omega) X h
      have HEQ := Lib.hid fun T X h1 h2 => eqQ_any q (by omega) T b o n2 c2 W HWL.out hn2 X h1 h2
      obtain ⟨x, hx⟩ : ∃ x, codeQ q = x := ⟨_, rfl⟩
      obtain ⟨p, hp⟩ : ∃ p : ByteArray, (⟨(patQ q).toArray⟩ : ByteArray) = p := ⟨_, rfl⟩
      obtain ⟨m, hm⟩ : ∃ m, fitQ n2 W q = m := ⟨_, rfl⟩
      obtain ⟨L, hL⟩ : ∃ m, (flds q).length = m := ⟨_, rfl⟩
      obtain ⟨G, hG⟩ : ∃ m, fldN q = m := ⟨_, rfl⟩
      have HM : Hid (m = false) := Lib.hid (by rw [← hm]; exact HFIT.out q hlt)
      rw [hp] at HFP
      rw [hm] at HEQ
      rw [hL, hG] at HFP HEQ
      rw [hx] at m0
      rw [hp] at m1
      have HB := Lib.hid hB
      clear hx hp hm hL hG hB
      go_wp2_with fail
      obtain ⟨WA, hWA⟩ : ∃ X, wr.alloc (.cells #[.int .u16 x, .string p] 56) = X := ⟨_, rfl⟩
      have hbA : Below wr.heap.size wr WA := by rw [← hWA]; exact (Below.refl _ _).alloc (Nat.le_refl _) _
      have rA : RowC WA wr.heap.size #[.int .u16 x, .string p] 56 := by rw [← hWA]; exact RowC.new _ _ _ _ rfl
      rw [hWA]
      have hb7A : Below w7.heap.size w7 WA := HB.out.trans (hbA.mono HB.out.size)
      refine (HFP.out WA (envR_on HEE.out hb7A (Nat.le_refl _))).mono ?_
      rintro e w2 ⟨rfl, hWd, hB2⟩
      have hb72 : Below w7.heap.size w7 w2 := hb7A.trans (hB2.mono hb7A.size)
      have HE2 := Lib.hid (HEQ.out _ w2 hWd (HWW.out.below hb72))
      have HR2 := Lib.hid (rA.below hB2 rA.lt)
      have HB72 := Lib.hid hb72
      clear hWA hbA rA hb7A hWd hB2 hb72
      go_wp2_with fail
      refine HE2.out.mono ?_
      rintro e w3 ⟨rfl, hB3⟩
      have hb73 : Below w7.heap.size w7 w3 := HB72.out.trans (hB3.mono HB72.out.size)
      have r3 := HR2.out.below hB3 HR2.out.lt
      have s3 := HRR.out.below hb73 HRR.out.lt
      have HB73 := Lib.hid hb73
      clear hB3 hb73
      obtain rfl := HM.out
      go_wp2
      exact ⟨⟨q + 1, by omega, by go_num, HB73.out⟩, by simp [intOf]; omega⟩
    · obtain rfl : q = 42 := by omega
      have HBE : Hid (Below w.heap.size w wr) := Lib.hid (HB0.out.trans ((HBW.out.mono HB0.out.size).trans (hB.mono (by have h1 := HBW.out.size; have h2 := HB0.out.size; omega))))
      go_wp2
      exact ⟨rfl, rfl, HBE.out⟩
/-- What reading a number wants: the two errors too. -/
structure EnvN (w : World) : Prop where
  r : EnvR w
  e1 : ∃ tp p, w.var? Tryz.prog "strconv.ErrSyntax" = some #[.iface tp p]
  e2 : ∃ tp p, w.var? Tryz.prog "strconv.ErrRange" = some #[.iface tp p]
theorem varL_on {n : String} {w w' : World} {B : Nat} {cs : Array Value} (h : w.var? Tryz.prog n = some cs) (hb : Below B w w') (hB : w.heap.size ≤ B) : w'.var? Tryz.prog n = some cs := by
  cases hg : Tryz.prog.globalNamed n with
  | none => simp [World.var?, hg] at h
  | some g =>
    have hlt : g < w.heap.size := by
      unfold World.var? at h
      rw [hg] at h
      simp only [Option.bind_some] at h
      rcases Nat.lt_or_ge g w.heap.size with h' | h'
      · exact h'
      · rw [Array.getElem?_eq_none h'] at h; simp at h
    exact var?_below hb hg (by omega) h
theorem envN_on {w w' : World} {B : Nat} (h : EnvN w) (hb : Below B w w') (hB : w.heap.size ≤ B) : EnvN w' := by
  obtain ⟨h0, ⟨t1, p1, h1⟩, ⟨t2, p2, h2⟩⟩ := h
  exact ⟨envR_on h0 hb hB, ⟨t1, p1, varL_on h1 hb hB⟩, ⟨t2, p2, varL_on h2 hb hB⟩⟩
theorem belowL_bytes (w : World) (e : TypeId) (s : ByteArray) : Below w.heap.size w (Lib.bytesWorld w e s) := ⟨rfl, rfl, rfl, by rw [Lib.bytesWorld_size]; omega, fun j hj => Lib.bytesWorld_at_old w e s j hj⟩
def Wd (wd : Nat) : Prop := wd = 8 ∨ wd = 16 ∨ wd = 32
theorem pu_ok (wd : Nat) (hw : Wd wd) (s : ByteArray) (hs : s.size ≤ 1000000) (u : Nat) (h : Lib.parseUintB wd s.data.toList = .ok u) (w : World) : Calls Tryz.prog 66 #[.string s, .int .i64 10, .int .i64 wd] w fun e w' => e = .returned (.tuple #[.int .u64 u, .nilIface]) ∧ Below w.heap.size w w' := by
  rcases hw with rfl | rfl | rfl
  · refine (Tryz.strconv_ParseUint_10_at8_ok s (by omega) u h w).mono ?_
    rintro e w' ⟨he, rfl | rfl⟩
    · exact ⟨he, Below.refl _ _⟩
    · exact ⟨he, belowL_bytes _ _ _⟩
  · refine (Tryz.strconv_ParseUint_10_at16_ok s (by omega) u h w).mono ?_
    rintro e w' ⟨he, rfl | rfl⟩
    · exact ⟨he, Below.refl _ _⟩
    · exact ⟨he, belowL_bytes _ _ _⟩
  · refine (Tryz.strconv_ParseUint_10_at32_ok s (by omega) u h w).mono ?_
    rintro e w' ⟨he, rfl | rfl⟩
    · exact ⟨he, Below.refl _ _⟩
    · exact ⟨he, belowL_bytes _ _ _⟩
theorem pu_bad (wd : Nat) (hw : Wd wd) (s : ByteArray) (hs : s.size ≤ 1000000) (h : ∀ u, Lib.parseUintB wd s.data.toList ≠ .ok u) (w : World) (hv : EnvN w) : Calls Tryz.prog 66 #[.string s, .int .i64 10, .int .i64 wd] w fun e w' => (∃ x t p, e = .returned (.tuple #[.int .u64 x, .iface t p])) ∧ Below w.heap.size w w' := by
  obtain ⟨_, ⟨t1, p1, h1⟩, ⟨t2, p2, h2⟩⟩ := hv
  have c1 := World.var?_cell (show Tryz.prog.globalNamed "strconv.ErrSyntax" = some 6 by kernel_rfl) h1 0
  have c2 := World.var?_cell (show Tryz.prog.globalNamed "strconv.ErrRange" = some 7 by kernel_rfl) h2 0
  cases hp : Lib.parseUintB wd s.data.toList with
  | ok u => exact absurd hp (h u)
  | «syntax» =>
    rcases hw with rfl | rfl | rfl
    · refine (Tryz.strconv_ParseUint_10_at8_syntax s (by omega) hp (.iface t1 p1) w c1 (.inr ⟨_, _, rfl⟩)).mono ?_
      rintro e w' ⟨N, he, _, _, hB⟩
      exact ⟨⟨_, _, _, he⟩, hB⟩
    · refine (Tryz.strconv_ParseUint_10_at16_syntax s (by omega) hp (.iface t1 p1) w c1 (.inr ⟨_, _, rfl⟩)).mono ?_
      rintro e w' ⟨N, he, _, _, hB⟩
      exact ⟨⟨_, _, _, he⟩, hB⟩
    · refine (Tryz.strconv_ParseUint_10_at32_syntax s (by omega) hp (.iface t1 p1) w c1 (.inr ⟨_, _, rfl⟩)).mono ?_
      rintro e w' ⟨N, he, _, _, hB⟩
      exact ⟨⟨_, _, _, he⟩, hB⟩
  | range =>
    rcases hw with rfl | rfl | rfl
    · refine (Tryz.strconv_ParseUint_10_at8_range s (by omega) hp (.iface t2 p2) w c2 (.inr ⟨_, _, rfl⟩)).mono ?_
      rintro e w' ⟨N, he, _, _, hB⟩
      exact ⟨⟨_, _, _, he⟩, hB⟩
    · refine (Tryz.strconv_ParseUint_10_at16_range s (by omega) hp (.iface t2 p2) w c2 (.inr ⟨_, _, rfl⟩)).mono ?_
      rintro e w' ⟨N, he, _, _, hB⟩
      exact ⟨⟨_, _, _, he⟩, hB⟩
    · refine (Tryz.strconv_ParseUint_10_at32_range s (by omega) hp (.iface t2 p2) w c2 (.inr ⟨_, _, rfl⟩)).mono ?_
      rintro e w' ⟨N, he, _, _, hB⟩
      exact ⟨⟨_, _, _, he⟩, hB⟩
/-- The number of a text of so many bits; or none. -/
def numW (wd : Nat) (l : List UInt8) : Option Nat := match Lib.parseUintB wd l with
  | .ok u => if dd u = l then some u else none
  | _ => none
abbrev badE : Ending := .panicked [{ v := .iface 26 (.int .i64 13), recovered := false }]
def numE (wd : Nat) (l : List UInt8) : Ending := match numW wd l with
  | some u => .returned (.int .u32 u)
  | none => badE
theorem toListM_ne {a b : ByteArray} (h : a ≠ b) : (a.toList != b.toList) = true := by
  rw [bne_iff_ne]
  intro e
  rw [Lib.toList_data, Lib.toList_data] at e
  exact h (ByteArray.ext (Array.toList_inj.1 e))
set_option maxRecDepth 100000 in
set_option maxHeartbeats 8000000 in
theorem numberOf_any (wd : Nat) (hw : Wd wd) (l : List UInt8) (hl : l.length ≤ 100000) (w : World) (he : EnvN w) :
    Calls Tryz.prog 52 #[.string ⟨l.toArray⟩, .int .i64 wd] w fun e w' => e = numE wd l ∧ Below w.heap.size w w' := by
  have hs : (⟨l.toArray⟩ : ByteArray).size ≤ 1000000 := by show l.toArray.size ≤ _; simp; omega
  unfold numE numW
  by_cases hp : ∃ u, Lib.parseUintB wd l = .ok u
  · obtain ⟨u, hp⟩ := hp
    have hle := Lib.parseUintB_le hp
    have hu : u < 4294967296 := by
      rcases hw with rfl | rfl | rfl <;> omega
    have HP := Lib.hid (pu_ok wd hw ⟨l.toArray⟩ hs u hp w)
    have HF : Hid (∀ W, Below w.heap.size w W → Calls Tryz.prog 43 #[.int .u64 u, .int .i64 10] W fun e w' => e = .returned (.string (dec u)) ∧ Below W.heap.size W w') := Lib.hid fun W hW => fmtU_any u (by omega) W (envN_on he hW (Nat.le_refl _)).r.env.tab
    have v0 : IntKind.u32.wrap (u : Int) = (u : Int) := IntWalk.u32_in _ (by omega)
    rw [hp]
    simp only []
    by_cases hd : dd u = l
    · rw [if_pos hd]
      have hS : dec u = (⟨l.toArray⟩ : ByteArray) := by rw [← hd]
      rw [hS] at HF
      clear hp hle hd hS hs he
      generalize (⟨l.toArray⟩ : ByteArray) = S at HP HF ⊢
      have e0 : (S.toList != S.toList) = false := by simp
      go_enter Tryz.func52, Tryz.ntmps52
      go_wp2_with fail
      refine HP.out.mono ?_
      rintro e w2 ⟨rfl, hB2⟩
      have HB2 := Lib.hid hB2
      clear hB2
      go_wp2_with (go_at_call 43; refine (HF.out _ HB2.out).mono ?_; rintro e w3 ⟨rfl, hB3⟩)
      go_ret
      exact ⟨rfl, HB2.out.trans (hB3.mono HB2.out.size)⟩
    · rw [if_neg hd]
      have hne : dec u ≠ (⟨l.toArray⟩ : ByteArray) := by
        intro e
        apply hd
        have e2 : (dec u).data.toList = (⟨l.toArray⟩ : ByteArray).data.toList := by rw [e]
        exact e2
      have e0 : ((dec u).toList == (⟨l.toArray⟩ : ByteArray).toList) = false := by simpa using toListM_ne hne
      clear hp hle hd hs he hne
      generalize (⟨l.toArray⟩ : ByteArray) = S at HP HF e0 ⊢
      generalize dec u = D at HF e0
      go_enter Tryz.func52, Tryz.ntmps52
      go_wp2_with fail
      refine HP.out.mono ?_
      rintro e w2 ⟨rfl, hB2⟩
      have HB2 := Lib.hid hB2
      clear hB2
      go_wp2_with (go_at_call 43; refine (HF.out _ HB2.out).mono ?_; rintro e w3 ⟨rfl, hB3⟩)
      exact ⟨rfl, rfl, HB2.out.trans (hB3.mono HB2.out.size)⟩
  · have hno : ∀ u, Lib.parseUintB wd l ≠ .ok u := fun u h => hp ⟨u, h⟩
    have HP := Lib.hid (pu_bad wd hw ⟨l.toArray⟩ hs hno w he)
    have hnone : (match Lib.parseUintB wd l with | .ok u => if dd u = l then some u else none | _ => none) = none := by
      split
      · rename_i u h; exact absurd h (hno u)
      · rfl
    rw [hnone]
    simp only []
    clear hp hno hnone hs he
    generalize (⟨l.toArray⟩ : ByteArray) = S at HP ⊢
    go_enter Tryz.func52, Tryz.ntmps52
    go_wp2_with fail
    refine HP.out.mono ?_
    rintro e w2 ⟨⟨x, t, p, rfl⟩, hB2⟩
    go_wp2
    exact ⟨rfl, rfl, hB2⟩
end Go.Proofs.YtebeoadmdflfcaaGreatDoor
