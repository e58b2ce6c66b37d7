/-
  The contract of the document's Line of layer 3.
-/
import Derived.Test.YtebeoadmdflfcaaGreatDoorPf
import Derived.Deep.RegionHeld3
namespace Go.Proofs.YtebeoadmdflfcaaGreatDoor
open Go.RowKit Go.Shelf
set_option linter.unusedVariables false

theorem wrap1 (a b : UInt8) (k : List UInt8) : ((⟨#[a]⟩ : ByteArray) ++ ⟨k.toArray⟩) ++ ⟨#[b]⟩ = ⟨(a :: (k ++ [b])).toArray⟩ := by
  show ((⟨[a].toArray⟩ : ByteArray) ++ ⟨k.toArray⟩) ++ ⟨[b].toArray⟩ = _
  rw [txt_app, txt_app]; rfl
theorem wrap2 (a a' b : UInt8) (k : List UInt8) : ((⟨#[a, a']⟩ : ByteArray) ++ ⟨k.toArray⟩) ++ ⟨#[b]⟩ = ⟨(a :: a' :: (k ++ [b])).toArray⟩ := by
  show ((⟨[a, a'].toArray⟩ : ByteArray) ++ ⟨k.toArray⟩) ++ ⟨[b].toArray⟩ = _
  rw [txt_app, txt_app]; rfl
theorem wrap0 (a : UInt8) (k : List UInt8) : (⟨#[a]⟩ : ByteArray) ++ ⟨k.toArray⟩ = ⟨(a :: k).toArray⟩ := by
  show (⟨[a].toArray⟩ : ByteArray) ++ ⟨k.toArray⟩ = _
  rw [txt_app]; rfl
theorem other3_any (K : Nat) (h0 : 1 ≤ K) (h1 : K ≤ 28) (X : Bool) (k : List UInt8) (hk : k.length ≤ 20) (w : World) :
    Calls Tryz.prog 35 #[.int .i64 K, .bool X, .string ⟨k.toArray⟩] w fun e w' => e = .returned (.tuple #[.string ⟨(othL K X k).toArray⟩, .bool (othB K X)]) ∧ Below w.heap.size w w' := by
  have hs : (⟨k.toArray⟩ : ByteArray).size ≤ 20 := by rw [txt_size]; exact hk
  cases X
  · match K, h0, h1 with
    | 1, _, _ => have h := other_1 ⟨k.toArray⟩ hs w; rw [wrap1] at h; exact h
    | 2, _, _ => have h := other_2 ⟨k.toArray⟩ hs w; rw [wrap0] at h; exact h
    | 3, _, _ => have h := other_3 ⟨k.toArray⟩ hs w; rw [wrap2] at h; exact h
    | 4, _, _ => have h := other_4 ⟨k.toArray⟩ hs w; exact h
    | 5, _, _ => have h := other_5 ⟨k.toArray⟩ hs w; rw [wrap0] at h; exact h
    | 6, _, _ => have h := other_6 ⟨k.toArray⟩ hs w; rw [wrap2] at h; exact h
    | 7, _, _ => have h := other_7 ⟨k.toArray⟩ hs w; exact h
    | 8, _, _ => have h := other_8 ⟨k.toArray⟩ hs w; rw [wrap2] at h; exact h
    | 9, _, _ => have h := other_9 ⟨k.toArray⟩ hs w; rw [wrap2] at h; exact h
    | 10, _, _ => have h := other_10 ⟨k.toArray⟩ hs w; exact h
    | 11, _, _ => have h := other_11 ⟨k.toArray⟩ hs w; exact h
    | 12, _, _ => have h := other_12 ⟨k.toArray⟩ hs w; exact h
    | 13, _, _ => have h := other_13 ⟨k.toArray⟩ hs w; exact h
    | 14, _, _ => have h := other_14 ⟨k.toArray⟩ hs w; rw [wrap0] at h; exact h
    | 15, _, _ => have h := other_15 ⟨k.toArray⟩ hs w; exact h
    | 16, _, _ => have h := other_16 ⟨k.toArray⟩ hs w; rw [wrap0] at h; exact h
    | 17, _, _ => have h := other_17 ⟨k.toArray⟩ hs w; rw [wrap0] at h; exact h
    | 18, _, _ => have h := other_18 ⟨k.toArray⟩ hs w; rw [wrap0] at h; exact h
    | 19, _, _ => have h := other_19 ⟨k.toArray⟩ hs w; rw [wrap0] at h; exact h
    | 20, _, _ => have h := other_20 ⟨k.toArray⟩ hs w; rw [wrap0] at h; exact h
    | 21, _, _ => have h := other_21 ⟨k.toArray⟩ hs w; rw [wrap0] at h; exact h
    | 22, _, _ => have h := other_22 ⟨k.toArray⟩ hs w; rw [wrap0] at h; exact h
    | 23, _, _ => have h := other_23 ⟨k.toArray⟩ hs w; rw [wrap0] at h; exact h
    | 24, _, _ => have h := other_24 ⟨k.toArray⟩ hs w; rw [wrap0] at h; exact h
    | 25, _, _ => have h := other_25 ⟨k.toArray⟩ hs w; rw [wrap0] at h; exact h
    | 26, _, _ => have h := other_26 ⟨k.toArray⟩ hs w; rw [wrap0] at h; exact h
    | 27, _, _ => have h := other_27 ⟨k.toArray⟩ hs w; rw [wrap0] at h; exact h
    | 28, _, _ => have h := other_28 ⟨k.toArray⟩ hs w; rw [wrap0] at h; exact h
    | K + 29, _, h => omega
  · exact other_x K _ w
theorem othL_len (K : Nat) (X : Bool) (k : List UInt8) (hk : k.length ≤ 10) : (othL K X k).length ≤ 20 := by
  unfold othL
  cases X
  · simp only [Bool.false_eq_true, if_false]
    split <;> first | omega | (simp; done) | (simp; omega)
  · simp
theorem wordK_len : ∀ K, K < 29 → (wordK K).length ≤ 10 := by decide +kernel
theorem belT {w w' w'' : World} (h : Below w.heap.size w w') (h2 : Below w'.heap.size w' w'') : Below w.heap.size w w'' := h.trans (h2.mono h.size)
def anyL (c t f k : Nat) : List UInt8 := [46, 99, 111, 100, 101, 32] ++ (dd c ++ (32 :: (dd t ++ (32 :: (dd f ++ (32 :: dd k))))))
theorem anyL_eq (c t f k : Nat) : anyL c t f k = subst c t f k anyP := by simp [anyL, anyP, subst, mkv]
def condL (K : Nat) (X : Bool) (t f k : Nat) : Bool := (othB K X || k == 0) && (decide (25 ≤ K) || (t == 0 && f == 0))
def refL (K : Nat) (X : Bool) (c t f k : Nat) : List UInt8 :=
  if K ≠ 0 ∧ condL K X t f k = true then wordK K ++ ((if othL K X (dd k) = [] then [] else 32 :: othL K X (dd k)) ++ (if 25 ≤ K then 32 :: (dd t ++ (32 :: dd f)) else [])) else anyL c t f k
theorem dec_sz (n : Nat) (hn : n < 4294967296) : (dec n).size ≤ 10 := by
  have h := dd_len 9 n (by omega)
  rw [txt_size]
  exact h
theorem any_txt (c t f k : Nat) : ((((((⟨#[46, 99, 111, 100, 101, 32]⟩ : ByteArray) ++ dec c) ++ ⟨#[32]⟩) ++ dec t) ++ ⟨#[32]⟩) ++ dec f) ++ ⟨#[32]⟩ ++ dec k = ⟨(anyL c t f k).toArray⟩ := by
  show ((((((⟨[46, 99, 111, 100, 101, 32].toArray⟩ : ByteArray) ++ ⟨(dd c).toArray⟩) ++ ⟨[32].toArray⟩) ++ ⟨(dd t).toArray⟩) ++ ⟨[32].toArray⟩) ++ ⟨(dd f).toArray⟩) ++ ⟨[32].toArray⟩ ++ ⟨(dd k).toArray⟩ = _
  simp only [txt_app]
  unfold anyL
  simp only [List.append_assoc, List.cons_append, List.nil_append]
theorem jmp_txt (t f : Nat) (U : List UInt8) : (⟨U.toArray⟩ : ByteArray) ++ ((((⟨#[32]⟩ : ByteArray) ++ dec t) ++ ⟨#[32]⟩) ++ dec f) = ⟨(U ++ (32 :: (dd t ++ (32 :: dd f)))).toArray⟩ := by
  show (⟨U.toArray⟩ : ByteArray) ++ ((((⟨[32].toArray⟩ : ByteArray) ++ ⟨(dd t).toArray⟩) ++ ⟨[32].toArray⟩) ++ ⟨(dd f).toArray⟩) = _
  simp only [txt_app]
  simp only [List.append_assoc, List.cons_append, List.nil_append]
set_option maxRecDepth 100000 in
set_option maxHeartbeats 16000000 in
theorem refLine_any (K : Nat) (hK : K ≤ 28) (X : Bool) (c t f k : Nat) (hc : c < 65536) (ht : t < 256) (hf : f < 256) (hk : k < 4294967296) (hOf : ∀ W, Calls Tryz.prog 34 #[.int .u16 c] W fun e w' => e = .returned (.tuple #[.int .i64 K, .bool X]) ∧ Below W.heap.size W w') (w : World) :
    Calls Tryz.prog 19 #[.agg (instA c t f k)] w fun e w' => e = .returned (.string ⟨(refL K X c t f k).toArray⟩) ∧ Below w.heap.size w w' := by
  obtain ⟨W0, hW0⟩ : ∃ W, w.alloc (.cells (instA c t f k) 29) = W := ⟨_, rfl⟩
  have hb0 : Below w.heap.size w W0 := by rw [← hW0]; exact (Below.refl _ _).alloc (Nat.le_refl _) _
  have r0 : RowC W0 w.heap.size (instA c t f k) 29 := by rw [← hW0]; exact RowC.new _ _ _ _ rfl
  have zc := dec_sz c (by omega)
  have zt := dec_sz t (by omega)
  have zf := dec_sz f (by omega)
  have zk := dec_sz k hk
  have HDC := Lib.hid fun W => digL_any c (by omega) W
  have HDT := Lib.hid fun W => digL_any t (by omega) W
  have HDF := Lib.hid fun W => digL_any f (by omega) W
  have HDK := Lib.hid fun W => digL_any k hk W
  obtain ⟨R, hR⟩ : ∃ R : ByteArray, (⟨(refL K X c t f k).toArray⟩ : ByteArray) = R := ⟨_, rfl⟩
  have HAT := Lib.hid (any_txt c t f k)
  have HJT := Lib.hid fun U => jmp_txt t f U
  have hany : Hid ((K ≠ 0 ∧ condL K X t f k = true → False) → (((((((⟨#[46, 99, 111, 100, 101, 32]⟩ : ByteArray) ++ dec c) ++ ⟨#[32]⟩) ++ dec t) ++ ⟨#[32]⟩) ++ dec f) ++ ⟨#[32]⟩) ++ dec k = R) := Lib.hid fun h => by
    rw [HAT.out, ← hR]
    unfold refL
    rw [if_neg (fun q => h q)]
  have hHR := Lib.hid hR
  rw [hR]
  obtain ⟨C, hC⟩ : ∃ C : ByteArray, dec c = C := ⟨_, rfl⟩
  obtain ⟨T, hT⟩ : ∃ C : ByteArray, dec t = C := ⟨_, rfl⟩
  obtain ⟨F, hF⟩ : ∃ C : ByteArray, dec f = C := ⟨_, rfl⟩
  obtain ⟨D, hD⟩ : ∃ C : ByteArray, dec k = C := ⟨_, rfl⟩
  rw [show (⟨(Lib.decDigits c).toArray⟩ : ByteArray) = C from hC] at HDC
  rw [show (⟨(Lib.decDigits t).toArray⟩ : ByteArray) = T from hT] at HDT
  rw [show (⟨(Lib.decDigits f).toArray⟩ : ByteArray) = F from hF] at HDF
  rw [show (⟨(Lib.decDigits k).toArray⟩ : ByteArray) = D from hD] at HDK
  rw [hC, hT, hF, hD] at hany
  rw [hT, hF] at HJT
  rw [hC] at zc
  rw [hT] at zt
  rw [hF] at zf
  have HDD := Lib.hid hD
  rw [hD] at zk
  have v1 : IntKind.i64.wrap (c : Int) = (c : Int) := IntWalk.i64_in _ (by omega)
  have v2 : IntKind.i64.wrap (t : Int) = (t : Int) := IntWalk.i64_in _ (by omega)
  have v3 : IntKind.i64.wrap (f : Int) = (f : Int) := IntWalk.i64_in _ (by omega)
  have v4 : IntKind.i64.wrap (k : Int) = (k : Int) := IntWalk.i64_in _ (by omega)
  have a1 : ¬ 9223372036854775807 < 6 + C.size := by omega
  have a2 : ¬ 9223372036854775807 < 6 + C.size + 1 := by omega
  have a3 : ¬ 9223372036854775807 < 6 + C.size + 1 + T.size := by omega
  have a4 : ¬ 9223372036854775807 < 6 + C.size + 1 + T.size + 1 := by omega
  have a5 : ¬ 9223372036854775807 < 6 + C.size + 1 + T.size + 1 + F.size := by omega
  have a6 : ¬ 9223372036854775807 < 6 + C.size + 1 + T.size + 1 + F.size + 1 := by omega
  have a7 : ¬ 9223372036854775807 < 6 + C.size + 1 + T.size + 1 + F.size + 1 + D.size := by omega
  have HOF := Lib.hid hOf
  have HW := Lib.hid hW0
  have HB := Lib.hid hb0
  have HR0 := Lib.hid r0
  have k0 := r0.cell 0 (.int .u16 c) rfl
  clear hOf hW0 hb0 r0 hC hT hF hD hR HAT
  go_enter Tryz.func19, Tryz.ntmps19
  go_upto_region 1 with fail
  rw [HW.out]
  go_wp2_with fail
  refine (HOF.out _).mono ?_
  rintro e w1 ⟨rfl, hB1⟩
  have HR1 := Lib.hid (HR0.out.below hB1 HR0.out.lt)
  have HB1 := Lib.hid (HB.out.trans (hB1.mono HB.out.size))
  clear hB1 HR0 HB HW HOF k0
  by_cases hK0 : K = 0
  · subst hK0
    have HANY := Lib.hid (hany.out fun h => h.1 rfl)
    clear hany HJT HDD
    go_upto_region 12 with fail
    have hS : Hid (∀ W, Below w1.heap.size w1 W → W.cell? ⟨w.heap.size, 0, none⟩ = some (.int .u16 c) ∧ W.cell? ⟨w.heap.size, 1, none⟩ = some (.int .u8 t) ∧ W.cell? ⟨w.heap.size, 2, none⟩ = some (.int .u8 f) ∧ W.cell? ⟨w.heap.size, 3, none⟩ = some (.int .u32 k)) := Lib.hid fun W hW => ⟨(HR1.out.below hW HR1.out.lt).cell 0 _ rfl, (HR1.out.below hW HR1.out.lt).cell 1 _ rfl, (HR1.out.below hW HR1.out.lt).cell 2 _ rfl, (HR1.out.below hW HR1.out.lt).cell 3 _ rfl⟩
    have hk0 : Below w1.heap.size w1 w1.drew := (Below.refl _ w1).drew
    go_region_held3 (fun w' => w'.cell? ⟨w.heap.size, 0, none⟩ = some (.int .u16 c) ∧ w'.cell? ⟨w.heap.size, 1, none⟩ = some (.int .u8 t) ∧ w'.cell? ⟨w.heap.size, 2, none⟩ = some (.int .u8 f) ∧ w'.cell? ⟨w.heap.size, 3, none⟩ = some (.int .u32 k))
      (exact hS.out _ (by first | with_reducible assumption | exact hk0))
      (first
        | (go_at_call 36
           (first
             | (with_reducible refine (HDC.out _).mono ?_)
             | (with_reducible refine (HDT.out _).mono ?_)
             | (with_reducible refine (HDF.out _).mono ?_)
             | (with_reducible refine (HDK.out _).mono ?_))
           rintro e w7 ⟨rfl, hB7⟩
           have hk1 := belT (by first | with_reducible assumption | exact hk0) hB7))
    all_goals go_wp2
    all_goals go_ret
    all_goals exact ⟨by rw [← HANY.out]; rfl, HB1.out.trans ((by with_reducible assumption : Below w1.heap.size w1 _).mono HB1.out.size)⟩
  · have g0 : ((K : Int) != 0) = true := bne_iff_ne.2 (by omega)
    obtain ⟨bb, hbb⟩ : ∃ b, othB K X = b := ⟨_, rfl⟩
    obtain ⟨jj, hjj⟩ : ∃ b, decide (25 ≤ K) = b := ⟨_, rfl⟩
    obtain ⟨kz, hkz⟩ : ∃ b, (k == 0) = b := ⟨_, rfl⟩
    obtain ⟨tz, htz⟩ : ∃ b, (t == 0) = b := ⟨_, rfl⟩
    obtain ⟨fz, hfz⟩ : ∃ b, (f == 0) = b := ⟨_, rfl⟩
    have hq : condL K X t f k = ((bb || kz) && (jj || (tz && fz))) := by unfold condL; rw [hbb, hjj, hkz, htz, hfz]
    have i1 : decide ((K : Int) ≥ 25) = jj := by
      rw [← hjj]
      by_cases h : 25 ≤ K
      · rw [decide_eq_true h]; exact decide_eq_true (by omega)
      · rw [decide_eq_false h]; exact decide_eq_false (by omega)
    have nz : ∀ n : Nat, ((n : Int) == 0) = (n == 0) := fun n => by
      by_cases h : n = 0
      · subst h; rfl
      · rw [beq_eq_false_iff_ne.2 h]; exact beq_eq_false_iff_ne.2 (by omega)
    have i2 := (nz k).trans hkz
    have i3 := (nz t).trans htz
    have i4 := (nz f).trans hfz
    have HOT := Lib.hid fun W => other3_any K (by omega) hK X (dd k) (by have := dd_len 9 k (by omega); omega) W
    rw [hbb, show (⟨(dd k).toArray⟩ : ByteArray) = D from HDD.out] at HOT
    have hol := othL_len K X (dd k) (dd_len 9 k (by omega))
    have hwl := wordK_len K (by omega)
    have HWD := Lib.hid fun W => word3_any K (by omega) W
    have HHH : Hid (((bb || kz) && (jj || (tz && fz))) = true → (⟨(wordK K ++ ((if othL K X (dd k) = [] then [] else 32 :: othL K X (dd k)) ++ (if jj = true then 32 :: (dd t ++ (32 :: dd f)) else []))).toArray⟩ : ByteArray) = R) := Lib.hid fun h => by
      rw [← hHR.out]
      unfold refL
      have hcnd : K ≠ 0 ∧ condL K X t f k = true := ⟨hK0, by rw [hq]; exact h⟩
      rw [if_pos hcnd, ← hjj]
      simp only [decide_eq_true_eq]
    have HAF : Hid (((bb || kz) && (jj || (tz && fz))) = false → (((((((⟨#[46, 99, 111, 100, 101, 32]⟩ : ByteArray) ++ C) ++ ⟨#[32]⟩) ++ T) ++ ⟨#[32]⟩) ++ F) ++ ⟨#[32]⟩) ++ D = R) := Lib.hid fun h => hany.out fun q => by have := q.2; rw [hq, h] at this; cases this
    obtain ⟨OL, hOL⟩ : ∃ l, othL K X (dd k) = l := ⟨_, rfl⟩
    obtain ⟨WL, hWL⟩ : ∃ l, wordK K = l := ⟨_, rfl⟩
    rw [hOL] at HOT HHH hol
    rw [hWL] at HWD HHH hwl
    obtain ⟨O, hO⟩ : ∃ l : ByteArray, (⟨OL.toArray⟩ : ByteArray) = l := ⟨_, rfl⟩
    obtain ⟨WS, hWS⟩ : ∃ l : ByteArray, (⟨WL.toArray⟩ : ByteArray) = l := ⟨_, rfl⟩
    have zo : O.size ≤ 20 := by rw [← hO, txt_size]; exact hol
    have zw : WS.size ≤ 10 := by rw [← hWS, txt_size]; exact hwl
    have HO := Lib.hid hO
    have HWS := Lib.hid hWS
    rw [hO] at HOT
    rw [hWS] at HWD
    clear hany hHR hbb hjj hkz htz hfz hq nz hOL hWL HDD hK0 hO hWS hol hwl
    have k3 := HR1.out.cell 3 (.int .u32 k) rfl
    go_wp2_with fail
    refine (HDK.out _).mono ?_
    rintro e w2 ⟨rfl, hB2⟩
    have HR2 := Lib.hid (HR1.out.below hB2 HR1.out.lt)
    have HB2 := Lib.hid (HB1.out.trans (hB2.mono HB1.out.size))
    clear hB2 HR1 HB1 k3
    go_wp2_with fail
    refine (HOT.out _).mono ?_
    rintro e w3 ⟨rfl, hB3⟩
    have HR3 := Lib.hid (HR2.out.below hB3 HR2.out.lt)
    have HB3 := Lib.hid (HB2.out.trans (hB3.mono HB2.out.size))
    clear hB3 HR2 HB2 HOT
    go_upto_region 5 with fail
    go_cut [47] from 29 to 47 (fun s wx => s = .bool ((bb || kz) && (jj || (tz && fz))) ∧ wx = w3)
    case first =>
      have k3 := HR3.out.cell 3 (.int .u32 k) rfl
      have k1 := HR3.out.cell 1 (.int .u8 t) rfl
      have k2 := HR3.out.cell 2 (.int .u8 f) rfl
      clear HHH HAF HWD
      cases bb <;> cases kz <;> cases jj <;> cases tz <;> cases fz
      all_goals
        go_wp2_with fail
        go_meet
        first | exact ⟨rfl, rfl⟩ | rfl | trivial
    case rest =>
      obtain ⟨rfl, rfl⟩ := hcut
      obtain ⟨q, hq⟩ : ∃ q, ((bb || kz) && (jj || (tz && fz))) = q := ⟨_, rfl⟩
      rw [hq] at HHH HAF ⊢
      clear hq i2 i3 i4
      cases q
      · have HANY := Lib.hid (HAF.out rfl)
        clear HAF HHH HJT HWD
        go_upto_region 12 with fail
        have hS : Hid (∀ W, Below wc.heap.size wc W → W.cell? ⟨w.heap.size, 0, none⟩ = some (.int .u16 c) ∧ W.cell? ⟨w.heap.size, 1, none⟩ = some (.int .u8 t) ∧ W.cell? ⟨w.heap.size, 2, none⟩ = some (.int .u8 f) ∧ W.cell? ⟨w.heap.size, 3, none⟩ = some (.int .u32 k)) := Lib.hid fun W hW => ⟨(HR3.out.below hW HR3.out.lt).cell 0 _ rfl, (HR3.out.below hW HR3.out.lt).cell 1 _ rfl, (HR3.out.below hW HR3.out.lt).cell 2 _ rfl, (HR3.out.below hW HR3.out.lt).cell 3 _ rfl⟩
        have hk0 : Below wc.heap.size wc wc.drew := (Below.refl _ wc).drew
        go_region_held3 (fun w' => w'.cell? ⟨w.heap.size, 0, none⟩ = some (.int .u16 c) ∧ w'.cell? ⟨w.heap.size, 1, none⟩ = some (.int .u8 t) ∧ w'.cell? ⟨w.heap.size, 2, none⟩ = some (.int .u8 f) ∧ w'.cell? ⟨w.heap.size, 3, none⟩ = some (.int .u32 k))
          (exact hS.out _ (by first | with_reducible assumption | exact hk0))
          (first
            | (go_at_call 36
               (first
                 | (with_reducible refine (HDC.out _).mono ?_)
                 | (with_reducible refine (HDT.out _).mono ?_)
                 | (with_reducible refine (HDF.out _).mono ?_)
                 | (with_reducible refine (HDK.out _).mono ?_))
               rintro e w7 ⟨rfl, hB7⟩
               have hk1 := belT (by first | with_reducible assumption | exact hk0) hB7))
        all_goals go_wp2
        all_goals go_ret
        all_goals exact ⟨by rw [← HANY.out]; rfl, HB3.out.trans ((by with_reducible assumption : Below wc.heap.size wc _).mono HB3.out.size)⟩
      · have HH := Lib.hid (HHH.out rfl)
        clear HAF HHH HDC HDK a1 a2 a3 a4 a5 a6 a7
        go_wp2_with fail
        refine (HWD.out _).mono ?_
        rintro e w4 ⟨rfl, hB4⟩
        have HR4 := Lib.hid (HR3.out.below hB4 HR3.out.lt)
        have HB4 := Lib.hid (HB3.out.trans (hB4.mono HB3.out.size))
        clear hB4 HR3 HB3 HWD
        have b1 : ¬ 9223372036854775807 < 1 + O.size := by omega
        have b2 : ¬ 9223372036854775807 < WS.size + (1 + O.size) := by omega
        have b3 : ¬ 9223372036854775807 < 1 + T.size := by omega
        have b4 : ¬ 9223372036854775807 < 1 + T.size + 1 := by omega
        have b5 : ¬ 9223372036854775807 < 1 + T.size + 1 + F.size := by omega
        have b6 : ¬ 9223372036854775807 < WS.size + (1 + T.size + 1 + F.size) := by omega
        have b7 : ¬ 9223372036854775807 < WS.size + (1 + O.size) + (1 + T.size + 1 + F.size) := by omega
        have k1 := HR4.out.cell 1 (.int .u8 t) rfl
        have k2 := HR4.out.cell 2 (.int .u8 f) rfl
        by_cases hOe : OL = []
        · have hO0 : O = ⟨#[]⟩ := by rw [← HO.out, hOe]
          subst hO0
          cases jj
          · have HE : Hid (WS = R) := Lib.hid (by
              have h := HH.out
              rw [if_pos hOe] at h
              rw [← h, ← HWS.out]
              simp)
            clear HH HJT HO HWS hOe
            go_wp2
            go_ret
            exact ⟨by rw [← HE.out]; rfl, HB4.out⟩
          · have HE : Hid (WS ++ (((⟨#[32]⟩ : ByteArray) ++ T) ++ ⟨#[32]⟩ ++ F) = R) := Lib.hid (by
              have h := HH.out
              rw [if_pos hOe] at h
              rw [← h, ← HWS.out, HJT.out]
              rfl)
            clear HH HJT HO HWS hOe
            go_upto_region 10 with fail
            have hS : Hid (∀ W, Below w4.heap.size w4 W → W.cell? ⟨w.heap.size, 1, none⟩ = some (.int .u8 t) ∧ W.cell? ⟨w.heap.size, 2, none⟩ = some (.int .u8 f)) := Lib.hid fun W hW => ⟨(HR4.out.below hW HR4.out.lt).cell 1 _ rfl, (HR4.out.below hW HR4.out.lt).cell 2 _ rfl⟩
            have hk0 : Below w4.heap.size w4 w4.drew := (Below.refl _ w4).drew
            go_region_held3 (fun w' => w'.cell? ⟨w.heap.size, 1, none⟩ = some (.int .u8 t) ∧ w'.cell? ⟨w.heap.size, 2, none⟩ = some (.int .u8 f))
              (exact hS.out _ (by first | with_reducible assumption | exact hk0))
              (first
                | (go_at_call 36
                   (first
                     | (with_reducible refine (HDT.out _).mono ?_)
                     | (with_reducible refine (HDF.out _).mono ?_))
                   rintro e w7 ⟨rfl, hB7⟩
                   have hk1 := belT (by first | with_reducible assumption | exact hk0) hB7))
            all_goals go_wp2
            all_goals go_ret
            all_goals exact ⟨by rw [← HE.out]; rfl, HB4.out.trans ((by with_reducible assumption : Below w4.heap.size w4 _).mono HB4.out.size)⟩
        · have c1 : (O.toList == []) = false := by rw [← HO.out, Lib.toList_data]; exact beq_eq_false_iff_ne.2 hOe
          have c2 : (O.toList != []) = true := by rw [bne, c1]; rfl
          have c3 : O.toList.isEmpty = false := by rw [← HO.out, Lib.toList_data]; show OL.isEmpty = false; simpa using hOe
          have c4 : O.data.toList.isEmpty = false := by rw [← HO.out]; show OL.isEmpty = false; simpa using hOe
          have c5 : ¬ O.toList = [] := by rw [← HO.out, Lib.toList_data]; exact hOe
          have HU : Hid (WS ++ ((⟨#[32]⟩ : ByteArray) ++ O) = ⟨(WL ++ (32 :: OL)).toArray⟩) := Lib.hid (by rw [← HO.out, ← HWS.out, wrap0, txt_app])
          cases jj
          · have HE : Hid (WS ++ ((⟨#[32]⟩ : ByteArray) ++ O) = R) := Lib.hid (by
              have h := HH.out
              rw [if_neg hOe] at h
              rw [← h, HU.out]
              simp)
            clear HH HJT HO HWS hOe HU
            go_wp2
            go_ret
            exact ⟨by rw [← HE.out]; rfl, HB4.out⟩
          · have HE : Hid ((WS ++ ((⟨#[32]⟩ : ByteArray) ++ O)) ++ (((⟨#[32]⟩ : ByteArray) ++ T) ++ ⟨#[32]⟩ ++ F) = R) := Lib.hid (by
              have h := HH.out
              rw [if_neg hOe] at h
              rw [← h, HU.out, HJT.out]
              simp)
            clear HH HJT HO HWS hOe HU
            go_upto_region 10 with fail
            have hS : Hid (∀ W, Below w4.heap.size w4 W → W.cell? ⟨w.heap.size, 1, none⟩ = some (.int .u8 t) ∧ W.cell? ⟨w.heap.size, 2, none⟩ = some (.int .u8 f)) := Lib.hid fun W hW => ⟨(HR4.out.below hW HR4.out.lt).cell 1 _ rfl, (HR4.out.below hW HR4.out.lt).cell 2 _ rfl⟩
            have hk0 : Below w4.heap.size w4 w4.drew := (Below.refl _ w4).drew
            go_region_held3 (fun w' => w'.cell? ⟨w.heap.size, 1, none⟩ = some (.int .u8 t) ∧ w'.cell? ⟨w.heap.size, 2, none⟩ = some (.int .u8 f))
              (exact hS.out _ (by first | with_reducible assumption | exact hk0))
              (first
                | (go_at_call 36
                   (first
                     | (with_reducible refine (HDT.out _).mono ?_)
                     | (with_reducible refine (HDF.out _).mono ?_))
                   rintro e w7 ⟨rfl, hB7⟩
                   have hk1 := belT (by first | with_reducible assumption | exact hk0) hB7))
            all_goals go_wp2
            all_goals go_ret
            all_goals exact ⟨by rw [← HE.out]; rfl, HB4.out.trans ((by with_reducible assumption : Below w4.heap.size w4 _).mono HB4.out.size)⟩
end Go.Proofs.YtebeoadmdflfcaaGreatDoor
