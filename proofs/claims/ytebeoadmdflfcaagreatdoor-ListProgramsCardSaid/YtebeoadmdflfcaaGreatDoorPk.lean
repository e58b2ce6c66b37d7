/-
  The contract of formOf where a form fits: the first one that does.
-/
import Derived.Test.YtebeoadmdflfcaaGreatDoorPj
import Derived.Deep.RegionHeld3
namespace Go.Proofs.YtebeoadmdflfcaaGreatDoor
open Go.RowKit Go.Shelf
set_option linter.unusedVariables false

/-- What reading wants of memory. -/
structure EnvR (w : World) : Prop where
  env : EnvL w
  sp : Lib.TabIs Tryz.prog w "strings.asciiSpace" .u8 Lib.asciiSpaceTab
theorem gSp : ∃ g, Tryz.prog.globalNamed "strings.asciiSpace" = some g := Option.isSome_iff_exists.1 (by kernel_rfl)
theorem envR_on {w w' : World} {B : Nat} (h : EnvR w) (hb : Below B w w') (hB : w.heap.size ≤ B) : EnvR w' := by
  obtain ⟨g, hg⟩ := gSp
  exact ⟨env_on h.env hb hB, Joins.tab_stays hg h.sp hb hB⟩
/-- One result, which lies in a block. -/
theorem results_cell_row1L {P : Program} {fn : Func} {p : Tmp} {ty : TypeId} (h : fn.results = #[.cell p ty]) (tmps : Array Value) (w : World) (g : Nat) (t : TypeId) (cs : Array Value) (fr : Nat × Nat) (d : TypeDesc)
    (hp : tmps.getD p undef = .pointer (some ⟨g, 0, none⟩)) (hg : w.heap[g]? = some (.cells cs t fr))
    (hu : P.underlying ty = some d) (hd : (match d with | .struct _ | .array _ _ => true | _ => false) = true) (hi : (P.info? ty).map (·.size) = some cs.size) :
    (results fn tmps).run P w = .ok (.agg cs) w := by
  have hp' : tmps[p]?.getD undef = .pointer (some ⟨g, 0, none⟩) := by simpa using hp
  simp [results, h, hp', asAddr, run_loadVar_row w g t ty cs fr d hg hu hd hi]
def patQ (j : Nat) : List UInt8 := if j < 41 then patP j else anyP
def codeQ (j : Nat) : Nat := if j < 41 then codeP j else 0
def flds (j : Nat) : List (List UInt8) := Lib.fields (patQ j)
def fldN (j i : Nat) : List UInt8 := (flds j).getD i []
theorem flds_chk : ∀ j, j < 42 → (flds j).length ≤ 5 ∧ (∀ i, i < 5 → (fldN j i).length ≤ 8 ∧ ∀ b ∈ fldN j i, b.toNat < 128) ∧ (patQ j).length ≤ 20 ∧ ∀ b ∈ patQ j, b.toNat < 128 := by decide +kernel
theorem fieldsP_any (j : Nat) (hj : j < 42) (w : World) (he : EnvR w) :
    Calls Tryz.prog 47 #[.string ⟨(patQ j).toArray⟩] w fun e w' => e = .returned (.slice (some ⟨w.heap.size, 0, none⟩) (flds j).length (flds j).length) ∧ WdP w' w.heap.size 0 (flds j).length (fldN j) ∧ Below w.heap.size w w' := by
  obtain ⟨_, _, h3, h4⟩ := flds_chk j hj
  have h := Tryz.strings_Fields ⟨(patQ j).toArray⟩ w (by show (patQ j).toArray.size < _; simp; omega) (fun i b hb => h4 b (List.mem_of_getElem? hb)) he.sp
  rw [show (⟨(patQ j).toArray⟩ : ByteArray).data.toList = patQ j from rfl] at h
  refine h.mono ?_
  rintro e w' ⟨rfl, rfl⟩
  refine ⟨rfl, fun i hi => ?_, (Below.refl _ _).alloc (Nat.le_refl _) _⟩
  rw [Nat.zero_add, cell_of_row _ _ i _ _ (0, 0) (heap_alloc_last w _)]
  have h5 : (flds j)[i]? = some (fldN j i) := by
    unfold fldN
    rw [List.getD_eq_getElem?_getD, List.getElem?_eq_getElem hi]
    rfl
  simp only [List.getElem?_toArray, List.getElem?_map]
  rw [show (Lib.fields (patQ j))[i]? = some (fldN j i) from h5]
  rfl
def fitQ (n2 : Nat) (W : Nat → List UInt8) (j : Nat) : Bool := decide ((flds j).length = n2) && fitsN (fldN j) W (flds j).length
theorem eqQ_any (j : Nat) (hj : j < 42) (T : Nat) (b o n2 c2 : Nat) (W : Nat → List UInt8) (hW : ∀ i, i < n2 → (W i).length ≤ 100000) (hn2 : n2 ≤ 1000000) (w : World) (h1 : WdP w T 0 (flds j).length (fldN j)) (h2 : WdP w b o n2 W) :
    Calls Tryz.prog 61 #[.slice (some ⟨T, 0, none⟩) (flds j).length (flds j).length, .slice (some ⟨b, o, none⟩) n2 c2, .func (.func 60) #[] #[]] w fun e w' => e = .returned (.bool (fitQ n2 W j)) ∧ Below w.heap.size w w' := by
  obtain ⟨q1, q2, _, _⟩ := flds_chk j hj
  exact equal_any T _ _ (fldN j) (fun i hi => q2 i (by omega)) b o n2 c2 W hW (by omega) hn2 w h1 h2
/-- The table of all forms in cells. -/
def fmF (i : Nat) : Value := if i % 2 = 0 then .int .u16 (codeQ (i / 2) : Nat) else .string ⟨(patQ (i / 2)).toArray⟩
theorem fmA_list : fmA.toList = (List.range (41 * 2)).map fmF := by kernel_rfl
theorem infoFm : (Tryz.prog.info? 56).map (fun i => (i.zero, i.size, i.bytes)) = some (some (.agg #[.int .u16 0, .string ⟨#[]⟩]), 2, 24) := by kernel_rfl
theorem ownFm (w : World) : OwnC (w.alloc (.cells fmA 56)) w.heap.size 56 2 (some ⟨w.heap.size, 0, none⟩) 41 41 fmF := by
  have h := World.ownsRow_lit (base := w.heap.size) (e := 56) (size := 2) w fmA 41 (Nat.le_refl _) (by decide) (by kernel_rfl)
  unfold OwnC
  rw [← fmA_list]
  exact h
theorem oneFm (w : World) : Cel (w.alloc (.cells #[.int .u16 0, .string ⟨#[46, 99, 111, 100, 101, 32, 67, 32, 84, 32, 70, 32, 75]⟩] 56)) (w.heap.size + 1) 2 (some ⟨w.heap.size, 0, none⟩) 1 1 (fun i => fmF (82 + i)) :=
  Cel.mk_ (by omega) (by decide) (by decide) (fun i hi => by
    match i, hi with
    | 0, _ => simp [fmF, codeQ]
    | 1, _ => simp [fmF, patQ, anyP])
theorem fmF_one (i : Nat) : (fmF i).oneCell' = true := by unfold fmF; split <;> rfl
set_option maxRecDepth 100000 in
set_option maxHeartbeats 16000000 in
theorem formOf_fits (b o n2 c2 : Nat) (W : Nat → List UInt8) (hW : ∀ i, i < n2 → (W i).length ≤ 100000) (hn2 : n2 ≤ 1000000) (j : Nat) (hj : j < 42) (hf : fitQ n2 W j = true) (hno : ∀ i, i < j → fitQ n2 W i = false) (w : World) (h2 : WdP w b o n2 W) (he : EnvR w) :
    Calls Tryz.prog 46 #[.slice (some ⟨b, o, none⟩) n2 c2] w fun e w' => e = .returned (.agg #[.int .u16 (codeQ j : Nat), .string ⟨(patQ j).toArray⟩]) ∧ Below w.heap.size w w' := by
  obtain ⟨W0, hW0⟩ : ∃ X, w.alloc (.cells #[.int .u16 0, .string ⟨#[]⟩] 56) = X := ⟨_, rfl⟩
  have hb0 : Below w.heap.size w W0 := by rw [← hW0]; exact (Below.refl _ _).alloc (Nat.le_refl _) _
  have hz0 : W0.heap.size = w.heap.size + 1 := by rw [← hW0]; simp
  have r0 : RowC W0 w.heap.size #[.int .u16 0, .string ⟨#[]⟩] 56 := by rw [← hW0]; exact RowC.new _ _ _ _ rfl
  have HFM := Lib.hid (forms_any W0)
  have HOW := Lib.hid (ownFm W0)
  have HW2 := Lib.hid (h2.below hb0)
  have HE := Lib.hid (envR_on he hb0 (Nat.le_refl _))
  have HFIT := Lib.hid (And.intro hf hno)
  have HWL := Lib.hid hW
  have HB0 := Lib.hid hb0
  have HZ0 := Lib.hid hz0
  have HR0 := Lib.hid r0
  have HW0 := Lib.hid hW0
  clear hf hno h2 he hb0 hz0 r0 hW0 hW
  go_enter Tryz.func46, Tryz.ntmps46
  go_upto_region 1 with fail
  rw [HW0.out]
  go_wp2_with fail
  refine HFM.out.mono ?_
  rintro e w1 ⟨rfl, rfl⟩
  obtain ⟨W1, hW1⟩ : ∃ X, W0.alloc (.cells fmA 56) = X := ⟨_, rfl⟩
  have hb1 : Below W0.heap.size W0 W1 := by rw [← hW1]; exact (Below.refl _ _).alloc (Nat.le_refl _) _
  have ho1 := HOW.out
  rw [hW1] at ho1 ⊢
  have HO1 := Lib.hid (ho1.alloc (.cells #[.int .u16 0, .string ⟨#[46, 99, 111, 100, 101, 32, 67, 32, 84, 32, 70, 32, 75]⟩] 56))
  have HB1 := Lib.hid hb1
  clear hW1 ho1 hb1 HOW HFM HW0
  have h01 : Hid (W0.heap.size ≤ W1.heap.size) := Lib.hid HB1.out.size
  go_wp2_with (at_builtin; go_must (refine app_cells _ (by rfl) _ _ _ 56 (by rfl) Tryz.underlying52 infoFm (by rfl) (by decide) rfl HO1.out rfl (oneFm W1) (fun i _ => fmF_one _) (by decide) (by decide) (by have := h01.out; simp; omega) 42 rfl fmF (by intro i hi; unfold catC; split; rfl; next h => show fmF (82 + (i - 41 * 2)) = fmF i; rw [show 82 + (i - 41 * 2) = i by omega]) ?_
                                    rintro A7 c7 w7 hown7 hB7))
  obtain ⟨b7, o7, rfl, hb7, hc7⟩ := hown7.cel.at_ (by omega)
  have HC7 := Lib.hid hc7
  have HB7 := Lib.hid hB7
  clear hown7 hB7 hc7 HO1
  have hz7 : W0.heap.size ≤ w7.heap.size := by have h1 := HB7.out.size; have h2 := h01.out; simp at h1; omega
  have HBW : Hid (Below W0.heap.size W0 w7) := Lib.hid ((HB1.out.alloc HB1.out.size _).trans HB7.out)
  have HRR := Lib.hid (HR0.out.below HBW.out HR0.out.lt)
  have HWW := Lib.hid (HW2.out.below HBW.out)
  have HEE := Lib.hid (envR_on HE.out HBW.out (Nat.le_refl _))
  go_loopw [11] (fun i wr => ∃ q : Nat, q ≤ j ∧ i = .int .i64 q ∧ Below w7.heap.size w7 wr) (fun i _ => 42 - (intOf i).toNat)
  case atStart => exact ⟨0, by omega, rfl, Below.refl _ _⟩
  case round =>
    obtain ⟨q, hq, rfl, hB⟩ := hrel
    have g1 : (q : Int) < 42 := by omega
    have g2 : (0 : Int) ≤ (q : Int) := by omega
    have m0 := (hB.cell (p := ⟨b7, o7 + q * 2, none⟩) hb7).trans (HC7.out (q * 2) (by omega))
    have m1 := (hB.cell (p := ⟨b7, o7 + (q * 2 + 1), none⟩) hb7).trans (HC7.out (q * 2 + 1) (by omega))
    rw [show fmF (q * 2) = .int .u16 (codeQ q : Nat) by unfold fmF; rw [if_pos (by omega), show q * 2 / 2 = q by omega]] at m0
    rw [show fmF (q * 2 + 1) = .string ⟨(patQ q).toArray⟩ by unfold fmF; rw [if_neg (by omega), show (q * 2 + 1) / 2 = q by omega]] at m1
    rw [← Nat.add_assoc] at m1
    have HFP := Lib.hid fun X h => fieldsP_any q (by omega) X h
    have HEQ := Lib.hid fun T X h1 h2 => eqQ_any q (by omega) T b o n2 c2 W HWL.out hn2 X h1 h2
    obtain ⟨x, hx⟩ : ∃ x, codeQ q = x := ⟨_, rfl⟩
    obtain ⟨p, hp⟩ : ∃ p : ByteArray, (⟨(patQ q).toArray⟩ : ByteArray) = p := ⟨_, rfl⟩
    obtain ⟨m, hm⟩ : ∃ m, fitQ n2 W q = m := ⟨_, rfl⟩
    obtain ⟨L, hL⟩ : ∃ m, (flds q).length = m := ⟨_, rfl⟩
    obtain ⟨G, hG⟩ : ∃ m, fldN q = m := ⟨_, rfl⟩
    have HX := Lib.hid (And.intro hx (And.intro hp hm))
    rw [hp] at HFP
    rw [hm] at HEQ
    rw [hL, hG] at HFP HEQ
    rw [hx] at m0
    rw [hp] at m1
    have HB := Lib.hid hB
    clear hx hp hm hL hG hB
    go_wp2_with fail
    obtain ⟨WA, hWA⟩ : ∃ X, wr.alloc (.cells #[.int .u16 x, .string p] 56) = X := ⟨_, rfl⟩
    have hbA : Below wr.heap.size wr WA := by rw [← hWA]; exact (Below.refl _ _).alloc (Nat.le_refl _) _
    have rA : RowC WA wr.heap.size #[.int .u16 x, .string p] 56 := by rw [← hWA]; exact RowC.new _ _ _ _ rfl
    rw [hWA]
    have hb7A : Below w7.heap.size w7 WA := HB.out.trans (hbA.mono HB.out.size)
    refine (HFP.out WA (envR_on HEE.out hb7A (Nat.le_refl _))).mono ?_
    rintro e w2 ⟨rfl, hWd, hB2⟩
    have hb72 : Below w7.heap.size w7 w2 := hb7A.trans (hB2.mono hb7A.size)
    have HE2 := Lib.hid (HEQ.out _ w2 hWd (HWW.out.below hb72))
    have HR2 := Lib.hid (rA.below hB2 rA.lt)
    have HB72 := Lib.hid hb72
    clear hWA hbA rA hb7A hWd hB2 hb72
    go_wp2_with fail
    refine HE2.out.mono ?_
    rintro e w3 ⟨rfl, hB3⟩
    have hb73 : Below w7.heap.size w7 w3 := HB72.out.trans (hB3.mono HB72.out.size)
    have r3 := HR2.out.below hB3 HR2.out.lt
    have s3 := HRR.out.below hb73 HRR.out.lt
    have HB73 := Lib.hid hb73
    clear hB3 hb73
    cases m
    · have hqj : q ≠ j := by
        intro h
        rw [h, HFIT.out.1] at HX
        exact absurd HX.out.2.2 (by decide)
      go_wp2
      exact ⟨⟨q + 1, by omega, by go_num, HB73.out⟩, by simp [intOf]; omega⟩
    · have hqj : q = j := by
        rcases Nat.lt_or_ge q j with h | h
        · rw [HFIT.out.2 q h] at HX
          exact absurd HX.out.2.2 (by decide)
        · omega
      have k0 := r3.cell 0 _ rfl
      have k1 := r3.cell 1 _ rfl
      have z0 := s3.cell 0 _ rfl
      have z1 := s3.cell 1 _ rfl
      have f0 := s3.frozen 0
      have f1 := s3.frozen 1
      have S3 := Lib.hid s3
      clear r3 s3
      go_wp2
      subst hqj
      obtain ⟨x1, x2, x3⟩ := HX.out
      have HBE : Hid (Below w.heap.size w w3) := Lib.hid (HB0.out.trans ((HBW.out.mono HB0.out.size).trans (HB73.out.mono (by have h1 := HBW.out.size; have h2 := HB0.out.size; omega))))
      refine bodyPost_ret (results_cell_row1L Tryz.results46 _ _ w.heap.size 56 #[.int .u16 x, .string p] (0, 0) _ (by rfl) ((S3.out.set 0 (.int .u16 x)).set 1 (.string p)) Tryz.underlying56 (by rfl) (by kernel_rfl)) rfl ⟨?_, (HBE.out.setCell (Nat.le_refl _) _).setCell (Nat.le_refl _) _⟩
      rw [x1, x2]
end Go.Proofs.YtebeoadmdflfcaaGreatDoor
