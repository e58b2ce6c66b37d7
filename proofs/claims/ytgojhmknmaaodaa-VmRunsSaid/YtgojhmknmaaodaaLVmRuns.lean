/-
  The law VmRuns holds for every input: over any 64 bytes a program that may run tells what the document's machine tells, and one that may not run, or too few or too many bytes, gives the document's error. No condition (the law itself lets more than 200 instructions, and more than 100 bytes, go).
-/
import Derived.Test.YtgojhmknmaaodaaYb
import Derived.Test.YtgojhmknmaaodaaIf
import Derived.Test.YtgojhmknmaaodaaRows
import Derived.Below
import Derived.ChangeOld
import Derived.ShutString
import Derived.Lib.SmallJoins
import Derived.OpenShut
import Derived.ProofKit
import Derived.WalkKit
import Derived.Deep.RegionWith
import Derived.Deep.RegionLaw
import Derived.Deep.RegionHeld3
import Derived.Deep.CutRange
import Derived.RegionTactic
import Derived.Deep.QuietTactic
import Derived.BigQuiet
namespace Go.Proofs.Ytgojhmknmaaodaa
open Go.RowKit
set_option linter.unusedVariables false

theorem vrun_errL (A : Option Addr) (n c : Nat) (g : Nat → IV) (A2 : Option Addr) (n2 c2 : Nat) (w : World) (y : Nat) (hr : Ins w w.heap.size A n c g) (hy : (checkF g n).2 = y) (he : y ≠ 0) :
    Calls Try.prog 4 #[.slice A n c, .slice A2 n2 c2] w fun e w' => e = .returned (.tuple #[.agg #[.int .u32 0, .int .i64 0, .slice none 0 0], .int .i64 (y : Int)]) ∧ Below w.heap.size w w' := by
  subst hy
  exact vrun_err A n c g A2 n2 c2 w hr he
theorem vrun_sizeL (A : Option Addr) (n c : Nat) (g : Nat → IV) (A2 : Option Addr) (n2 c2 : Nat) (w : World) (y : Nat) (hr : Ins w w.heap.size A n c g) (he : (checkF g n).2 = 0) (hn : n2 ≤ 1000000) (h : n2 ≠ 64) (hy : y = if n2 < 64 then 2 else 3) :
    Calls Try.prog 4 #[.slice A n c, .slice A2 n2 c2] w fun e w' => e = .returned (.tuple #[.agg #[.int .u32 0, .int .i64 0, .slice none 0 0], .int .i64 (y : Int)]) ∧ Below w.heap.size w w' := by
  have h2 := vrun_size A n c g A2 n2 c2 w hr he hn h
  have e : (if n2 < 64 then (2 : Int) else 3) = (y : Int) := by rw [hy]; split <;> rfl
  rw [e] at h2
  exact h2
theorem vrun_okL (A : Option Addr) (n c : Nat) (g : Nat → IV) (A2 : Option Addr) (c2 : Nat) (f : Nat → Nat) (w : World) (val : Nat) (sF : VS) (hr : Ins w w.heap.size A n c g) (he : (checkF g n).2 = 0)
    (hby : Byt w w.heap.size A2 64 c2 f) (hf : ∀ i, f i < 256) (hrun : runF g f n zst = some (val, sF)) :
    Calls Try.prog 4 #[.slice A n c, .slice A2 64 c2] w fun e w' => ∃ A' c', e = .returned (.tuple #[.agg #[.int .u32 val, .int .i64 sF.st, .slice A' sF.ld.length c'], .int .i64 0]) ∧ OwnC w' w.heap.size 3 1 A' sF.ld.length c' (lcell sF.ld) ∧ Below w.heap.size w w' :=
  vrun_ok A n c g A2 c2 f w val sF hr he hby hf hrun
theorem new_errL (A : Option Addr) (n c : Nat) (g : Nat → IV) (w : World) (y : Nat) (hr : Ins w w.heap.size A n c g) (hy : (checkF g n).2 = y) (he : y ≠ 0) :
    Calls Try.prog 7 #[.slice A n c] w fun e w' => e = .returned (.tuple #[.pointer none, .int .i64 (y : Int)]) ∧ Below w.heap.size w w' := by
  subst hy
  exact new_err A n c g w hr he
/-- What is told twice is the same. -/
def SameR (ld : List Nat) (A : Option Addr) (c : Nat) (A3 : Option Addr) (c3 : Nat) (w : World) : Prop := Cel w w.heap.size 1 A ld.length c (lcell ld) ∧ Cel w w.heap.size 1 A3 ld.length c3 (lcell ld)

theorem sameR_mk {ld : List Nat} {A : Option Addr} {c : Nat} {A3 : Option Addr} {c3 : Nat} {w : World} (h1 : Cel w w.heap.size 1 A ld.length c (lcell ld)) (h2 : Cel w w.heap.size 1 A3 ld.length c3 (lcell ld)) : SameR ld A c A3 c3 w := ⟨h1, h2⟩

set_option maxRecDepth 100000 in
set_option maxHeartbeats 8000000 in
theorem same_yes (v st : Nat) (ld : List Nat) (L : Nat) (hL : ld.length = L) (A A3 : Option Addr) (c c3 : Nat) (w : World) (h : SameR ld A c A3 c3 w) (hl : L ≤ 1000000) :
    Calls Try.prog 8 #[.agg #[.int .u32 v, .int .i64 st, .slice A L c], .agg #[.int .u32 v, .int .i64 st, .slice A3 L c3]] w fun e w' => e = .returned (.bool true) ∧ Below w.heap.size w w' := by
  obtain ⟨W0, hW0⟩ : ∃ W, (w.alloc (.cells #[.int .u32 v, .int .i64 st, .slice A L c] 27)).alloc (.cells #[.int .u32 v, .int .i64 st, .slice A3 L c3] 39) = W := ⟨_, rfl⟩
  have hb0 : Below w.heap.size w W0 := by rw [← hW0]; exact ((Below.refl _ _).alloc (Nat.le_refl _) _).alloc (by simp) _
  have r1 : RowAt W0 w.heap.size #[.int .u32 v, .int .i64 st, .slice A L c] 27 := by
    rw [← hW0]; unfold RowAt
    rw [heap_alloc_old _ _ _ (by simp)]
    exact heap_alloc_last w _
  have r2 : RowAt W0 (w.heap.size + 1) #[.int .u32 v, .int .i64 st, .slice A3 L c3] 39 := by
    rw [← hW0]; unfold RowAt
    have h := heap_alloc_last (w.alloc (.cells #[.int .u32 v, .int .i64 st, .slice A L c] 27)) (.cells #[.int .u32 v, .int .i64 st, .slice A3 L c3] 39)
    simpa using h
  have h1 := (h.1.below hb0).more hb0.size
  have h2 := (h.2.below hb0).more hb0.size
  rw [hL] at h1 h2
  have c10 := r1.cell 0 _ rfl
  have c11 := r1.cell 1 _ rfl
  have c12 := r1.cell 2 _ rfl
  have c20 := r2.cell 0 _ rfl
  have c21 := r2.cell 1 _ rfl
  have c22 := r2.cell 2 _ rfl
  have t1 : ((v : Int) != (v : Int)) = false := by simp
  have t2 : ((st : Int) != (st : Int)) = false := by simp
  have t3 : ((L : Int) != (L : Int)) = false := by simp
  have HW0 := Lib.hid hW0
  have HB0 := Lib.hid hb0
  have HR1 := Lib.hid r1
  have HR2 := Lib.hid r2
  have H1 := Lib.hid h1
  have H2 := Lib.hid h2
  clear h hW0 hb0 r1 r2 h1 h2
  go_enter Try.func8, Try.ntmps8
  go_upto_region 1 with fail
  rw [HW0.out]
  go_wp2_with fail
  clear c10 c11 c12 c20 c21 c22
  go_loopw [5] (fun i wr => ∃ k : Nat, k ≤ L ∧ i = .int .i64 k ∧ Below W0.heap.size W0 wr)
    (fun i _ => L - (intOf i).toNat)
  case atStart => exact ⟨0, Nat.zero_le _, rfl, Below.refl _ _⟩
  case round =>
    obtain ⟨k, hk, rfl, hB⟩ := hrel
    have c12 := (HR1.out.below hB HR1.out.lt).cell 2 _ rfl
    have c22 := (HR2.out.below hB HR2.out.lt).cell 2 _ rfl
    have hb := Lib.hid (HB0.out.trans (hB.mono HB0.out.size))
    by_cases hlt : k < L
    · obtain ⟨b5, o5, rfl, hl5, hc5⟩ := (H1.out.below hB).at_ (by omega)
      obtain ⟨b6, o6, rfl, hl6, hc6⟩ := (H2.out.below hB).at_ (by omega)
      have q5 := hc5 k (by omega)
      have q6 := hc6 k (by omega)
      unfold lcell at q5 q6
      generalize ld.getD k 0 = x at q5 q6
      have g1 : (k : Int) < (L : Int) := by omega
      have g2 : (0 : Int) ≤ (k : Int) := by omega
      have g3 : ((x : Int) != (x : Int)) = false := by simp
      have HBR := Lib.hid hB
      clear hc5 hc6 hB
      go_upto_region 6 with fail
      go_quiet (fail)
      go_wp2
      exact ⟨⟨k + 1, by omega, by go_num, by first | exact HBR.out | exact HBR.out.drew | exact bdn HBR.out _⟩, by simp [intOf]; omega⟩
    · obtain rfl : k = L := by omega
      have g1 : ¬ (k : Int) < (k : Int) := by omega
      go_wp2
      go_ret
      exact ⟨rfl, hb.out⟩

/-- The prefix of all walks: the program's own run. -/
def VR (n n2 : Nat) (g : Nat → IV) (f : Nat → Nat) (v st er : Nat) (ld : List Nat) : Prop := ∀ W A3 c3 A4 c4, Ins W W.heap.size A3 n c3 g → Byt W W.heap.size A4 n2 c4 f →
  Calls Try.prog 4 #[.slice A3 n c3, .slice A4 n2 c4] W fun e w' => ∃ A' c', e = .returned (.tuple #[.agg #[.int .u32 v, .int .i64 st, .slice A' ld.length c'], .int .i64 er]) ∧ Cel w' w'.heap.size 1 A' ld.length c' (lcell ld) ∧ Below W.heap.size W w'
theorem nilR (w : World) (B : Nat) : Cel w B 1 none 0 0 (lcell []) := Cel.nil_

set_option maxRecDepth 100000 in
set_option maxHeartbeats 16000000 in
theorem runs_err {w0 : World} (A : Option Addr) (n c : Nat) (g : Nat → IV) (hr : Ins w0 w0.heap.size A n c g) (A2 : Option Addr) (n2 c2 : Nat) (f : Nat → Nat) (hby : Byt w0 w0.heap.size A2 n2 c2 f) (hn : n ≤ 200) (hn2 : n2 ≤ 100)
    (v st er : Nat) (ld : List Nat) (hv : VR n n2 g f v st er ld) (hld : ld.length ≤ 1000000) (y : Nat) (hy : (checkF g n).2 = y) (h0 : y ≠ 0) (her : er = y) (hvz : v = 0 ∧ st = 0 ∧ ld = []) :
    Calls Try.prog 3 #[.slice A n c, .slice A2 n2 c2] w0 fun e w' => e = .returned (.bool true) ∧ Below w0.heap.size w0 w' := by
  have HR := Lib.hid hr
  have HY := Lib.hid hby
  have HV := Lib.hid hv
  have q1 : decide ((n : Int) > 200) = false := decide_eq_false (by omega)
  have q2 : ¬ (n : Int) > 200 := by omega
  have q3 : decide ((n2 : Int) > 100) = false := decide_eq_false (by omega)
  have q4 : ¬ (n2 : Int) > 100 := by omega
  obtain ⟨L, hL⟩ : ∃ L, ld.length = L := ⟨_, rfl⟩
  have HLL := Lib.hid hL
  have hL2 : L ≤ 1000000 := by omega
  have HC : Hid (∀ W, Ins W W.heap.size A n c g → Calls Try.prog 6 #[.slice A n c] W fun e w' => e = .returned (.tuple #[.int .i64 ((checkF g n).1 : Nat), .int .i64 (y : Nat)]) ∧ Below W.heap.size W w') := Lib.hid fun W h => by
    have h2 := refCheck_any A n c g W h (by omega)
    rw [hy] at h2
    exact h2
  obtain ⟨rfl, rfl, rfl⟩ := hvz
  subst her
  have HNE := Lib.hid fun W A' c' h => new_errL A' n c' g W er h hy h0
  have t1 : ((er : Int) != 0) = true := by simpa using h0
  have t2 : ((er : Int) == (er : Int)) = true := by simp
  have hAW := Lib.hid awake6_any
  clear h0
  clear hr hby hv hL
  go_enter Try.func3, Try.ntmps3
  go_upto_region 3 with fail
  go_wp2_with fail
  refine (all6_any A n c g _ (by omega) HR.out).mono ?_
  rintro e w1 ⟨A1, c1, rfl, hown1, hB1⟩
  have HI1 : Hid (Ins w1 w1.heap.size A1 n c1 g) := Lib.hid ⟨hown1.cel, HR.out.2⟩
  have HB1 := Lib.hid hB1
  have hY1 := Lib.hid ((HY.out.below hB1).more hB1.size)
  have hown : Own_ (w1.alloc (.cells #[] 5)) w1.heap.size 5 (some ⟨w1.heap.size, 0, none⟩) 0 0 f := ⟨by simpa using World.ownsRow_lit (base := w1.heap.size) (e := 5) (size := 1) w1 #[] 0 (Nat.le_refl _) (by decide) rfl, fun i h => by omega⟩
  have HO := Lib.hid hown
  clear hown1 hB1 hown
  go_wp2_with (at_builtin; go_must (refine app_bytes _ rfl _ _ _ 5 rfl Try.underlying23 infoB rfl HO.out rfl (hY1.out.below ((Below.refl _ _).alloc (Nat.le_refl _) _)) (by omega) (by simp) ?_; rintro A4 c4 w2 hown2 hg2 hB2))
  rw [Nat.zero_add] at hown2
  have hb12 : Below w1.heap.size w1 w2 := ((Below.refl _ _).alloc (Nat.le_refl _) _).trans hB2
  have HI2 := Lib.hid ((HI1.out.below hb12).more hb12.size)
  have HY2 := Lib.hid ((hown2.congr (g := f) (fun i _ => by simp [cat])).byt)
  have HB2 := Lib.hid (HB1.out.trans (hb12.mono HB1.out.size))
  clear hown2 hg2 hB2 hb12 HO hY1 HI1 HB1
  refine (HV.out w2 A1 c1 A4 c4 HI2.out HY2.out).mono ?_
  rintro e w3 ⟨A5, c5, rfl, hc5, hB3⟩
  rw [HLL.out] at hc5 ⊢
  have hb3 := HB2.out.trans (hB3.mono HB2.out.size)
  obtain ⟨U, hU⟩ : ∃ U, w3.alloc (.cells #[.int .u32 0, .int .i64 0, .slice A5 L c5] 27) = U := ⟨_, rfl⟩
  have rU : RowAt U w3.heap.size #[.int .u32 0, .int .i64 0, .slice A5 L c5] 27 := by rw [← hU]; exact heap_alloc_last w3 _
  have bU : Below w0.heap.size w0 U := by rw [← hU]; exact hb3.alloc hb3.size _
  have cU : Cel U U.heap.size 1 A5 L c5 (lcell []) := by rw [← hU]; exact (hc5.below ((Below.refl _ _).alloc (Nat.le_refl _) _)).more (by simp)
  have HU := Lib.hid hU
  have RU := Lib.hid rU
  have BU := Lib.hid bU
  have CU := Lib.hid cU
  clear hU rU bU cU hb3 hc5 hB3 HI2 HY2 HB2 HV
  go_upto_region 4 with fail
  rw [HU.out]
  generalize w3.heap.size = X at *
  clear HU
  go_wp2_with fail
  refine (HC.out U ((HR.out.below BU.out).more BU.out.size)).mono ?_
  rintro e w4 ⟨rfl, hB4⟩
  have HR4 := Lib.hid (RU.out.below hB4 RU.out.lt)
  have BU4 := Lib.hid (BU.out.trans (hB4.mono BU.out.size))
  have CU4 := Lib.hid ((CU.out.below hB4).more hB4.size)
  clear hB4 RU BU CU

  go_wp2_with fail
  refine (all6_any A n c g _ (by omega) ((HR.out.below BU4.out).more BU4.out.size)).mono ?_
  rintro e w5 ⟨A6, c6, rfl, hown6, hB5⟩
  have HR5 := Lib.hid (HR4.out.below hB5 HR4.out.lt)
  have BU5 := Lib.hid (BU4.out.trans (hB5.mono BU4.out.size))
  have CU5 := Lib.hid ((CU4.out.below hB5).more hB5.size)
  have HI5 : Hid (Ins w5 w5.heap.size A6 n c6 g) := Lib.hid ⟨hown6.cel, HR.out.2⟩
  clear hown6 hB5 HR4 BU4 CU4
  go_wp2_with fail
  refine (HNE.out w5 A6 c6 HI5.out).mono ?_
  rintro e w6 ⟨rfl, hB6⟩
  have HR6 := Lib.hid (HR5.out.below hB6 HR5.out.lt)
  have BU6 := Lib.hid (BU5.out.trans (hB6.mono BU5.out.size))
  have CU6 := Lib.hid ((CU5.out.below hB6).more hB6.size)
  clear hB6 HR5 BU5 CU5 HI5
  go_upto_region 7 with fail
  have x0 := HR6.out.cell 0 _ rfl
  have x1 := HR6.out.cell 1 _ rfl
  have x2 := HR6.out.cell 2 _ rfl
  have hsame := same_yes 0 0 [] L HLL.out A5 none c5 0 w6 ⟨by rw [HLL.out]; exact CU6.out, nilR _ _⟩ hL2
  have hL0 : L = 0 := HLL.out.symm
  subst hL0
  have HSAME := Lib.hid hsame
  clear hsame
  go_wp2_with (first
    | (go_at_call 8
       refine HSAME.out.mono ?_
       rintro e w7 ⟨rfl, hB7⟩
       have hb7 := BU6.out.trans (hB7.mono BU6.out.size))
    | (go_at_call 9
       refine (hAW.out _).mono ?_
       rintro e w8 ⟨rfl, hB8⟩
       have hb8 := hb7.trans (hB8.mono hb7.size)))
  go_ret
  exact ⟨rfl, hb8⟩

set_option maxRecDepth 100000 in
set_option maxHeartbeats 16000000 in
theorem runs_short {w0 : World} (A : Option Addr) (n c : Nat) (g : Nat → IV) (hr : Ins w0 w0.heap.size A n c g) (A2 : Option Addr) (n2 c2 : Nat) (f : Nat → Nat) (hby : Byt w0 w0.heap.size A2 n2 c2 f) (hn : n ≤ 200) (hn2 : n2 ≤ 100)
    (v st er : Nat) (ld : List Nat) (hv : VR n n2 g f v st er ld) (hld : ld.length ≤ 1000000) (hy : (checkF g n).2 = 0) (hvz : v = 0 ∧ st = 0 ∧ ld = []) (h64 : n2 < 64) (her : er = 2) :
    Calls Try.prog 3 #[.slice A n c, .slice A2 n2 c2] w0 fun e w' => e = .returned (.bool true) ∧ Below w0.heap.size w0 w' := by
  have HR := Lib.hid hr
  have HY := Lib.hid hby
  have HV := Lib.hid hv
  have q1 : decide ((n : Int) > 200) = false := decide_eq_false (by omega)
  have q2 : ¬ (n : Int) > 200 := by omega
  have q3 : decide ((n2 : Int) > 100) = false := decide_eq_false (by omega)
  have q4 : ¬ (n2 : Int) > 100 := by omega
  obtain ⟨L, hL⟩ : ∃ L, ld.length = L := ⟨_, rfl⟩
  have HLL := Lib.hid hL
  have hL2 : L ≤ 1000000 := by omega
  have HC : Hid (∀ W, Ins W W.heap.size A n c g → Calls Try.prog 6 #[.slice A n c] W fun e w' => e = .returned (.tuple #[.int .i64 ((checkF g n).1 : Nat), .int .i64 (0 : Nat)]) ∧ Below W.heap.size W w') := Lib.hid fun W h => by
    have h2 := refCheck_any A n c g W h (by omega)
    rw [hy] at h2
    exact h2
  obtain ⟨rfl, rfl, rfl⟩ := hvz
  have hAW := Lib.hid awake6_any
  subst her
  have s1 : (n2 : Int) < 64 := by omega
  have s2 : decide ((n2 : Int) < 64) = true := decide_eq_true s1
  clear hr hby hv hL
  go_enter Try.func3, Try.ntmps3
  go_upto_region 3 with fail
  go_wp2_with fail
  refine (all6_any A n c g _ (by omega) HR.out).mono ?_
  rintro e w1 ⟨A1, c1, rfl, hown1, hB1⟩
  have HI1 : Hid (Ins w1 w1.heap.size A1 n c1 g) := Lib.hid ⟨hown1.cel, HR.out.2⟩
  have HB1 := Lib.hid hB1
  have hY1 := Lib.hid ((HY.out.below hB1).more hB1.size)
  have hown : Own_ (w1.alloc (.cells #[] 5)) w1.heap.size 5 (some ⟨w1.heap.size, 0, none⟩) 0 0 f := ⟨by simpa using World.ownsRow_lit (base := w1.heap.size) (e := 5) (size := 1) w1 #[] 0 (Nat.le_refl _) (by decide) rfl, fun i h => by omega⟩
  have HO := Lib.hid hown
  clear hown1 hB1 hown
  go_wp2_with (at_builtin; go_must (refine app_bytes _ rfl _ _ _ 5 rfl Try.underlying23 infoB rfl HO.out rfl (hY1.out.below ((Below.refl _ _).alloc (Nat.le_refl _) _)) (by omega) (by simp) ?_; rintro A4 c4 w2 hown2 hg2 hB2))
  rw [Nat.zero_add] at hown2
  have hb12 : Below w1.heap.size w1 w2 := ((Below.refl _ _).alloc (Nat.le_refl _) _).trans hB2
  have HI2 := Lib.hid ((HI1.out.below hb12).more hb12.size)
  have HY2 := Lib.hid ((hown2.congr (g := f) (fun i _ => by simp [cat])).byt)
  have HB2 := Lib.hid (HB1.out.trans (hb12.mono HB1.out.size))
  clear hown2 hg2 hB2 hb12 HO hY1 HI1 HB1
  refine (HV.out w2 A1 c1 A4 c4 HI2.out HY2.out).mono ?_
  rintro e w3 ⟨A5, c5, rfl, hc5, hB3⟩
  rw [HLL.out] at hc5 ⊢
  have hb3 := HB2.out.trans (hB3.mono HB2.out.size)
  obtain ⟨U, hU⟩ : ∃ U, w3.alloc (.cells #[.int .u32 0, .int .i64 0, .slice A5 L c5] 27) = U := ⟨_, rfl⟩
  have rU : RowAt U w3.heap.size #[.int .u32 0, .int .i64 0, .slice A5 L c5] 27 := by rw [← hU]; exact heap_alloc_last w3 _
  have bU : Below w0.heap.size w0 U := by rw [← hU]; exact hb3.alloc hb3.size _
  have cU : Cel U U.heap.size 1 A5 L c5 (lcell []) := by rw [← hU]; exact (hc5.below ((Below.refl _ _).alloc (Nat.le_refl _) _)).more (by simp)
  have HU := Lib.hid hU
  have RU := Lib.hid rU
  have BU := Lib.hid bU
  have CU := Lib.hid cU
  clear hU rU bU cU hb3 hc5 hB3 HI2 HY2 HB2 HV
  go_upto_region 4 with fail
  rw [HU.out]
  generalize w3.heap.size = X at *
  clear HU
  go_wp2_with fail
  refine (HC.out U ((HR.out.below BU.out).more BU.out.size)).mono ?_
  rintro e w4 ⟨rfl, hB4⟩
  have HR4 := Lib.hid (RU.out.below hB4 RU.out.lt)
  have BU4 := Lib.hid (BU.out.trans (hB4.mono BU.out.size))
  have CU4 := Lib.hid ((CU.out.below hB4).more hB4.size)
  clear hB4 RU BU CU

  go_upto_region 9 with fail
  have x0 := HR4.out.cell 0 _ rfl
  have x1 := HR4.out.cell 1 _ rfl
  have x2 := HR4.out.cell 2 _ rfl
  have hsame := same_yes 0 0 [] L HLL.out A5 none c5 0 w4 ⟨by rw [HLL.out]; exact CU4.out, nilR _ _⟩ hL2
  have hL0 : L = 0 := HLL.out.symm
  subst hL0
  have HSAME := Lib.hid hsame
  clear hsame
  go_wp2_with (first
    | (go_at_call 8
       refine HSAME.out.mono ?_
       rintro e w7 ⟨rfl, hB7⟩
       have hb7 := BU4.out.trans (hB7.mono BU4.out.size))
    | (go_at_call 9
       refine (hAW.out _).mono ?_
       rintro e w8 ⟨rfl, hB8⟩
       have hb8 := hb7.trans (hB8.mono hb7.size)))
  go_ret
  exact ⟨rfl, hb8⟩

set_option maxRecDepth 100000 in
set_option maxHeartbeats 16000000 in
theorem runs_long {w0 : World} (A : Option Addr) (n c : Nat) (g : Nat → IV) (hr : Ins w0 w0.heap.size A n c g) (A2 : Option Addr) (n2 c2 : Nat) (f : Nat → Nat) (hby : Byt w0 w0.heap.size A2 n2 c2 f) (hn : n ≤ 200) (hn2 : n2 ≤ 100)
    (v st er : Nat) (ld : List Nat) (hv : VR n n2 g f v st er ld) (hld : ld.length ≤ 1000000) (hy : (checkF g n).2 = 0) (hvz : v = 0 ∧ st = 0 ∧ ld = []) (h64 : 64 < n2) (her : er = 3) :
    Calls Try.prog 3 #[.slice A n c, .slice A2 n2 c2] w0 fun e w' => e = .returned (.bool true) ∧ Below w0.heap.size w0 w' := by
  have HR := Lib.hid hr
  have HY := Lib.hid hby
  have HV := Lib.hid hv
  have q1 : decide ((n : Int) > 200) = false := decide_eq_false (by omega)
  have q2 : ¬ (n : Int) > 200 := by omega
  have q3 : decide ((n2 : Int) > 100) = false := decide_eq_false (by omega)
  have q4 : ¬ (n2 : Int) > 100 := by omega
  obtain ⟨L, hL⟩ : ∃ L, ld.length = L := ⟨_, rfl⟩
  have HLL := Lib.hid hL
  have hL2 : L ≤ 1000000 := by omega
  have HC : Hid (∀ W, Ins W W.heap.size A n c g → Calls Try.prog 6 #[.slice A n c] W fun e w' => e = .returned (.tuple #[.int .i64 ((checkF g n).1 : Nat), .int .i64 (0 : Nat)]) ∧ Below W.heap.size W w') := Lib.hid fun W h => by
    have h2 := refCheck_any A n c g W h (by omega)
    rw [hy] at h2
    exact h2
  obtain ⟨rfl, rfl, rfl⟩ := hvz
  have hAW := Lib.hid awake6_any
  subst her
  have s1 : ¬ (n2 : Int) < 64 := by omega
  have s2 : decide ((n2 : Int) < 64) = false := decide_eq_false s1
  have s3 : (n2 : Int) > 64 := by omega
  have s4 : decide ((n2 : Int) > 64) = true := decide_eq_true s3
  clear hr hby hv hL
  go_enter Try.func3, Try.ntmps3
  go_upto_region 3 with fail
  go_wp2_with fail
  refine (all6_any A n c g _ (by omega) HR.out).mono ?_
  rintro e w1 ⟨A1, c1, rfl, hown1, hB1⟩
  have HI1 : Hid (Ins w1 w1.heap.size A1 n c1 g) := Lib.hid ⟨hown1.cel, HR.out.2⟩
  have HB1 := Lib.hid hB1
  have hY1 := Lib.hid ((HY.out.below hB1).more hB1.size)
  have hown : Own_ (w1.alloc (.cells #[] 5)) w1.heap.size 5 (some ⟨w1.heap.size, 0, none⟩) 0 0 f := ⟨by simpa using World.ownsRow_lit (base := w1.heap.size) (e := 5) (size := 1) w1 #[] 0 (Nat.le_refl _) (by decide) rfl, fun i h => by omega⟩
  have HO := Lib.hid hown
  clear hown1 hB1 hown
  go_wp2_with (at_builtin; go_must (refine app_bytes _ rfl _ _ _ 5 rfl Try.underlying23 infoB rfl HO.out rfl (hY1.out.below ((Below.refl _ _).alloc (Nat.le_refl _) _)) (by omega) (by simp) ?_; rintro A4 c4 w2 hown2 hg2 hB2))
  rw [Nat.zero_add] at hown2
  have hb12 : Below w1.heap.size w1 w2 := ((Below.refl _ _).alloc (Nat.le_refl _) _).trans hB2
  have HI2 := Lib.hid ((HI1.out.below hb12).more hb12.size)
  have HY2 := Lib.hid ((hown2.congr (g := f) (fun i _ => by simp [cat])).byt)
  have HB2 := Lib.hid (HB1.out.trans (hb12.mono HB1.out.size))
  clear hown2 hg2 hB2 hb12 HO hY1 HI1 HB1
  refine (HV.out w2 A1 c1 A4 c4 HI2.out HY2.out).mono ?_
  rintro e w3 ⟨A5, c5, rfl, hc5, hB3⟩
  rw [HLL.out] at hc5 ⊢
  have hb3 := HB2.out.trans (hB3.mono HB2.out.size)
  obtain ⟨U, hU⟩ : ∃ U, w3.alloc (.cells #[.int .u32 0, .int .i64 0, .slice A5 L c5] 27) = U := ⟨_, rfl⟩
  have rU : RowAt U w3.heap.size #[.int .u32 0, .int .i64 0, .slice A5 L c5] 27 := by rw [← hU]; exact heap_alloc_last w3 _
  have bU : Below w0.heap.size w0 U := by rw [← hU]; exact hb3.alloc hb3.size _
  have cU : Cel U U.heap.size 1 A5 L c5 (lcell []) := by rw [← hU]; exact (hc5.below ((Below.refl _ _).alloc (Nat.le_refl _) _)).more (by simp)
  have HU := Lib.hid hU
  have RU := Lib.hid rU
  have BU := Lib.hid bU
  have CU := Lib.hid cU
  clear hU rU bU cU hb3 hc5 hB3 HI2 HY2 HB2 HV
  go_upto_region 4 with fail
  rw [HU.out]
  generalize w3.heap.size = X at *
  clear HU
  go_wp2_with fail
  refine (HC.out U ((HR.out.below BU.out).more BU.out.size)).mono ?_
  rintro e w4 ⟨rfl, hB4⟩
  have HR4 := Lib.hid (RU.out.below hB4 RU.out.lt)
  have BU4 := Lib.hid (BU.out.trans (hB4.mono BU.out.size))
  have CU4 := Lib.hid ((CU.out.below hB4).more hB4.size)
  clear hB4 RU BU CU

  go_upto_region 11 with fail
  have x0 := HR4.out.cell 0 _ rfl
  have x1 := HR4.out.cell 1 _ rfl
  have x2 := HR4.out.cell 2 _ rfl
  have hsame := same_yes 0 0 [] L HLL.out A5 none c5 0 w4 ⟨by rw [HLL.out]; exact CU4.out, nilR _ _⟩ hL2
  have hL0 : L = 0 := HLL.out.symm
  subst hL0
  have HSAME := Lib.hid hsame
  clear hsame
  go_wp2_with (first
    | (go_at_call 8
       refine HSAME.out.mono ?_
       rintro e w7 ⟨rfl, hB7⟩
       have hb7 := BU4.out.trans (hB7.mono BU4.out.size))
    | (go_at_call 9
       refine (hAW.out _).mono ?_
       rintro e w8 ⟨rfl, hB8⟩
       have hb8 := hb7.trans (hB8.mono hb7.size)))
  go_ret
  exact ⟨rfl, hb8⟩

set_option maxRecDepth 100000 in
set_option maxHeartbeats 16000000 in
theorem runs_ok {w0 : World} (A : Option Addr) (n c : Nat) (g : Nat → IV) (hr : Ins w0 w0.heap.size A n c g) (A2 : Option Addr) (n2 c2 : Nat) (f : Nat → Nat) (hby : Byt w0 w0.heap.size A2 n2 c2 f) (hn : n ≤ 200) (hn2 : n2 ≤ 100)
    (v st er : Nat) (ld : List Nat) (hv : VR n n2 g f v st er ld) (hld : ld.length ≤ 1000000) (hy : (checkF g n).2 = 0) (h64 : n2 = 64) (her : er = 0) (hrr : ∀ W, Ins W W.heap.size A n c g → Byt W W.heap.size A2 64 c2 f → Calls Try.prog 10 #[.slice A n c, .slice A2 64 c2] W fun e w' => ∃ A' c', e = .returned (.agg #[.int .u32 v, .int .i64 st, .slice A' ld.length c']) ∧ Cel w' w'.heap.size 1 A' ld.length c' (lcell ld) ∧ Below W.heap.size W w') :
    Calls Try.prog 3 #[.slice A n c, .slice A2 n2 c2] w0 fun e w' => e = .returned (.bool true) ∧ Below w0.heap.size w0 w' := by
  have HR := Lib.hid hr
  have HY := Lib.hid hby
  have HV := Lib.hid hv
  have q1 : decide ((n : Int) > 200) = false := decide_eq_false (by omega)
  have q2 : ¬ (n : Int) > 200 := by omega
  have q3 : decide ((n2 : Int) > 100) = false := decide_eq_false (by omega)
  have q4 : ¬ (n2 : Int) > 100 := by omega
  obtain ⟨L, hL⟩ : ∃ L, ld.length = L := ⟨_, rfl⟩
  have HLL := Lib.hid hL
  have hL2 : L ≤ 1000000 := by omega
  have HC : Hid (∀ W, Ins W W.heap.size A n c g → Calls Try.prog 6 #[.slice A n c] W fun e w' => e = .returned (.tuple #[.int .i64 ((checkF g n).1 : Nat), .int .i64 (0 : Nat)]) ∧ Below W.heap.size W w') := Lib.hid fun W h => by
    have h2 := refCheck_any A n c g W h (by omega)
    rw [hy] at h2
    exact h2
  subst her
  subst h64
  have HRR := Lib.hid hrr
  have hAW := Lib.hid awake6_any
  clear hrr
  clear hr hby hv hL
  go_enter Try.func3, Try.ntmps3
  go_upto_region 3 with fail
  go_wp2_with fail
  refine (all6_any A n c g _ (by omega) HR.out).mono ?_
  rintro e w1 ⟨A1, c1, rfl, hown1, hB1⟩
  have HI1 : Hid (Ins w1 w1.heap.size A1 n c1 g) := Lib.hid ⟨hown1.cel, HR.out.2⟩
  have HB1 := Lib.hid hB1
  have hY1 := Lib.hid ((HY.out.below hB1).more hB1.size)
  have hown : Own_ (w1.alloc (.cells #[] 5)) w1.heap.size 5 (some ⟨w1.heap.size, 0, none⟩) 0 0 f := ⟨by simpa using World.ownsRow_lit (base := w1.heap.size) (e := 5) (size := 1) w1 #[] 0 (Nat.le_refl _) (by decide) rfl, fun i h => by omega⟩
  have HO := Lib.hid hown
  clear hown1 hB1 hown
  go_wp2_with (at_builtin; go_must (refine app_bytes _ rfl _ _ _ 5 rfl Try.underlying23 infoB rfl HO.out rfl (hY1.out.below ((Below.refl _ _).alloc (Nat.le_refl _) _)) (by omega) (by simp) ?_; rintro A4 c4 w2 hown2 hg2 hB2))
  rw [Nat.zero_add] at hown2
  have hb12 : Below w1.heap.size w1 w2 := ((Below.refl _ _).alloc (Nat.le_refl _) _).trans hB2
  have HI2 := Lib.hid ((HI1.out.below hb12).more hb12.size)
  have HY2 := Lib.hid ((hown2.congr (g := f) (fun i _ => by simp [cat])).byt)
  have HB2 := Lib.hid (HB1.out.trans (hb12.mono HB1.out.size))
  clear hown2 hg2 hB2 hb12 HO hY1 HI1 HB1
  refine (HV.out w2 A1 c1 A4 c4 HI2.out HY2.out).mono ?_
  rintro e w3 ⟨A5, c5, rfl, hc5, hB3⟩
  rw [HLL.out] at hc5 ⊢
  have hb3 := HB2.out.trans (hB3.mono HB2.out.size)
  obtain ⟨U, hU⟩ : ∃ U, w3.alloc (.cells #[.int .u32 v, .int .i64 st, .slice A5 L c5] 27) = U := ⟨_, rfl⟩
  have rU : RowAt U w3.heap.size #[.int .u32 v, .int .i64 st, .slice A5 L c5] 27 := by rw [← hU]; exact heap_alloc_last w3 _
  have bU : Below w0.heap.size w0 U := by rw [← hU]; exact hb3.alloc hb3.size _
  have cU : Cel U U.heap.size 1 A5 L c5 (lcell ld) := by rw [← hU]; exact (hc5.below ((Below.refl _ _).alloc (Nat.le_refl _) _)).more (by simp)
  have HU := Lib.hid hU
  have RU := Lib.hid rU
  have BU := Lib.hid bU
  have CU := Lib.hid cU
  clear hU rU bU cU hb3 hc5 hB3 HI2 HY2 HB2 HV
  go_upto_region 4 with fail
  rw [HU.out]
  generalize w3.heap.size = X at *
  clear HU
  go_wp2_with fail
  refine (HC.out U ((HR.out.below BU.out).more BU.out.size)).mono ?_
  rintro e w4 ⟨rfl, hB4⟩
  have HR4 := Lib.hid (RU.out.below hB4 RU.out.lt)
  have BU4 := Lib.hid (BU.out.trans (hB4.mono BU.out.size))
  have CU4 := Lib.hid ((CU.out.below hB4).more hB4.size)
  clear hB4 RU BU CU

  go_upto_region 12 with fail
  have HRW := Lib.hid (HRR.out)
  rw [HLL.out] at HRW
  have hS : Hid (∀ W, Below w4.heap.size w4 W → W.cell? ⟨X, 0, none⟩ = some (.int .u32 v) ∧ W.cell? ⟨X, 1, none⟩ = some (.int .i64 st) ∧ W.cell? ⟨X, 2, none⟩ = some (.slice A5 L c5)) := Lib.hid fun W hW => ⟨(HR4.out.below hW HR4.out.lt).cell 0 _ rfl, (HR4.out.below hW HR4.out.lt).cell 1 _ rfl, (HR4.out.below hW HR4.out.lt).cell 2 _ rfl⟩
  have hk0 : Below w4.heap.size w4 w4.drew := (Below.refl _ w4).drew
  clear HRR
  go_region_held3 (fun w' => w'.cell? ⟨X, 0, none⟩ = some (.int .u32 v) ∧ w'.cell? ⟨X, 1, none⟩ = some (.int .i64 st) ∧ w'.cell? ⟨X, 2, none⟩ = some (.slice A5 L c5))
    (first | exact hS.out _ hk3 | exact hS.out _ hk2 | exact hS.out _ hk1 | exact hS.out _ hk0 | assumption | go_keep)
    (first
      | (go_at_call 10
         (with_reducible refine (HRW.out _ ((HR.out.below (BU4.out.trans (hk0.mono BU4.out.size))).more (BU4.out.trans (hk0.mono BU4.out.size)).size) ((HY.out.below (BU4.out.trans (hk0.mono BU4.out.size))).more (BU4.out.trans (hk0.mono BU4.out.size)).size)).mono ?_)
         rintro e w7 ⟨A7, c7, rfl, hc7, hB7⟩
         have hk1 := hk0.trans (hB7.mono hk0.size)
         have HC7 := Lib.hid hc7
         clear hc7)
      | (go_at_call 8
         (with_reducible refine (same_yes v st ld L HLL.out A5 A7 c5 c7 _ (sameR_mk (by rw [HLL.out]; exact (CU4.out.below hk1).more hk1.size) (by rw [HLL.out]; exact HC7.out)) hL2).mono ?_)
         rintro e w8 ⟨rfl, hB8⟩
         have hk2 := hk1.trans (hB8.mono hk1.size))
      | (go_at_call 9
         (with_reducible refine (hAW.out _).mono ?_)
         rintro e w9 ⟨rfl, hB9⟩
         have hk3 := hk2.trans (hB9.mono hk2.size)))
  all_goals go_wp2
  all_goals go_ret
  all_goals exact ⟨rfl, BU4.out.trans (hk3.mono BU4.out.size)⟩

set_option maxRecDepth 100000 in
set_option maxHeartbeats 4000000 in
theorem runs_great {w0 : World} (A : Option Addr) (n c : Nat) (A2 : Option Addr) (n2 c2 : Nat) (h : ¬ (n ≤ 200 ∧ n2 ≤ 100)) :
    Calls Try.prog 3 #[.slice A n c, .slice A2 n2 c2] w0 fun e w' => e = .returned (.bool true) ∧ Below w0.heap.size w0 w' := by
  by_cases hn : n ≤ 200
  · have hn2 : ¬ n2 ≤ 100 := fun h2 => h ⟨hn, h2⟩
    have q1 : decide ((n : Int) > 200) = false := decide_eq_false (by omega)
    have q2 : ¬ (n : Int) > 200 := by omega
    have q3 : decide ((n2 : Int) > 100) = true := decide_eq_true (by omega)
    have q4 : (n2 : Int) > 100 := by omega
    go_enter Try.func3, Try.ntmps3
    go_wp2
    go_ret
    exact ⟨rfl, Below.refl _ _⟩
  · have q1 : decide ((n : Int) > 200) = true := decide_eq_true (by omega)
    have q2 : (n : Int) > 200 := by omega
    go_enter Try.func3, Try.ntmps3
    go_wp2
    go_ret
    exact ⟨rfl, Below.refl _ _⟩
theorem walk_VmRuns {w0 : World} (A : Option Addr) (n c : Nat) (g : Nat → IV) (hr : Ins w0 w0.heap.size A n c g) (A2 : Option Addr) (n2 c2 : Nat) (f : Nat → Nat) (hby : Byt w0 w0.heap.size A2 n2 c2 f) :
    Calls Try.prog 3 #[.slice A n c, .slice A2 n2 c2] w0 fun e w' => e = .returned (.bool true) ∧ Below w0.heap.size w0 w' := by
  by_cases hs : n ≤ 200 ∧ n2 ≤ 100
  · by_cases hy : (checkF g n).2 = 0
    · by_cases h64 : n2 = 64
      · subst h64
        obtain ⟨h0, h1, h2, h3⟩ := checkF_facts hy
        have hbl : Byt w0 w0.heap.size A2 64 c2 (lim f) := byt_lim hby
        have hf : ∀ i, lim f i < 256 := lim_lt f (fun i hi => hby.lt hi)
        obtain ⟨val, sF, hrun⟩ := run_total (lim f) g n h2 h3 n zst h0 (by show n - 0 ≤ n; omega)
        obtain ⟨b1, b2, b3, b4⟩ := run_bounds (lim f) g n h2 h3 n zst val sF h0 hrun (Nat.le_refl _) (fun k hk => by cases hk)
        refine runs_ok A n c g hr A2 64 c2 (lim f) hbl hs.1 hs.2 val sF.st 0 sF.ld (fun W A3 c3 A4 c4 hi hb => ?_) ?_ hy rfl rfl (fun W hi hb => ?_)
        · refine (vrun_okL A3 n c3 g A4 c4 (lim f) W val sF hi hy hb hf hrun).mono ?_
          rintro e w' ⟨A', c', he, ho, hB⟩
          exact ⟨A', c', he, ho.cel, hB⟩
        · have hz : zst.st = 0 := rfl
          omega
        · refine (refRun_any A n c g A2 c2 (lim f) W val sF hi (by omega) h0 h2 h3 hb hf hrun).mono ?_
          rintro e w' ⟨A', c', he, ho, hB⟩
          exact ⟨A', c', he, ho.cel, hB⟩
      · have hz : ∀ y : Nat, y = (if n2 < 64 then 2 else 3) → VR n n2 g f 0 0 y [] := fun y hye W A3 c3 A4 c4 hi hb => by
          refine (vrun_sizeL A3 n c3 g A4 n2 c4 W y hi hy (by omega) h64 hye).mono ?_
          rintro e w' ⟨he, hB⟩
          exact ⟨none, 0, he, nilR _ _, hB⟩
        by_cases hl : n2 < 64
        · exact runs_short A n c g hr A2 n2 c2 f hby hs.1 hs.2 0 0 2 [] (hz 2 (by rw [if_pos hl])) (by decide) hy ⟨rfl, rfl, rfl⟩ hl rfl
        · exact runs_long A n c g hr A2 n2 c2 f hby hs.1 hs.2 0 0 3 [] (hz 3 (by rw [if_neg hl])) (by decide) hy ⟨rfl, rfl, rfl⟩ (by omega) rfl
    · refine runs_err A n c g hr A2 n2 c2 f hby hs.1 hs.2 0 0 _ [] (fun W A3 c3 A4 c4 hi hb => ?_) (by decide) _ rfl hy rfl ⟨rfl, rfl, rfl⟩
      refine (vrun_errL A3 n c3 g A4 n2 c4 W _ hi rfl hy).mono ?_
      rintro e w' ⟨he, hB⟩
      exact ⟨none, 0, he, nilR _ _, hB⟩
  · exact runs_great A n c A2 n2 c2 hs

namespace vmRunsRow
open Go.ChangeShapes Go.WideShapes Go.ChangeAt Go.RowKit Go.Joins
open Go.ChangeMaps (open_string shut_string)
set_option linter.unusedVariables false
theorem own : ownKnob Try.prog.godebug = none := by kernel_rfl
theorem laidOut : laidOutB Try.prog = true := by kernel_rfl
set_option maxRecDepth 100000 in
theorem lifted (os : Os) (started : os.Started) (H : Type) (enc : TypeId × Value → H) :
    ReturnsInHanded {} Try.checked os 3 .any (Rows.vmRunsSpec.pre6 enc Try.prog Try.f3 Rows.vmRunsRow.domain false) (Rows.vmRunsSpec.post enc Try.prog Try.f3 false true false false) := by
  refine returnsInHanded_of_change (C := Try.checked) own started (by kernel_rfl) Try.func3
    (ChangeSpec.witness6 (enc := enc) (C := Try.checked) false ⟨#[], #[.slice none 0 0, .slice none 0 0], []⟩ 8 (by kernel_rfl) (by kernel_rfl) (by kernel_rfl) (by kernel_rfl)) ?_
  intro W base args ds gs before hval0 hW hcnd _
  have hval : ∀ (j : Nat) t v, Try.f3.params[j]? = some t → args[j]? = some v → Value.okWide Try.prog W .any base t v := hval0
  have hW' := hW
  obtain ⟨p, q, hA0, hV, rfl, hfz, hnd⟩ := hW
  have hA : DataW.TrodAll enc Try.prog W 0 (fun _ => true) true Try.f3.params.toList args.toList ds p := hA0
  rw [Try.params3] at hA hval
  obtain ⟨v0, vs0, d0, ds0, p0, q0, hargs, rfl, rfl, h0, r0⟩ := trodAll_cons hA
  obtain ⟨v1, vs1, d1, ds1, p1, q1, rfl, rfl, rfl, h1, r1⟩ := trodAll_cons r0
  obtain ⟨rfl, rfl, rfl⟩ := trodAll_nil r1
  obtain rfl : args = #[v0, v1] := by cases args; simp_all
  obtain ⟨rfl, rfl⟩ := trodVars_none hV
  have k0 := h0
  have lt0 : ∀ x ∈ p0, x.block < W.heap.size := by obtain ⟨m, hm⟩ := k0; exact DataW.trod_lt m _ _ _ hm
  have k1 := h1
  have lt1 : ∀ x ∈ p1, x.block < W.heap.size := by obtain ⟨m, hm⟩ := k1; exact DataW.trod_lt m _ _ _ hm
  obtain ⟨a0, len0, cap0, rfl⟩ := okWide_slice Try.underlying22 (hval 0 22 v0 rfl rfl)
  obtain ⟨g0, w0⟩ := open_ins h0
  obtain ⟨a1, len1, cap1, rfl⟩ := okWide_slice Try.underlying23 (hval 1 23 v1 rfl rfl)
  obtain ⟨f1, w1⟩ : ∃ f, Byt W W.heap.size a1 len1 cap1 f := by
    obtain ⟨fuel, hf⟩ := h1
    rcases open_ints Try.underlying23 Try.underlying5 (by kernel_rfl) hf with ⟨hcs, _⟩ | ⟨x, l, c, zs, hcs, _, hl, hm, hz, _, hcell, hwz⟩
    · simp [Value.cells] at hcs
      obtain ⟨rfl, rfl, rfl⟩ := hcs
      exact ⟨fun _ => 0, Byt.nil_⟩
    · simp [Value.cells] at hcs
      obtain ⟨rfl, rfl, rfl⟩ := hcs
      exact ⟨_, byt_of_ints hl hm (by have : zs.length = cap1 := by simpa using hz
                                      omega) hcell hwz⟩
  clear hA0 hval0
  refine (walk_VmRuns (w0 := W) a0 len0 cap0 g0 w0 a1 len1 cap1 f1 w1).mono fun e W' ⟨he, bel⟩ => ?_
  subst he
  exact ⟨_, rfl, _, _, _, [], _, [], hW', trodAll_mk1 (shut_bool Try.underlying4 _), (trodAll_cons_mk (Below.trod laidOut (by kernel_rfl) (of_decide_eq_true (by kernel_rfl)) k0 bel lt0) (trodAll_cons_mk (Below.trod laidOut (by kernel_rfl) (of_decide_eq_true (by kernel_rfl)) k1 bel lt1) trodAll_mk0)), rfl, bel.frame _, fun h => by cases h⟩

theorem over : Rows.vmRunsRow.holds Try.pinned (OpenSpec.ofChange Rows.vmRunsSpec) :=
  OpenClaim.holds_of_wide 3 Try.f3 rfl rfl rfl rfl rfl rfl rfl ⟨rfl, rfl, rfl, rfl, rfl⟩ rfl rfl rfl rfl rfl (by kernel_rfl) Try.func3 (by kernel_rfl)
    (of_decide_eq_true (by kernel_rfl)) (by unfold Func.isWrapper; first | (rw [if_pos (by decide +kernel)]; kernel_rfl) | (rw [if_neg (by decide +kernel)]; exact ⟨rfl, rfl⟩))
    (fun os started H enc _ => lifted os started H enc)
end vmRunsRow

theorem vmRuns_proved : Rows.VmRunsSaid := vmRunsRow.over
#print axioms vmRuns_proved
end Go.Proofs.Ytgojhmknmaaodaa
