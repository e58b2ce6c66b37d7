/-
  The law VmAgain holds for every input: a machine that ran tells the same again. No condition (the law itself lets more than 200 instructions go).
-/
import Derived.Test.YtpjhcaabjgbkjaaVn
import Derived.Test.YtpjhcaabjgbkjaaVl
import Derived.Test.YtpjhcaabjgbkjaaIf
import Derived.Test.YtpjhcaabjgbkjaaRows
import Derived.Below
import Derived.ChangeOld
import Derived.ShutString
import Derived.Lib.SmallJoins
import Derived.OpenShut
import Derived.ProofKit
import Derived.WalkKit
import Derived.Deep.RegionWith
import Derived.Deep.RegionLaw
namespace Go.Proofs.Ytpjhcaabjgbkjaa
open Go.RowKit

/-- A store of a whole row as a step of a region that draws its order. -/
theorem step_store_row {P : Program} {w : World} {ops : Array Oper} {o : Oper} {a : Act} {K : Act → World → Prop} {Q : Exit → Act → World → Prop} {R : Prop} (hgd : o.guard = none) (ty : TypeId) (x y : Operand) (ho : o.op = .store ty x y)
    (g : Nat) (cells : Array Value) (hx : a.eval x = .pointer (some ⟨g, 0, none⟩)) (hy : a.eval y = .agg cells) (t : TypeId) (old : Array Value) (hg : w.heap[g]? = some (.cells old t (0, 0))) (hi : (P.info? ty).map (·.size) = some cells.size)
    (hold : old.size = cells.size) (h1 : cells.all (·.oneCell') = true) (h : K (a.put o.dst undef) (w.setRow g cells)) :
    if Region.wanted o (yielded ops a.tmps) = true then Oper.wp P o a w K Q else R := by
  have hw : Region.wanted o (yielded ops a.tmps) = true := by simp [Region.wanted, hgd]
  rw [if_pos hw]
  exact wp_store_row ty x y ho g cells hx hy t old hg hi hold h1 h
theorem out_cells {w : World} {b : Nat} (h : w.heap[b]? = some (.cells zOut 50)) : w.cell? ⟨b, 0, none⟩ = some (.int .u32 0) ∧ w.cell? ⟨b, 1, none⟩ = some (.int .i64 0) ∧ w.cell? ⟨b, 2, none⟩ = some (.slice none 0 0) ∧ w.frozen? ⟨b, 0, none⟩ = false ∧ w.frozen? ⟨b, 1, none⟩ = false ∧ w.frozen? ⟨b, 2, none⟩ = false := by
  refine ⟨?_, ?_, ?_, ?_, ?_, ?_⟩
  · rw [cell_of_row _ _ 0 _ _ (0, 0) h]; rfl
  · rw [cell_of_row _ _ 1 _ _ (0, 0) h]; rfl
  · rw [cell_of_row _ _ 2 _ _ (0, 0) h]; rfl
  all_goals simp [World.frozen?, h]
/-- What is read of the end of a run. -/
def TailF (W : World) (blk B st : Nat) (ld : List Nat) (A3 : Option Addr) (c3 : Nat) : Prop :=
  W.cell? ⟨blk, 1, none⟩ = some (.int .i64 (st : Int)) ∧ W.cell? ⟨blk, 2, none⟩ = some (.slice A3 ld.length c3) ∧ OwnC W B 3 1 A3 ld.length c3 (lcell ld)
theorem tail_set {w : World} {blk B st c3 : Nat} {ld : List Nat} {A3 : Option Addr} (val : Nat) (ho : OwnC w B 3 1 A3 ld.length c3 (lcell ld)) (hlt : blk < B) {v1 v2 : Value} (p1 : w.cell? ⟨blk, 1, none⟩ = some v1) (p2 : w.cell? ⟨blk, 2, none⟩ = some v2) :
    TailF (((w.setCell ⟨blk, 0, none⟩ (.int .u32 (val : Int))).setCell ⟨blk, 1, none⟩ (.int .i64 (st : Int))).setCell ⟨blk, 2, none⟩ (.slice A3 ld.length c3)) blk B st ld A3 c3 := by
  refine ⟨?_, ?_, ((ho.set_other hlt 0 _).set_other hlt 1 _).set_other hlt 2 _⟩
  · rw [World.cell?_setCell_other _ _ _ _ (by intro e; injection e with _ e; cases e)]
    exact World.cell?_setCell_same' _ _ _ (by rw [World.cell?_setCell_other _ _ _ _ (by intro e; injection e with _ e; cases e), p1]; rfl)
  · exact World.cell?_setCell_same' _ _ _ (by rw [World.cell?_setCell_other _ _ _ _ (by intro e; injection e with _ e; cases e), World.cell?_setCell_other _ _ _ _ (by intro e; injection e with _ e; cases e), p2]; rfl)
theorem tail_new {w : World} {B st c3 : Nat} {ld : List Nat} {A3 : Option Addr} (val : Nat) (ho : OwnC w B 3 1 A3 ld.length c3 (lcell ld)) :
    TailF (w.alloc (.cells #[.int .u32 (val : Int), .int .i64 (st : Int), .slice A3 ld.length c3] 50)) w.heap.size B st ld A3 c3 := by
  have hh := heap_alloc_last w (.cells #[.int .u32 (val : Int), .int .i64 (st : Int), .slice A3 ld.length c3] 50)
  refine ⟨?_, ?_, ho.alloc _⟩
  · rw [cell_of_row _ _ 1 _ _ (0, 0) hh]; rfl
  · rw [cell_of_row _ _ 2 _ _ (0, 0) hh]; rfl
theorem vrun_errL (A : Option Addr) (n c : Nat) (g : Nat → IV) (A2 : Option Addr) (n2 c2 : Nat) (w : World) (y : Nat) (hr : Ins w w.heap.size A n c g) (hy : (checkF g n).2 = y) (he : y ≠ 0) :
    Calls Try.prog 24 #[.slice A n c, .slice A2 n2 c2] w fun e w' => e = .returned (.tuple #[.agg #[.int .u32 0, .int .i64 0, .slice none 0 0], .int .i64 (y : Int)]) ∧ Below w.heap.size w w' := by
  subst hy
  exact vrun_err A n c g A2 n2 c2 w hr he
theorem new_errL (A : Option Addr) (n c : Nat) (g : Nat → IV) (w : World) (y : Nat) (hr : Ins w w.heap.size A n c g) (hy : (checkF g n).2 = y) (he : y ≠ 0) :
    Calls Try.prog 27 #[.slice A n c] w fun e w' => e = .returned (.tuple #[.pointer none, .int .i64 (y : Int)]) ∧ Below w.heap.size w w' := by
  subst hy
  exact new_err A n c g w hr he
theorem mrun_nilL (A : Option Addr) (c : Nat) (w : World) :
    Calls Try.prog 31 #[.pointer none, .slice A 64 c] w fun e w' => e = .returned (.tuple #[.agg #[.int .u32 0, .int .i64 0, .slice none 0 0], .int .i64 18]) ∧ Below w.heap.size w w' := mrun_nil A c w
theorem mrun_okL (mb n : Nat) (g : Nat → IV) (A2 : Option Addr) (c2 : Nat) (f : Nat → Nat) (w : World) (val : Nat) (sF : VS) (hm : Mach w w.heap.size mb n g)
    (hby : Byt w w.heap.size A2 64 c2 f) (hf : ∀ i, f i < 256) (hrun : runF g f n zst = some (val, sF)) :
    Calls Try.prog 31 #[.pointer (some ⟨mb, 0, none⟩), .slice A2 64 c2] w fun e w' => ∃ A' c', e = .returned (.tuple #[.agg #[.int .u32 val, .int .i64 sF.st, .slice A' sF.ld.length c'], .int .i64 0]) ∧
      OwnC w' w.heap.size 3 1 A' sF.ld.length c' (lcell sF.ld) ∧ Below w.heap.size w w' := mrun_ok mb n g A2 c2 f w val sF hm hby hf hrun

set_option maxRecDepth 100000 in
set_option maxHeartbeats 8000000 in
theorem walk_VmAgain {w0 : World} (A : Option Addr) (n c : Nat) (g : Nat → IV) (hr : Ins w0 w0.heap.size A n c g) (f : Nat → Nat) (hf : ∀ i, i < 64 → f i < 256) (f2 : Nat → Nat) (hf2 : ∀ i, i < 64 → f2 i < 256) :
    Calls Try.prog 12 #[.slice A n c, .agg (arrB 64 f), .agg (arrB 64 f2)] w0 fun e w' => e = .returned (.bool true) ∧ Below w0.heap.size w0 w' := by
  have hmx := hr.1.le
  unfold maxLen at hmx
  obtain ⟨m1, m2⟩ := hmx
  obtain ⟨D, hD⟩ : ∃ D, arrB 64 f = D := ⟨_, rfl⟩
  obtain ⟨E, hE⟩ : ∃ E, arrB 64 f2 = E := ⟨_, rfl⟩
  have hs1 : (w0.alloc (.cells D 27)).heap.size = w0.heap.size + 1 := by simp
  have hb1 : Below w0.heap.size w0 (w0.alloc (.cells D 27)) := (Below.refl _ _).alloc (Nat.le_refl _) _
  have hb2 : Below (w0.heap.size + 1) (w0.alloc (.cells D 27)) ((w0.alloc (.cells D 27)).alloc (.cells E 27)) := (Below.refl _ _).alloc (by simp) _
  have hb0 : Below w0.heap.size w0 ((w0.alloc (.cells D 27)).alloc (.cells E 27)) := hb1.trans (hb2.mono (by omega))
  have ha0 : ArB (w0.alloc (.cells D 27)) w0.heap.size 64 27 f := by rw [← hD]; exact heap_alloc_last w0 _
  have ha1 : ArB ((w0.alloc (.cells D 27)).alloc (.cells E 27)) (w0.heap.size + 1) 64 27 f2 := by rw [← hE, ← hs1]; exact heap_alloc_last _ _
  have hby0 : Byt ((w0.alloc (.cells D 27)).alloc (.cells E 27)) ((w0.alloc (.cells D 27)).alloc (.cells E 27)).heap.size (some ⟨w0.heap.size, 0, none⟩) 64 64 (lim f) := (byt_lim ((ha0.byt (by decide) (by simp) hf).below hb2)).more (by simp)
  have hby1 : Byt ((w0.alloc (.cells D 27)).alloc (.cells E 27)) ((w0.alloc (.cells D 27)).alloc (.cells E 27)).heap.size (some ⟨w0.heap.size + 1, 0, none⟩) 64 64 (lim f2) := byt_lim (ha1.byt (by decide) ha1.lt hf2)
  have hin0 : Ins ((w0.alloc (.cells D 27)).alloc (.cells E 27)) ((w0.alloc (.cells D 27)).alloc (.cells E 27)).heap.size A n c g := (hr.below hb0).more hb0.size
  have hsl := sl_all
  rw [hD, hE]
  by_cases h1 : 200 < n
  · have hbb := Lib.hid hb0
    clear hr hD hE ha0 ha1 hby0 hby1 hin0 hb1 hb2 hs1
    go_enter Try.func12, Try.ntmps12
    go_wp2
    go_ret
    exact ⟨rfl, hbb.out⟩
  · have HB0 := Lib.hid hb0
    have HY0 := Lib.hid hby0
    have HY1 := Lib.hid hby1
    have HI0 := Lib.hid hin0
    clear hr hD hE ha0 ha1 hby0 hby1 hin0 hb0 hb1 hb2 hs1
    go_enter Try.func12, Try.ntmps12
    go_wp2_with fail
    generalize (w0.alloc _).alloc _ = W1 at *
    by_cases hce : (checkF g n).2 = 0
    · obtain ⟨c1, c2, c3, c4⟩ := checkF_facts hce
      obtain ⟨val, sF, hrun⟩ := run_total (lim f) g n c3 c4 n zst c1 (by show n - 0 ≤ n; omega)
      obtain ⟨val2, sF2, hrun2⟩ := run_total (lim f2) g n c3 c4 n zst c1 (by show n - 0 ≤ n; omega)
      have HRUN := Lib.hid hrun
      have HRUN2 := Lib.hid hrun2
      have HCE := Lib.hid hce
      have HC3 := Lib.hid (And.intro c3 c4)
      have HR := Lib.hid (Nat.le_of_lt_succ (by omega : n < 201))
      clear hrun hrun2 hce c3 c4
      refine (all6_any A n c g _ (by omega) HI0.out).mono ?_
      rintro e w2 ⟨A2, cc2, rfl, hown2, hB2⟩
      have HI2 : Hid (Ins w2 w2.heap.size A2 n cc2 g) := Lib.hid ⟨hown2.cel, HI0.out.2⟩
      have HB2 := Lib.hid hB2
      clear hown2 hB2
      go_wp2_with fail
      refine (new_ok A2 n cc2 g w2 HI2.out HCE.out).mono ?_
      rintro e w3 ⟨mb, A3, cc3, rfl, hmb, hrow, hk, hB3⟩
      have HM : Hid (Mach w3 w3.heap.size mb n g) := Lib.hid ⟨A3, cc3, (Array.getElem?_eq_some_iff.1 hrow).1, hrow, hk.cel, HI0.out.2, c1, c2, HC3.out.1, HC3.out.2⟩
      have hb3 : Below W1.heap.size W1 w3 := HB2.out.trans (hB3.mono HB2.out.size)
      have HB3 := Lib.hid (HB0.out.trans (hb3.mono HB0.out.size))
      have HY := Lib.hid (And.intro ((HY0.out.below hb3).more hb3.size) ((HY1.out.below hb3).more hb3.size))
      clear hmb hrow hk hB3 hb3 HB2 HI2 HI0 HB0 HY0 HY1 HCE HC3
      go_wp2_with fail
      refine (mrun_nilL _ 64 w3).mono ?_
      rintro e w4 ⟨rfl, hB4⟩
      have HMC : Hid (∀ W : World, Below w3.heap.size w3 W → Mach W W.heap.size mb n g) := Lib.hid fun W hW => HM.out.below hW hW.size
      have HYC : Hid (∀ W : World, Below w3.heap.size w3 W → Byt W W.heap.size (some ⟨w0.heap.size, 0, none⟩) 64 64 (lim f) ∧ Byt W W.heap.size (some ⟨w0.heap.size + 1, 0, none⟩) 64 64 (lim f2)) := Lib.hid fun W hW => ⟨(HY.out.1.below hW).more hW.size, (HY.out.2.below hW).more hW.size⟩
      have HB4 := Lib.hid hB4
      clear hB4 HM HY
      go_wp2_with fail
      have hb5 : Below w3.heap.size w3 (w4.alloc (.cells zOut 50)) := HB4.out.alloc HB4.out.size _
      refine (mrun_okL mb n g _ 64 (lim f) (w4.alloc (.cells zOut 50)) val sF (HMC.out _ hb5) (HYC.out _ hb5).1 (lim_lt f hf) HRUN.out).mono ?_
      rintro e w6 ⟨A6, c6, rfl, ho6, hB6⟩
      have hb6 := hb5.trans (hB6.mono hb5.size)
      have HX6 := Lib.hid (And.intro (cell_of_row _ _ 0 _ _ (0, 0) (heap_alloc_last w6 (.cells #[.int .u32 (val : Int), .int .i64 (sF.st : Int), .slice A6 sF.ld.length c6] 50))) (tail_new (st := sF.st) val ho6))
      have HB7 := Lib.hid (hb6.alloc hb6.size (.cells #[.int .u32 (val : Int), .int .i64 (sF.st : Int), .slice A6 sF.ld.length c6] 50))
      have HS7 : Hid (w6.heap.size < (w6.alloc (.cells #[.int .u32 (val : Int), .int .i64 (sF.st : Int), .slice A6 sF.ld.length c6] 50)).heap.size) := Lib.hid (by simp)
      clear hb5 hB6 ho6 hb6
      go_wp2_with fail
      generalize w6.heap.size = bx at *
      generalize w6.alloc _ = w7 at *
      refine (mrun_okL mb n g _ 64 (lim f2) w7 val2 sF2 (HMC.out _ HB7.out) (HYC.out _ HB7.out).2 (lim_lt f2 hf2) HRUN2.out).mono ?_
      rintro e w8 ⟨A8, c8, rfl, ho8, hB8⟩
      have HB8 := Lib.hid (HB7.out.trans (hB8.mono HB7.out.size))
      have HK8 := Lib.hid hB8
      clear hB8 ho8
      go_wp2_with fail
      refine (mrun_okL mb n g _ 64 (lim f) w8 val sF (HMC.out _ HB8.out) (HYC.out _ HB8.out).1 (lim_lt f hf) HRUN.out).mono ?_
      rintro e w9 ⟨A9, c9, rfl, ho9, hB9⟩
      have HB9 := Lib.hid (HB8.out.trans (hB9.mono HB8.out.size))
      have HK9 := Lib.hid (HK8.out.trans (hB9.mono HK8.out.size))
      have x0 : w9.cell? ⟨bx, 0, none⟩ = some (.int .u32 (val : Int)) := (HK9.out.cell (p := ⟨bx, 0, none⟩) HS7.out).trans HX6.out.1
      have x1 : w9.cell? ⟨bx, 1, none⟩ = some (.int .i64 (sF.st : Int)) := (HK9.out.cell (p := ⟨bx, 1, none⟩) HS7.out).trans HX6.out.2.1
      have x2 : w9.cell? ⟨bx, 2, none⟩ = some (.slice A6 sF.ld.length c6) := (HK9.out.cell (p := ⟨bx, 2, none⟩) HS7.out).trans HX6.out.2.2.1
      have hlt : bx < w9.heap.size := Nat.lt_of_lt_of_le HS7.out HK9.out.size
      have hne : bx ≠ w9.heap.size := by omega
      clear hB9 ho9
      go_wp2_with fail
      have hbe := HB3.out.trans ((HB9.out.alloc HB9.out.size (.cells #[.int .u32 (val : Int), .int .i64 (sF.st : Int), .slice A9 sF.ld.length c9] 50)).mono HB3.out.size)
      have HBE := Lib.hid hbe
      clear hbe
      refine (awake6_any _).mono ?_
      rintro e w10 ⟨rfl, hB10⟩
      have HBZ := Lib.hid (HBE.out.trans (hB10.mono HBE.out.size))
      clear hB10
      go_wp2
      go_ret
      exact ⟨rfl, HBZ.out⟩
    · obtain ⟨y, hy⟩ : ∃ y, (checkF g n).2 = y := ⟨_, rfl⟩
      rw [hy] at hce
      have HCE := Lib.hid (And.intro hy hce)
      have hyz : ((y : Int) != 0) = true := by simp; omega
      clear hy hce
      refine (all6_any A n c g _ (by omega) HI0.out).mono ?_
      rintro e w2 ⟨A2, cc2, rfl, hown2, hB2⟩
      have HI2 : Hid (Ins w2 w2.heap.size A2 n cc2 g) := Lib.hid ⟨hown2.cel, HI0.out.2⟩
      have HB2 := Lib.hid hB2
      clear hown2 hB2
      go_wp2_with fail
      refine (new_errL A2 n cc2 g w2 y HI2.out HCE.out.1 HCE.out.2).mono ?_
      rintro e w3 ⟨rfl, hB3⟩
      have HB3 := Lib.hid (HB0.out.trans ((HB2.out.trans (hB3.mono HB2.out.size)).mono HB0.out.size))
      clear hB3 HB2 HI2 HI0 HB0 HY0 HY1
      go_wp2_with fail
      refine (mrun_nilL _ 64 w3).mono ?_
      rintro e w4 ⟨rfl, hB4⟩
      have HB4 := Lib.hid (HB3.out.trans (hB4.mono HB3.out.size))
      clear hB4
      go_wp2_with fail
      have hb5 := HB4.out.alloc HB4.out.size (.cells #[.int .u32 0, .int .i64 0, .slice none 0 0] 50)
      refine (awake6_any _).mono ?_
      rintro e w10 ⟨rfl, hB10⟩
      have HBZ := Lib.hid (hb5.trans (hB10.mono hb5.size))
      clear hB10 hb5
      go_wp2
      go_ret
      exact ⟨rfl, HBZ.out⟩

namespace vmAgainRow
open Go.ChangeShapes Go.WideShapes Go.ChangeAt Go.RowKit Go.Joins
open Go.ChangeMaps (open_string shut_string)
set_option linter.unusedVariables false
theorem own : ownKnob Try.prog.godebug = none := by kernel_rfl
theorem laidOut : laidOutB Try.prog = true := by kernel_rfl
set_option maxRecDepth 100000 in
theorem lifted (os : Os) (started : os.Started) (H : Type) (enc : TypeId × Value → H) :
    ReturnsInHanded {} Try.checked os 12 .any (Rows.vmAgainSpec.pre6 enc Try.prog Try.f12 Rows.vmAgainRow.domain false) (Rows.vmAgainSpec.post enc Try.prog Try.f12 false true false false) := by
  refine returnsInHanded_of_change (C := Try.checked) own started (by kernel_rfl) Try.func12
    (ChangeSpec.witness6 (enc := enc) (C := Try.checked) false ⟨#[], #[.slice none 0 0, .agg #[.int .u8 0, .int .u8 0, .int .u8 0, .int .u8 0, .int .u8 0, .int .u8 0, .int .u8 0, .int .u8 0, .int .u8 0, .int .u8 0, .int .u8 0, .int .u8 0, .int .u8 0, .int .u8 0, .int .u8 0, .int .u8 0, .int .u8 0, .int .u8 0, .int .u8 0, .int .u8 0, .int .u8 0, .int .u8 0, .int .u8 0, .int .u8 0, .int .u8 0, .int .u8 0, .int .u8 0, .int .u8 0, .int .u8 0, .int .u8 0, .int .u8 0, .int .u8 0, .int .u8 0, .int .u8 0, .int .u8 0, .int .u8 0, .int .u8 0, .int .u8 0, .int .u8 0, .int .u8 0, .int .u8 0, .int .u8 0, .int .u8 0, .int .u8 0, .int .u8 0, .int .u8 0, .int .u8 0, .int .u8 0, .int .u8 0, .int .u8 0, .int .u8 0, .int .u8 0, .int .u8 0, .int .u8 0, .int .u8 0, .int .u8 0, .int .u8 0, .int .u8 0, .int .u8 0, .int .u8 0, .int .u8 0, .int .u8 0, .int .u8 0, .int .u8 0], .agg #[.int .u8 0, .int .u8 0, .int .u8 0, .int .u8 0, .int .u8 0, .int .u8 0, .int .u8 0, .int .u8 0, .int .u8 0, .int .u8 0, .int .u8 0, .int .u8 0, .int .u8 0, .int .u8 0, .int .u8 0, .int .u8 0, .int .u8 0, .int .u8 0, .int .u8 0, .int .u8 0, .int .u8 0, .int .u8 0, .int .u8 0, .int .u8 0, .int .u8 0, .int .u8 0, .int .u8 0, .int .u8 0, .int .u8 0, .int .u8 0, .int .u8 0, .int .u8 0, .int .u8 0, .int .u8 0, .int .u8 0, .int .u8 0, .int .u8 0, .int .u8 0, .int .u8 0, .int .u8 0, .int .u8 0, .int .u8 0, .int .u8 0, .int .u8 0, .int .u8 0, .int .u8 0, .int .u8 0, .int .u8 0, .int .u8 0, .int .u8 0, .int .u8 0, .int .u8 0, .int .u8 0, .int .u8 0, .int .u8 0, .int .u8 0, .int .u8 0, .int .u8 0, .int .u8 0, .int .u8 0, .int .u8 0, .int .u8 0, .int .u8 0, .int .u8 0]], []⟩ 8 (by kernel_rfl) (by kernel_rfl) (by kernel_rfl) (by kernel_rfl)) ?_
  intro W base args ds gs before hval0 hW hcnd _
  have hval : ∀ (j : Nat) t v, Try.f12.params[j]? = some t → args[j]? = some v → Value.okWide Try.prog W .any base t v := hval0
  have hW' := hW
  obtain ⟨p, q, hA0, hV, rfl, hfz, hnd⟩ := hW
  have hA : DataW.TrodAll enc Try.prog W 0 (fun _ => true) true Try.f12.params.toList args.toList ds p := hA0
  rw [Try.params12] at hA hval
  obtain ⟨v0, vs0, d0, ds0, p0, q0, hargs, rfl, rfl, h0, r0⟩ := trodAll_cons hA
  obtain ⟨v1, vs1, d1, ds1, p1, q1, rfl, rfl, rfl, h1, r1⟩ := trodAll_cons r0
  obtain ⟨v2, vs2, d2, ds2, p2, q2, rfl, rfl, rfl, h2, r2⟩ := trodAll_cons r1
  obtain ⟨rfl, rfl, rfl⟩ := trodAll_nil r2
  obtain rfl : args = #[v0, v1, v2] := by cases args; simp_all
  obtain ⟨rfl, rfl⟩ := trodVars_none hV
  have k0 := h0
  have lt0 : ∀ x ∈ p0, x.block < W.heap.size := by obtain ⟨m, hm⟩ := k0; exact DataW.trod_lt m _ _ _ hm
  have k1 := h1
  have lt1 : ∀ x ∈ p1, x.block < W.heap.size := by obtain ⟨m, hm⟩ := k1; exact DataW.trod_lt m _ _ _ hm
  have k2 := h2
  have lt2 : ∀ x ∈ p2, x.block < W.heap.size := by obtain ⟨m, hm⟩ := k2; exact DataW.trod_lt m _ _ _ hm
  obtain ⟨a0, len0, cap0, rfl⟩ := okWide_slice Try.underlying48 (hval 0 48 v0 rfl rfl)
  obtain ⟨g0, w0⟩ := open_ins h0
  obtain ⟨f1, rfl, w1⟩ := open_arrB (hval 1 27 v1 rfl rfl) h1
  obtain ⟨f2, rfl, w2⟩ := open_arrB (hval 2 27 v2 rfl rfl) h2
  clear hA0 hval0
  refine (walk_VmAgain (w0 := W) a0 len0 cap0 g0 w0 f1 w1 f2 w2).mono fun e W' ⟨he, bel⟩ => ?_
  subst he
  exact ⟨_, rfl, _, _, _, [], _, [], hW', trodAll_mk1 (shut_bool Try.underlying4 _), (trodAll_cons_mk (Below.trod laidOut (by kernel_rfl) (of_decide_eq_true (by kernel_rfl)) k0 bel lt0) (trodAll_cons_mk (Below.trod laidOut (by kernel_rfl) (of_decide_eq_true (by kernel_rfl)) k1 bel lt1) (trodAll_cons_mk (Below.trod laidOut (by kernel_rfl) (of_decide_eq_true (by kernel_rfl)) k2 bel lt2) trodAll_mk0))), rfl, bel.frame _, fun h => by cases h⟩

theorem over : Rows.vmAgainRow.holds Try.pinned (OpenSpec.ofChange Rows.vmAgainSpec) :=
  OpenClaim.holds_of_wide 12 Try.f12 rfl rfl rfl rfl rfl rfl rfl ⟨rfl, rfl, rfl, rfl, rfl⟩ rfl rfl rfl rfl rfl (by kernel_rfl) Try.func12 (by kernel_rfl)
    (of_decide_eq_true (by kernel_rfl)) (by unfold Func.isWrapper; first | (rw [if_pos (by decide +kernel)]; kernel_rfl) | (rw [if_neg (by decide +kernel)]; exact ⟨rfl, rfl⟩))
    (fun os started H enc _ => lifted os started H enc)
end vmAgainRow

theorem vmAgain_proved : Rows.VmAgainSaid := vmAgainRow.over
#print axioms vmAgain_proved
end Go.Proofs.Ytpjhcaabjgbkjaa
