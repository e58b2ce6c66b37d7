/-
  The law VmBlind holds for every input: what a run did not load does not count. No condition (the law itself lets more than 200 instructions go).
-/
import Derived.Test.YtfanapnhdhoppaaVo
import Derived.Test.YtfanapnhdhoppaaIf
import Derived.Test.YtfanapnhdhoppaaRows
import Derived.Below
import Derived.ChangeOld
import Derived.ShutString
import Derived.Lib.SmallJoins
import Derived.OpenShut
import Derived.ProofKit
import Derived.WalkKit
import Derived.Deep.RegionWith
import Derived.Deep.RegionLaw
import Derived.StillTailTactics
import Derived.Laws.CopyOwn
import Derived.Deep.WholeRow
namespace Go.Proofs.Ytfanapnhdhoppaa
open Go.RowKit

/-- A store of a whole row as a step of a region that draws its order. -/
theorem step_store_row {P : Program} {w : World} {ops : Array Oper} {o : Oper} {a : Act} {K : Act → World → Prop} {Q : Exit → Act → World → Prop} {R : Prop} (hgd : o.guard = none) (ty : TypeId) (x y : Operand) (ho : o.op = .store ty x y)
    (g : Nat) (cells : Array Value) (hx : a.eval x = .pointer (some ⟨g, 0, none⟩)) (hy : a.eval y = .agg cells) (t : TypeId) (old : Array Value) (hg : w.heap[g]? = some (.cells old t (0, 0))) (hi : (P.info? ty).map (·.size) = some cells.size)
    (hold : old.size = cells.size) (h1 : cells.all (·.oneCell') = true) (h : K (a.put o.dst undef) (w.setRow g cells)) :
    if Region.wanted o (yielded ops a.tmps) = true then Oper.wp P o a w K Q else R := by
  have hw : Region.wanted o (yielded ops a.tmps) = true := by simp [Region.wanted, hgd]
  rw [if_pos hw]
  exact wp_store_row ty x y ho g cells hx hy t old hg hi hold h1 h
theorem out_cells {w : World} {b : Nat} (h : w.heap[b]? = some (.cells zOut 41)) : w.cell? ⟨b, 0, none⟩ = some (.int .u32 0) ∧ w.cell? ⟨b, 1, none⟩ = some (.int .i64 0) ∧ w.cell? ⟨b, 2, none⟩ = some (.slice none 0 0) ∧ w.frozen? ⟨b, 0, none⟩ = false ∧ w.frozen? ⟨b, 1, none⟩ = false ∧ w.frozen? ⟨b, 2, none⟩ = false := by
  refine ⟨?_, ?_, ?_, ?_, ?_, ?_⟩
  · rw [cell_of_row _ _ 0 _ _ (0, 0) h]; rfl
  · rw [cell_of_row _ _ 1 _ _ (0, 0) h]; rfl
  · rw [cell_of_row _ _ 2 _ _ (0, 0) h]; rfl
  all_goals simp [World.frozen?, h]
/-- What is read of the end of a run. -/
def TailF (W : World) (val blk B st : Nat) (ld : List Nat) (A3 : Option Addr) (c3 : Nat) : Prop :=
  W.cell? ⟨blk, 0, none⟩ = some (.int .u32 (val : Int)) ∧ W.cell? ⟨blk, 1, none⟩ = some (.int .i64 (st : Int)) ∧ W.cell? ⟨blk, 2, none⟩ = some (.slice A3 ld.length c3) ∧ OwnC W B 3 1 A3 ld.length c3 (lcell ld)
theorem tail_set {w : World} {blk B st c3 : Nat} {ld : List Nat} {A3 : Option Addr} (val : Nat) (ho : OwnC w B 3 1 A3 ld.length c3 (lcell ld)) (hlt : blk < B) {v0 v1 v2 : Value} (p0 : w.cell? ⟨blk, 0, none⟩ = some v0) (p1 : w.cell? ⟨blk, 1, none⟩ = some v1) (p2 : w.cell? ⟨blk, 2, none⟩ = some v2) :
    TailF (((w.setCell ⟨blk, 0, none⟩ (.int .u32 (val : Int))).setCell ⟨blk, 1, none⟩ (.int .i64 (st : Int))).setCell ⟨blk, 2, none⟩ (.slice A3 ld.length c3)) val blk B st ld A3 c3 := by
  refine ⟨?_, ?_, ?_, ((ho.set_other hlt 0 _).set_other hlt 1 _).set_other hlt 2 _⟩
  · rw [World.cell?_setCell_other _ _ _ _ (by intro e; injection e with _ e; cases e), World.cell?_setCell_other _ _ _ _ (by intro e; injection e with _ e; cases e)]
    exact World.cell?_setCell_same' _ _ _ (by rw [p0]; rfl)
  · rw [World.cell?_setCell_other _ _ _ _ (by intro e; injection e with _ e; cases e)]
    exact World.cell?_setCell_same' _ _ _ (by rw [World.cell?_setCell_other _ _ _ _ (by intro e; injection e with _ e; cases e), p1]; rfl)
  · exact World.cell?_setCell_same' _ _ _ (by rw [World.cell?_setCell_other _ _ _ _ (by intro e; injection e with _ e; cases e), World.cell?_setCell_other _ _ _ _ (by intro e; injection e with _ e; cases e), p2]; rfl)
theorem tail_new {w : World} {B st c3 : Nat} {ld : List Nat} {A3 : Option Addr} (val : Nat) (ho : OwnC w B 3 1 A3 ld.length c3 (lcell ld)) :
    TailF (w.alloc (.cells #[.int .u32 (val : Int), .int .i64 (st : Int), .slice A3 ld.length c3] 41)) val w.heap.size B st ld A3 c3 := by
  have hh := heap_alloc_last w (.cells #[.int .u32 (val : Int), .int .i64 (st : Int), .slice A3 ld.length c3] 41)
  refine ⟨?_, ?_, ?_, ho.alloc _⟩
  · rw [cell_of_row _ _ 0 _ _ (0, 0) hh]; rfl
  · rw [cell_of_row _ _ 1 _ _ (0, 0) hh]; rfl
  · rw [cell_of_row _ _ 2 _ _ (0, 0) hh]; rfl
theorem vrun_errL (A : Option Addr) (n c : Nat) (g : Nat → IV) (A2 : Option Addr) (n2 c2 : Nat) (w : World) (y : Nat) (hr : Ins w w.heap.size A n c g) (hy : (checkF g n).2 = y) (he : y ≠ 0) :
    Calls Try.prog 20 #[.slice A n c, .slice A2 n2 c2] w fun e w' => e = .returned (.tuple #[.agg #[.int .u32 0, .int .i64 0, .slice none 0 0], .int .i64 (y : Int)]) ∧ Below w.heap.size w w' := by
  subst hy
  exact vrun_err A n c g A2 n2 c2 w hr he
theorem vrun_okL (A : Option Addr) (n c : Nat) (g : Nat → IV) (A2 : Option Addr) (c2 : Nat) (f : Nat → Nat) (w : World) (val : Nat) (sF : VS) (hr : Ins w w.heap.size A n c g) (he : (checkF g n).2 = 0)
    (hby : Byt w w.heap.size A2 64 c2 f) (hf : ∀ i, f i < 256) (hrun : runF g f n zst = some (val, sF)) :
    Calls Try.prog 20 #[.slice A n c, .slice A2 64 c2] w fun e w' => ∃ A' c', e = .returned (.tuple #[.agg #[.int .u32 val, .int .i64 sF.st, .slice A' sF.ld.length c'], .int .i64 0]) ∧ OwnC w' w.heap.size 3 1 A' sF.ld.length c' (lcell sF.ld) ∧ Below w.heap.size w w' :=
  vrun_ok A n c g A2 c2 f w val sF hr he hby hf hrun

theorem size_setRow' (w : World) (g : Nat) (cs : Array Value) : (w.setRow g cs).heap.size = w.heap.size := by simp [World.setRow]
/-- Memory behind the copy of a word. -/
theorem copy_after' (wr W4 : World) (gb x : Nat) (f f2 : Nat → Nat) (l : List Nat) (T : TypeId) (hx : x + 4 ≤ 64) (hab : ArB wr gb 64 T (over f f2 l)) (hB : Below gb W4 wr) (ho : ∀ b', b' ≠ gb → wr.heap[b']? = W4.heap[b']?) (hs : wr.heap.size = W4.heap.size) :
    ArB (wr.setRow gb ((arrB 64 (over f f2 l)).toList.take x ++ (four f x ++ (arrB 64 (over f f2 l)).toList.drop (x + (four f x).length))).toArray) gb 64 T (over f f2 (x :: l)) ∧
      Below gb W4 (wr.setRow gb ((arrB 64 (over f f2 l)).toList.take x ++ (four f x ++ (arrB 64 (over f f2 l)).toList.drop (x + (four f x).length))).toArray) ∧
      (∀ b', b' ≠ gb → (wr.setRow gb ((arrB 64 (over f f2 l)).toList.take x ++ (four f x ++ (arrB 64 (over f f2 l)).toList.drop (x + (four f x).length))).toArray).heap[b']? = W4.heap[b']?) ∧
      (wr.setRow gb ((arrB 64 (over f f2 l)).toList.take x ++ (four f x ++ (arrB 64 (over f f2 l)).toList.drop (x + (four f x).length))).toArray).heap.size = W4.heap.size := by
  refine ⟨?_, below_setRow hB (Nat.le_refl _) _, fun b' hb' => (setRow_other _ gb b' _ hb').trans (ho b' hb'), ?_⟩
  · have e := four_over f f2 l x hx
    unfold splice at e
    have hh := setRow_heap wr gb (arrB 64 (over f f2 l)) ((arrB 64 (over f f2 l)).toList.take x ++ (four f x ++ (arrB 64 (over f f2 l)).toList.drop (x + (four f x).length))).toArray T (0, 0) hab
    unfold ArB
    rw [hh, e]
  · rw [← hs]; exact size_setRow' _ _ _

/-- The copy of a word, as the walk's step. -/
theorem wpList_copy_word {P : Program} {w6 W4 : World} {ops : Array Oper} {rest : List Oper} {o : Oper} {a : Act} {Q : Exit → Act → World → Prop} (hgd : o.guard = none) (d s : Operand) (dT sT : TypeId)
    (hop : o.op = .call { callee := .builtin .copy, args := #[d, s], argTypes := #[dT, sT] }) (elem : TypeId) (hu : P.underlying dT = some (.slice elem)) (hsz : (P.info? elem).map (·.size) = some 1)
    (gd gs x : Nat) (hd : a.eval d = .slice (some ⟨gd, x, none⟩) 4 (64 - x)) (hs : a.eval s = .slice (some ⟨gs, x, none⟩) 4 (64 - x)) (f f2 : Nat → Nat) (l : List Nat) (T : TypeId) (hx : x + 4 ≤ 64)
    (hab : ArB w6 gd 64 T (over f f2 l)) (hfs : ArB w6 gs 64 T f) (hB : Below gd W4 w6) (ho : ∀ b', b' ≠ gd → w6.heap[b']? = W4.heap[b']?) (hz : w6.heap.size = W4.heap.size)
    (h : ∀ w5, Hid (ArB w5 gd 64 T (over f f2 (x :: l)) ∧ Below gd W4 w5 ∧ (∀ b', b' ≠ gd → w5.heap[b']? = W4.heap[b']?) ∧ w5.heap.size = W4.heap.size) → wpList P ops Q rest (a.put o.dst (goInt 4)) w5) :
    wpList P ops Q (o :: rest) a w6 := by
  have e4 : (four f x).length = 4 := four_len f x
  have hca := copy_after' w6 W4 gd x f f2 l T hx hab hB ho hz
  refine wpList_copy_own hgd d s dT sT hop elem hu hsz gd x 4 (64 - x) ⟨gs, x, none⟩ 4 (64 - x) hd hs (arrB 64 (over f f2 l)) T hab (four f x) (four_len f x) (four_src hfs x hx) (four_fit f _ x hx) (four_one f x) ?_
  rw [e4]
  rw [e4] at hca
  exact h _ (Lib.hid hca)

/-- With other bytes where a run did not load it is the same. -/
theorem blind_run (f f2 : Nat → Nat) (g : Nat → IV) (n val : Nat) (sF : VS) (hal : ∀ i, i < n → alone (g i) (n - 1 - i) = 0) (hlast : isRet (g (n - 1)) = true) (h0 : 0 < n) (hb : ∀ k ∈ sF.ld, k % 4 = 0 ∧ k < 64) (h : runF g (lim f) n zst = some (val, sF)) :
    runF g (lim (over f f2 sF.ld.reverse)) n zst = some (val, sF) :=
  run_agree (lim f) _ g n hal hlast n zst val sF h0 h fun k hk i hi => by
    obtain ⟨h1, h2⟩ := hb k hk
    have e := over_at f f2 sF.ld.reverse k (List.mem_reverse.2 hk) i hi
    unfold lim
    rw [if_pos (by omega), if_pos (by omega), e]

set_option maxRecDepth 100000 in
set_option maxHeartbeats 8000000 in
theorem walk_VmBlind {w0 : World} (A : Option Addr) (n c : Nat) (g : Nat → IV) (hr : Ins w0 w0.heap.size A n c g) (f : Nat → Nat) (hf : ∀ i, i < 64 → f i < 256) (f2 : Nat → Nat) (hf2 : ∀ i, i < 64 → f2 i < 256) :
    Calls Try.prog 6 #[.slice A n c, .agg (arrB 64 f), .agg (arrB 64 f2)] w0 fun e w' => e = .returned (.bool true) ∧ Below w0.heap.size w0 w' := by
  have hmx := hr.1.le
  unfold maxLen at hmx
  obtain ⟨m1, m2⟩ := hmx
  obtain ⟨D, hD⟩ : ∃ D, arrB 64 f = D := ⟨_, rfl⟩
  obtain ⟨E, hE⟩ : ∃ E, arrB 64 f2 = E := ⟨_, rfl⟩
  have hs1 : (w0.alloc (.cells D 34)).heap.size = w0.heap.size + 1 := by simp
  have hb1 : Below w0.heap.size w0 (w0.alloc (.cells D 34)) := (Below.refl _ _).alloc (Nat.le_refl _) _
  have hb2 : Below (w0.heap.size + 1) (w0.alloc (.cells D 34)) ((w0.alloc (.cells D 34)).alloc (.cells E 34)) := (Below.refl _ _).alloc (by simp) _
  have hb0 : Below w0.heap.size w0 ((w0.alloc (.cells D 34)).alloc (.cells E 34)) := hb1.trans (hb2.mono (by omega))
  have ha0 : ArB (w0.alloc (.cells D 34)) w0.heap.size 64 34 f := by rw [← hD]; exact heap_alloc_last w0 _
  have ha1 : ArB ((w0.alloc (.cells D 34)).alloc (.cells E 34)) (w0.heap.size + 1) 64 34 f2 := by rw [← hE, ← hs1]; exact heap_alloc_last _ _
  have hby0 : Byt ((w0.alloc (.cells D 34)).alloc (.cells E 34)) ((w0.alloc (.cells D 34)).alloc (.cells E 34)).heap.size (some ⟨w0.heap.size, 0, none⟩) 64 64 (lim f) := (byt_lim ((ha0.byt (by decide) (by simp) hf).below hb2)).more (by simp)
  have hby1 : Byt ((w0.alloc (.cells D 34)).alloc (.cells E 34)) ((w0.alloc (.cells D 34)).alloc (.cells E 34)).heap.size (some ⟨w0.heap.size + 1, 0, none⟩) 64 64 (lim f2) := byt_lim (ha1.byt (by decide) ha1.lt hf2)
  have hin0 : Ins ((w0.alloc (.cells D 34)).alloc (.cells E 34)) ((w0.alloc (.cells D 34)).alloc (.cells E 34)).heap.size A n c g := (hr.below hb0).more hb0.size
  have hsl := sl_all
  rw [hD, hE]
  by_cases h1 : 200 < n
  · have hbb := Lib.hid hb0
    clear hr hD hE ha0 ha1 hby0 hby1 hin0 hb1 hb2 hs1
    go_enter Try.func6, Try.ntmps6
    go_wp2
    go_ret
    exact ⟨rfl, hbb.out⟩
  · have HB0 := Lib.hid hb0
    have HY0 := Lib.hid hby0
    have HY1 := Lib.hid hby1
    have HI0 := Lib.hid hin0
    have HIC : Hid (∀ W : World, Below w0.heap.size w0 W → Ins W W.heap.size A n c g) := Lib.hid fun W hW => (hr.below hW).more hW.size
    have HAB := Lib.hid (And.intro (show ArB ((w0.alloc (.cells D 34)).alloc (.cells E 34)) w0.heap.size 64 34 f from ha0.below hb2 (by omega)) ha1)
    have HSZ : Hid (((w0.alloc (.cells D 34)).alloc (.cells E 34)).heap.size = w0.heap.size + 2) := Lib.hid (by simp)
    clear hr hD hE ha0 ha1 hby0 hby1 hin0 hb0 hb1 hb2 hs1
    go_enter Try.func6, Try.ntmps6
    go_wp2_with fail
    generalize (w0.alloc _).alloc _ = W1 at *
    by_cases hce : (checkF g n).2 = 0
    · obtain ⟨c1, c2, c3, c4⟩ := checkF_facts hce
      obtain ⟨val, sF, hrun⟩ := run_total (lim f) g n c3 c4 n zst c1 (by show n - 0 ≤ n; omega)
      obtain ⟨b1, b2, b3, b4⟩ := run_bounds (lim f) g n c3 c4 n zst val sF c1 hrun (Nat.le_refl _) (fun k hk => by cases hk)
      have HRUN := Lib.hid hrun
      have HCE := Lib.hid hce
      have HB4 := Lib.hid b4
      have b2' : 0 < sF.st := b2
      have b3' : sF.st ≤ n := by have : zst.st = 0 := rfl; omega
      clear hrun hce b4 c3 c4 b2 b3
      go_region_with (first
        | (go_at_call 21
           refine (all6_any A n c g _ (by omega) (by first | exact HI0.out.below (Below.refl _ W1).drew | exact (HI0.out.below ((Below.refl _ W1).alloc (Nat.le_refl _) _).drew).more (by simp))).mono ?_
           rintro e w2 ⟨A2, c2, rfl, hown2, hB2⟩
           have hi2 : Ins w2 w2.heap.size A2 n c2 g := ⟨hown2.cel, HI0.out.2⟩
           have hb2 : Below W1.heap.size W1 w2 := by first | exact (Below.refl _ W1).drew.trans hB2 | exact ((Below.refl _ W1).alloc (Nat.le_refl _) _).drew.trans (hB2.mono (by simp))
           have HB2 := Lib.hid hb2
           have HI2 := Lib.hid hi2
           try (have hl2 : w2.heap[W1.heap.size]? = some (.cells zOut 41) := (hB2.block W1.heap.size (by show _ < (World.alloc _ _).heap.size; simp)).trans (heap_alloc_last W1 _)
                have HL2 := Lib.hid hl2
                obtain ⟨p0, p1, p2, p3, p4, p5⟩ := out_cells hl2
                clear hl2)
           clear hown2 hi2 hb2 hB2)
        | (go_at_call 20
           refine (vrun_okL _ n _ g _ 64 (lim f) _ val sF (by first | exact HI2.out | exact (HI2.out.below ((Below.refl _ w2).alloc (Nat.le_refl _) _)).more (by simp)) HCE.out (by first | exact (HY0.out.below HB2.out).more HB2.out.size | exact (((HY0.out.below HB2.out).more HB2.out.size).below ((Below.refl _ w2).alloc (Nat.le_refl _) _)).more (by simp)) (lim_lt f hf) HRUN.out).mono ?_
           rintro e w3 ⟨A3, c3, rfl, hown3, hB3⟩
           have hb3 : Below W1.heap.size W1 w3 := by first | exact HB2.out.trans (hB3.mono HB2.out.size) | exact (HB2.out.alloc HB2.out.size _).trans (hB3.mono (by have := HB2.out.size; simp; omega))
           have HB3 := Lib.hid hb3
           have HO3 := Lib.hid hown3
           try (have hl3 : w3.heap[w2.heap.size]? = some (.cells zOut 41) := (hB3.block w2.heap.size (by simp)).trans (heap_alloc_last w2 _)
                obtain ⟨p0, p1, p2, p3, p4, p5⟩ := out_cells hl3
                clear hl3)
           try (have hl4 : w3.heap[W1.heap.size]? = some (.cells zOut 41) := (hB3.block W1.heap.size (Array.getElem?_eq_some_iff.1 HL2.out).1).trans HL2.out
                obtain ⟨p0, p1, p2, p3, p4, p5⟩ := out_cells hl4
                clear hl4)
           clear hown3 hb3 hB3))
      have HT := Lib.hid (And.intro (tail_new (st := sF.st) val HO3.out) (HB3.out.alloc HB3.out.size (.cells #[.int .u32 (val : Int), .int .i64 (sF.st : Int), .slice A3 sF.ld.length c3] 41)))
      have HBB := Lib.hid (HB0.out.trans (HT.out.2.mono HB0.out.size))
      have HPK := Lib.hid (⟨_, (by have := HB2.out.size; have := HB3.out.size; have := HSZ.out; first | omega | (simp; omega)), HT.out.1⟩ : ∃ B, w0.heap.size + 1 < B ∧ TailF _ val _ B sF.st sF.ld A3 c3)
      have HBL : Hid (w0.heap.size + 1 < w3.heap.size) := Lib.hid (by have := HB2.out.size; have := HB3.out.size; have := HSZ.out; first | omega | (simp; omega))
      have HAB4 := Lib.hid (And.intro (HAB.out.1.below HT.out.2 HAB.out.1.lt) (HAB.out.2.below HT.out.2 HAB.out.2.lt))
      clear HT HO3 HB3 HI2 HY0 HY1 HI0 HB2 HSZ HAB
      try clear HL2
      try clear p0 p1 p2 p3 p4 p5
      generalize World.alloc w3 _ = W4 at *
      generalize w3.heap.size = blk at *
      rotate_left
      have HT := Lib.hid (And.intro (tail_set (st := sF.st) val HO3.out (by simp) p0 p1 p2) (((HB3.out.setCell (p := ⟨w2.heap.size, 0, none⟩) HB2.out.size (.int .u32 (val : Int))).setCell (p := ⟨w2.heap.size, 1, none⟩) HB2.out.size (.int .i64 (sF.st : Int))).setCell (p := ⟨w2.heap.size, 2, none⟩) HB2.out.size (.slice A3 sF.ld.length c3)))
      have HBB := Lib.hid (HB0.out.trans (HT.out.2.mono HB0.out.size))
      have HPK := Lib.hid (⟨_, (by have := HB2.out.size; have := HB3.out.size; have := HSZ.out; first | omega | (simp; omega)), HT.out.1⟩ : ∃ B, w0.heap.size + 1 < B ∧ TailF _ val _ B sF.st sF.ld A3 c3)
      have HBL : Hid (w0.heap.size + 1 < w2.heap.size) := Lib.hid (by have := HB2.out.size; have := HB3.out.size; have := HSZ.out; first | omega | (simp; omega))
      have HAB4 := Lib.hid (And.intro (HAB.out.1.below HT.out.2 HAB.out.1.lt) (HAB.out.2.below HT.out.2 HAB.out.2.lt))
      clear HT HO3 HB3 HI2 HY0 HY1 HI0 HB2 HSZ HAB
      try clear HL2
      try clear p0 p1 p2 p3 p4 p5
      generalize World.setCell _ _ _ = W4 at *
      generalize w2.heap.size = blk at *
      rotate_left
      have HT := Lib.hid (And.intro (tail_set (st := sF.st) val HO3.out (Array.getElem?_eq_some_iff.1 HL2.out).1 p0 p1 p2) (((HB3.out.setCell (p := ⟨W1.heap.size, 0, none⟩) (Nat.le_refl _) (.int .u32 (val : Int))).setCell (p := ⟨W1.heap.size, 1, none⟩) (Nat.le_refl _) (.int .i64 (sF.st : Int))).setCell (p := ⟨W1.heap.size, 2, none⟩) (Nat.le_refl _) (.slice A3 sF.ld.length c3)))
      have HBB := Lib.hid (HB0.out.trans (HT.out.2.mono HB0.out.size))
      have HPK := Lib.hid (⟨_, (by have := HB2.out.size; have := HB3.out.size; have := HSZ.out; first | omega | (simp; omega)), HT.out.1⟩ : ∃ B, w0.heap.size + 1 < B ∧ TailF _ val _ B sF.st sF.ld A3 c3)
      have HBL : Hid (w0.heap.size + 1 < W1.heap.size) := Lib.hid (by have := HB2.out.size; have := HB3.out.size; have := HSZ.out; first | omega | (simp; omega))
      have HAB4 := Lib.hid (And.intro (HAB.out.1.below HT.out.2 HAB.out.1.lt) (HAB.out.2.below HT.out.2 HAB.out.2.lt))
      clear HT HO3 HB3 HI2 HY0 HY1 HI0 HB2 HSZ HAB
      try clear HL2
      try clear p0 p1 p2 p3 p4 p5
      generalize World.setCell _ _ _ = W4 at *
      generalize W1.heap.size = blk at *
      rotate_left
      all_goals
        obtain ⟨B, hbg, t0, t1, t2, t3⟩ := HPK.out
        have HO4 := Lib.hid t3
        have HBG := Lib.hid hbg
        have HX := Lib.hid (And.intro t0 (And.intro t1 t2))
        clear HPK t0 t3 hbg
        go_wp2_with fail
        clear t1 t2
        go_loopw [9] (fun i wr => ∃ j : Nat, j ≤ sF.ld.length ∧ i = .int .i64 j ∧ Below (w0.heap.size + 1) W4 wr ∧ (∀ b', b' ≠ w0.heap.size + 1 → wr.heap[b']? = W4.heap[b']?) ∧ wr.heap.size = W4.heap.size ∧ ArB wr (w0.heap.size + 1) 64 34 (over f f2 (sF.ld.take j).reverse))
          (fun i _ => sF.ld.length - (intOf i).toNat)
        case atStart => exact ⟨0, by omega, rfl, Below.refl _ _, fun _ _ => rfl, rfl, HAB4.out.2⟩
        case round =>
          obtain ⟨j, hj, rfl, hB, hoth, hszr, hab⟩ := hrel
          have t2 := (World.cell?_of_block (w := W4) (a := ⟨blk, 2, none⟩) (hoth blk (by have := HBL.out; omega))).trans HX.out.2.2
          have HOTH := Lib.hid hoth
          have HABC := Lib.hid hab
          have HRB := Lib.hid hB
          have HSR := Lib.hid hszr
          clear hoth hab hB hszr
          by_cases hlt : j < sF.ld.length
          · obtain ⟨b5, rfl, hge, hl5, hc5⟩ := HO4.out.at_ (by omega)
            have hb5n : w0.heap.size + 1 < b5 := Nat.lt_of_lt_of_le HBG.out hge
            have q0 := (World.cell?_of_block (w := W4) (a := ⟨b5, j, none⟩) (HOTH.out b5 (by omega))).trans (hc5 j (by omega)).1
            unfold lcell at q0
            obtain ⟨x1, x2⟩ := HB4.out (sF.ld.getD j 0) (by rw [List.getD_eq_getElem?_getD, List.getElem?_eq_getElem hlt]; exact List.getElem_mem _)
            have HLD : Hid (sF.ld.take (j + 1) = sF.ld.take j ++ [sF.ld.getD j 0]) := Lib.hid (by rw [List.take_add_one, List.getD_eq_getElem?_getD, List.getElem?_eq_getElem hlt]; rfl)
            clear hc5
            generalize sF.ld.getD j 0 = x at *
            have hs1 := sl_lh w0.heap.size x (by omega)
            have hs2 := sl_lh (w0.heap.size + 1) x (by omega)
            have HFS : Hid (ArB wr w0.heap.size 64 34 f) := Lib.hid ((HOTH.out w0.heap.size (by omega)).trans HAB4.out.1)
            have hx60 : x ≤ 60 := by omega
            have hwr : IntKind.i64.wrap ((x : Int) + 4) = (x : Int) + 4 := IntWalk.i64_in _ (by omega)
            go_wp2_with fail
            go_still_tail 8, (by kernel_rfl)
            change wpList _ _ _ _ _ wr.drew
            have had : ArB wr.drew (w0.heap.size + 1) 64 34 (over f f2 (sF.ld.take j).reverse) := HABC.out
            have hfd : ArB wr.drew w0.heap.size 64 34 f := HFS.out
            have hbd : Below (w0.heap.size + 1) W4 wr.drew := HRB.out.drew
            have hod : ∀ b', b' ≠ w0.heap.size + 1 → wr.drew.heap[b']? = W4.heap[b']? := HOTH.out
            have hsd : wr.drew.heap.size = W4.heap.size := HSR.out
            generalize wr.drew = w6 at had hfd hbd hod hsd ⊢
            refine wpList_copy_word rfl (.tmp 47) (.tmp 51) 23 23 rfl 5 Try.underlying23 sizeB (w0.heap.size + 1) w0.heap.size x rfl rfl f f2 _ 34 (by omega) had hfd hbd hod hsd ?_
            intro W5 HCA
            clear had hfd hbd hod hsd
            clear hs1 hs2
            go_wp2
            exact ⟨⟨j + 1, by omega, by go_num, HCA.out.2.1, HCA.out.2.2.1, HCA.out.2.2.2, by rw [HLD.out, List.reverse_append, List.reverse_singleton, List.singleton_append]; exact HCA.out.1⟩, by simp [intOf]; omega⟩
          · obtain rfl : j = sF.ld.length := by omega
            have hrow := HABC.out
            rw [List.take_of_length_le (Nat.le_refl _)] at hrow
            have hr1 := HRB.out
            have hsl2 : ∀ W : World, (Instr.sliceAt 34 (.pointer (some ⟨w0.heap.size + 1, 0, none⟩)) none none none).run Try.prog W = .ok (.slice (some ⟨w0.heap.size + 1, 0, none⟩) 64 64) W := fun W => sl_all _ W
            obtain ⟨fl, hfl⟩ : ∃ fl, lim (over f f2 sF.ld.reverse) = fl := ⟨_, rfl⟩
            have hov : ∀ i, fl i < 256 := by rw [← hfl]; exact lim_lt _ (fun i hi => over_lt f f2 _ hf hf2 i hi)
            have HOV := Lib.hid hov
            have HFC := checkF_facts HCE.out
            have HRUN2 : Hid (runF g fl n zst = some (val, sF)) := Lib.hid (by
              rw [← hfl]
              exact blind_run f f2 g n val sF HFC.2.2.1 HFC.2.2.2 HFC.1 HB4.out HRUN.out)
            have hrow2 : ArB wr (w0.heap.size + 1) 64 34 fl := by
              rw [← hfl]
              exact hrow.congr (fun i hi => by unfold lim; rw [if_pos hi])
            have hyw : Byt wr wr.heap.size (some ⟨w0.heap.size + 1, 0, none⟩) 64 64 fl := hrow2.byt (by decide) hrow2.lt (fun i _ => hov i)
            have HYW := Lib.hid hyw
            have hbw0 : Below w0.heap.size w0 wr := HBB.out.trans (HRB.out.mono (Nat.le_succ _))
            have HBW0 := Lib.hid hbw0
            have HIW := Lib.hid (HIC.out wr hbw0)
            have HXW := Lib.hid (And.intro ((World.cell?_of_block (w := W4) (a := ⟨blk, 0, none⟩) (HOTH.out blk (by have := HBL.out; omega))).trans HX.out.1) (And.intro ((World.cell?_of_block (w := W4) (a := ⟨blk, 1, none⟩) (HOTH.out blk (by have := HBL.out; omega))).trans HX.out.2.1) ((World.cell?_of_block (w := W4) (a := ⟨blk, 2, none⟩) (HOTH.out blk (by have := HBL.out; omega))).trans HX.out.2.2)))
            have hblk := World.block_lt_of_cell? _ _ HXW.out.1
            have HBK := Lib.hid hblk
            clear hrow hr1 hfl hov hrow2 hyw hbw0 hblk HFC HX HOTH HABC HRB HSR HAB4 HO4 HBG HBB
            go_wp2_with fail

            go_region_with (first
              | (go_at_call 21
                 refine (all6_any A n c g _ (by omega) (by first | exact HIW.out.below (Below.refl _ wr).drew | exact (HIW.out.below ((Below.refl _ wr).alloc (Nat.le_refl _) _).drew).more (by simp))).mono ?_
                 rintro e w5 ⟨A5, c5, rfl, hown5, hB5⟩
                 have hi5 : Ins w5 w5.heap.size A5 n c5 g := ⟨hown5.cel, HIW.out.2⟩
                 have hb5 : Below wr.heap.size wr w5 := by first | exact (Below.refl _ wr).drew.trans hB5 | exact ((Below.refl _ wr).alloc (Nat.le_refl _) _).drew.trans (hB5.mono (by simp))
                 have HB5 := Lib.hid hb5
                 have HI5 := Lib.hid hi5
                 try (have hl5 : w5.heap[wr.heap.size]? = some (.cells zOut 41) := (hB5.block wr.heap.size (by show _ < (World.alloc _ _).heap.size; simp)).trans (heap_alloc_last wr _)
                      have HL5 := Lib.hid hl5
                      obtain ⟨p0, p1, p2, p3, p4, p5⟩ := out_cells hl5
                      clear hl5)
                 clear hown5 hi5 hb5 hB5)
              | (go_at_call 20
                 refine (vrun_okL _ n _ g _ 64 fl _ val sF (by first | exact HI5.out | exact (HI5.out.below ((Below.refl _ w5).alloc (Nat.le_refl _) _)).more (by simp)) HCE.out (by first | exact (HYW.out.below HB5.out).more HB5.out.size | exact (((HYW.out.below HB5.out).more HB5.out.size).below ((Below.refl _ w5).alloc (Nat.le_refl _) _)).more (by simp)) HOV.out HRUN2.out).mono ?_
                 rintro e w6 ⟨A6, c6, rfl, hown6, hB6⟩
                 have hb6 : Below wr.heap.size wr w6 := by first | exact HB5.out.trans (hB6.mono HB5.out.size) | exact (HB5.out.alloc HB5.out.size _).trans (hB6.mono (by have := HB5.out.size; simp; omega))
                 have HB6 := Lib.hid hb6
                 have HO6 := Lib.hid hown6
                 try (have hl6 : w6.heap[w5.heap.size]? = some (.cells zOut 41) := (hB6.block w5.heap.size (by simp)).trans (heap_alloc_last w5 _)
                      obtain ⟨p0, p1, p2, p3, p4, p5⟩ := out_cells hl6
                      clear hl6)
                 try (have hl4 : w6.heap[wr.heap.size]? = some (.cells zOut 41) := (hB6.block wr.heap.size (Array.getElem?_eq_some_iff.1 HL5.out).1).trans HL5.out
                      obtain ⟨p0, p1, p2, p3, p4, p5⟩ := out_cells hl4
                      clear hl4)
                 clear hown6 hb6 hB6))
            have HT := Lib.hid (And.intro (tail_new (st := sF.st) val HO6.out) (HB6.out.alloc HB6.out.size (.cells #[.int .u32 (val : Int), .int .i64 (sF.st : Int), .slice A6 sF.ld.length c6] 41)))
            obtain ⟨⟨d0, d1, d2, _⟩, hb7⟩ := HT.out
            have e0 := (hb7.cell (p := ⟨blk, 0, none⟩) HBK.out).trans HXW.out.1
            have e1 := (hb7.cell (p := ⟨blk, 1, none⟩) HBK.out).trans HXW.out.2.1
            have e2 := (hb7.cell (p := ⟨blk, 2, none⟩) HBK.out).trans HXW.out.2.2
            have HBZ := Lib.hid (HBW0.out.trans (hb7.mono HBW0.out.size))
            clear HT hb7 HO6 HB6 HI5 HB5
            try clear HL5
            try clear p0 p1 p2 p3 p4 p5
            generalize World.alloc w6 _ = W7 at *
            generalize w6.heap.size = pk at *
            rotate_left
            have HT := Lib.hid (And.intro (tail_set (st := sF.st) val HO6.out (by simp) p0 p1 p2) (((HB6.out.setCell (p := ⟨w5.heap.size, 0, none⟩) HB5.out.size (.int .u32 (val : Int))).setCell (p := ⟨w5.heap.size, 1, none⟩) HB5.out.size (.int .i64 (sF.st : Int))).setCell (p := ⟨w5.heap.size, 2, none⟩) HB5.out.size (.slice A6 sF.ld.length c6)))
            obtain ⟨⟨d0, d1, d2, _⟩, hb7⟩ := HT.out
            have e0 := (hb7.cell (p := ⟨blk, 0, none⟩) HBK.out).trans HXW.out.1
            have e1 := (hb7.cell (p := ⟨blk, 1, none⟩) HBK.out).trans HXW.out.2.1
            have e2 := (hb7.cell (p := ⟨blk, 2, none⟩) HBK.out).trans HXW.out.2.2
            have HBZ := Lib.hid (HBW0.out.trans (hb7.mono HBW0.out.size))
            clear HT hb7 HO6 HB6 HI5 HB5
            try clear HL5
            try clear p0 p1 p2 p3 p4 p5
            generalize World.setCell _ _ _ = W7 at *
            generalize w5.heap.size = pk at *
            rotate_left
            have HT := Lib.hid (And.intro (tail_set (st := sF.st) val HO6.out (Array.getElem?_eq_some_iff.1 HL5.out).1 p0 p1 p2) (((HB6.out.setCell (p := ⟨wr.heap.size, 0, none⟩) (Nat.le_refl _) (.int .u32 (val : Int))).setCell (p := ⟨wr.heap.size, 1, none⟩) (Nat.le_refl _) (.int .i64 (sF.st : Int))).setCell (p := ⟨wr.heap.size, 2, none⟩) (Nat.le_refl _) (.slice A6 sF.ld.length c6)))
            obtain ⟨⟨d0, d1, d2, _⟩, hb7⟩ := HT.out
            have e0 := (hb7.cell (p := ⟨blk, 0, none⟩) HBK.out).trans HXW.out.1
            have e1 := (hb7.cell (p := ⟨blk, 1, none⟩) HBK.out).trans HXW.out.2.1
            have e2 := (hb7.cell (p := ⟨blk, 2, none⟩) HBK.out).trans HXW.out.2.2
            have HBZ := Lib.hid (HBW0.out.trans (hb7.mono HBW0.out.size))
            clear HT hb7 HO6 HB6 HI5 HB5
            try clear HL5
            try clear p0 p1 p2 p3 p4 p5
            generalize World.setCell _ _ _ = W7 at *
            generalize wr.heap.size = pk at *
            rotate_left
            all_goals
              go_wp2_with (go_at_call 25
                           refine (awake6_any _).mono ?_
                           rintro e w9 ⟨rfl, hB9⟩)
              go_ret
              exact ⟨rfl, HBZ.out.trans (hB9.mono HBZ.out.size)⟩
    · obtain ⟨y, hy⟩ : ∃ y, (checkF g n).2 = y := ⟨_, rfl⟩
      rw [hy] at hce
      have HCE := Lib.hid (And.intro hy hce)
      have hyz : ((y : Int) != 0) = true := by simp; omega
      clear hy
      go_region_with (first
        | (go_at_call 21
           refine (all6_any A n c g _ (by omega) (by first | exact HI0.out.below (Below.refl _ W1).drew | exact (HI0.out.below ((Below.refl _ W1).alloc (Nat.le_refl _) _).drew).more (by simp))).mono ?_
           rintro e w2 ⟨A2, c2, rfl, hown2, hB2⟩
           have hi2 : Ins w2 w2.heap.size A2 n c2 g := ⟨hown2.cel, HI0.out.2⟩
           have hb2 : Below W1.heap.size W1 w2 := by first | exact (Below.refl _ W1).drew.trans hB2 | exact ((Below.refl _ W1).alloc (Nat.le_refl _) _).drew.trans (hB2.mono (by simp))
           have HB2 := Lib.hid hb2
           have HI2 := Lib.hid hi2
           try (have hl2 : w2.heap[W1.heap.size]? = some (.cells zOut 41) := (hB2.block W1.heap.size (by show _ < (World.alloc _ _).heap.size; simp)).trans (heap_alloc_last W1 _)
                have HL2 := Lib.hid hl2
                obtain ⟨p0, p1, p2, p3, p4, p5⟩ := out_cells hl2
                clear hl2)
           clear hown2 hi2 hb2 hB2)
        | (go_at_call 20
           refine (vrun_errL _ n _ g _ 64 64 _ y (by first | exact HI2.out | exact (HI2.out.below ((Below.refl _ w2).alloc (Nat.le_refl _) _)).more (by simp)) HCE.out.1 HCE.out.2).mono ?_
           rintro e w3 ⟨rfl, hB3⟩
           have hb3 : Below W1.heap.size W1 w3 := by first | exact HB2.out.trans (hB3.mono HB2.out.size) | exact (HB2.out.alloc HB2.out.size _).trans (hB3.mono (by have := HB2.out.size; simp; omega))
           have HB3 := Lib.hid hb3
           try (have hl3 : w3.heap[w2.heap.size]? = some (.cells zOut 41) := (hB3.block w2.heap.size (by simp)).trans (heap_alloc_last w2 _)
                obtain ⟨p0, p1, p2, p3, p4, p5⟩ := out_cells hl3
                clear hl3)
           try (have hl4 : w3.heap[W1.heap.size]? = some (.cells zOut 41) := (hB3.block W1.heap.size (Array.getElem?_eq_some_iff.1 HL2.out).1).trans HL2.out
                obtain ⟨p0, p1, p2, p3, p4, p5⟩ := out_cells hl4
                clear hl4)
           clear hb3 hB3))
      · have HBB := Lib.hid (HB0.out.trans ((HB3.out.alloc HB3.out.size (.cells #[.int .u32 0, .int .i64 0, .slice none 0 0] 41)).mono HB0.out.size))
        generalize World.alloc w3 _ = W4 at *
        clear HB3 HI2
        go_wp2_with (go_at_call 25
                     refine (awake6_any _).mono ?_
                     rintro e w6 ⟨rfl, hB6⟩)
        go_ret
        exact ⟨rfl, HBB.out.trans (hB6.mono HBB.out.size)⟩
      · have HBB := Lib.hid (HB0.out.trans ((((HB3.out.setCell (p := ⟨w2.heap.size, 0, none⟩) HB2.out.size (.int .u32 0)).setCell (p := ⟨w2.heap.size, 1, none⟩) HB2.out.size (.int .i64 0)).setCell (p := ⟨w2.heap.size, 2, none⟩) HB2.out.size (.slice none 0 0)).mono HB0.out.size))
        generalize World.setCell _ _ _ = W4 at *
        clear HB3 HI2 p0 p1 p2 p3 p4 p5
        go_wp2_with (go_at_call 25
                     refine (awake6_any _).mono ?_
                     rintro e w6 ⟨rfl, hB6⟩)
        go_ret
        exact ⟨rfl, HBB.out.trans (hB6.mono HBB.out.size)⟩
      · have HBB := Lib.hid (HB0.out.trans ((((HB3.out.setCell (p := ⟨W1.heap.size, 0, none⟩) (Nat.le_refl _) (.int .u32 0)).setCell (p := ⟨W1.heap.size, 1, none⟩) (Nat.le_refl _) (.int .i64 0)).setCell (p := ⟨W1.heap.size, 2, none⟩) (Nat.le_refl _) (.slice none 0 0)).mono HB0.out.size))
        generalize World.setCell _ _ _ = W4 at *
        clear HB3 HI2 p0 p1 p2 p3 p4 p5
        go_wp2_with (go_at_call 25
                     refine (awake6_any _).mono ?_
                     rintro e w6 ⟨rfl, hB6⟩)
        go_ret
        exact ⟨rfl, HBB.out.trans (hB6.mono HBB.out.size)⟩

namespace vmBlindRow
open Go.ChangeShapes Go.WideShapes Go.ChangeAt Go.RowKit Go.Joins
open Go.ChangeMaps (open_string shut_string)
set_option linter.unusedVariables false
theorem own : ownKnob Try.prog.godebug = none := by kernel_rfl
theorem laidOut : laidOutB Try.prog = true := by kernel_rfl
set_option maxRecDepth 100000 in
theorem lifted (os : Os) (started : os.Started) (H : Type) (enc : TypeId × Value → H) :
    ReturnsInHanded {} Try.checked os 6 .any (Rows.vmBlindSpec.pre6 enc Try.prog Try.f6 Rows.vmBlindRow.domain false) (Rows.vmBlindSpec.post enc Try.prog Try.f6 false true false false) := by
  refine returnsInHanded_of_change (C := Try.checked) own started (by kernel_rfl) Try.func6
    (ChangeSpec.witness6 (enc := enc) (C := Try.checked) false ⟨#[], #[.slice none 0 0, .agg #[.int .u8 0, .int .u8 0, .int .u8 0, .int .u8 0, .int .u8 0, .int .u8 0, .int .u8 0, .int .u8 0, .int .u8 0, .int .u8 0, .int .u8 0, .int .u8 0, .int .u8 0, .int .u8 0, .int .u8 0, .int .u8 0, .int .u8 0, .int .u8 0, .int .u8 0, .int .u8 0, .int .u8 0, .int .u8 0, .int .u8 0, .int .u8 0, .int .u8 0, .int .u8 0, .int .u8 0, .int .u8 0, .int .u8 0, .int .u8 0, .int .u8 0, .int .u8 0, .int .u8 0, .int .u8 0, .int .u8 0, .int .u8 0, .int .u8 0, .int .u8 0, .int .u8 0, .int .u8 0, .int .u8 0, .int .u8 0, .int .u8 0, .int .u8 0, .int .u8 0, .int .u8 0, .int .u8 0, .int .u8 0, .int .u8 0, .int .u8 0, .int .u8 0, .int .u8 0, .int .u8 0, .int .u8 0, .int .u8 0, .int .u8 0, .int .u8 0, .int .u8 0, .int .u8 0, .int .u8 0, .int .u8 0, .int .u8 0, .int .u8 0, .int .u8 0], .agg #[.int .u8 0, .int .u8 0, .int .u8 0, .int .u8 0, .int .u8 0, .int .u8 0, .int .u8 0, .int .u8 0, .int .u8 0, .int .u8 0, .int .u8 0, .int .u8 0, .int .u8 0, .int .u8 0, .int .u8 0, .int .u8 0, .int .u8 0, .int .u8 0, .int .u8 0, .int .u8 0, .int .u8 0, .int .u8 0, .int .u8 0, .int .u8 0, .int .u8 0, .int .u8 0, .int .u8 0, .int .u8 0, .int .u8 0, .int .u8 0, .int .u8 0, .int .u8 0, .int .u8 0, .int .u8 0, .int .u8 0, .int .u8 0, .int .u8 0, .int .u8 0, .int .u8 0, .int .u8 0, .int .u8 0, .int .u8 0, .int .u8 0, .int .u8 0, .int .u8 0, .int .u8 0, .int .u8 0, .int .u8 0, .int .u8 0, .int .u8 0, .int .u8 0, .int .u8 0, .int .u8 0, .int .u8 0, .int .u8 0, .int .u8 0, .int .u8 0, .int .u8 0, .int .u8 0, .int .u8 0, .int .u8 0, .int .u8 0, .int .u8 0, .int .u8 0]], []⟩ 8 (by kernel_rfl) (by kernel_rfl) (by kernel_rfl) (by kernel_rfl)) ?_
  intro W base args ds gs before hval0 hW hcnd _
  have hval : ∀ (j : Nat) t v, Try.f6.params[j]? = some t → args[j]? = some v → Value.okWide Try.prog W .any base t v := hval0
  have hW' := hW
  obtain ⟨p, q, hA0, hV, rfl, hfz, hnd⟩ := hW
  have hA : DataW.TrodAll enc Try.prog W 0 (fun _ => true) true Try.f6.params.toList args.toList ds p := hA0
  rw [Try.params6] at hA hval
  obtain ⟨v0, vs0, d0, ds0, p0, q0, hargs, rfl, rfl, h0, r0⟩ := trodAll_cons hA
  obtain ⟨v1, vs1, d1, ds1, p1, q1, rfl, rfl, rfl, h1, r1⟩ := trodAll_cons r0
  obtain ⟨v2, vs2, d2, ds2, p2, q2, rfl, rfl, rfl, h2, r2⟩ := trodAll_cons r1
  obtain ⟨rfl, rfl, rfl⟩ := trodAll_nil r2
  obtain rfl : args = #[v0, v1, v2] := by cases args; simp_all
  obtain ⟨rfl, rfl⟩ := trodVars_none hV
  have k0 := h0
  have lt0 : ∀ x ∈ p0, x.block < W.heap.size := by obtain ⟨m, hm⟩ := k0; exact DataW.trod_lt m _ _ _ hm
  have k1 := h1
  have lt1 : ∀ x ∈ p1, x.block < W.heap.size := by obtain ⟨m, hm⟩ := k1; exact DataW.trod_lt m _ _ _ hm
  have k2 := h2
  have lt2 : ∀ x ∈ p2, x.block < W.heap.size := by obtain ⟨m, hm⟩ := k2; exact DataW.trod_lt m _ _ _ hm
  obtain ⟨a0, len0, cap0, rfl⟩ := okWide_slice Try.underlying22 (hval 0 22 v0 rfl rfl)
  obtain ⟨g0, w0⟩ := open_ins h0
  obtain ⟨f1, rfl, w1⟩ := open_arrB (hval 1 34 v1 rfl rfl) h1
  obtain ⟨f2, rfl, w2⟩ := open_arrB (hval 2 34 v2 rfl rfl) h2
  clear hA0 hval0
  refine (walk_VmBlind (w0 := W) a0 len0 cap0 g0 w0 f1 w1 f2 w2).mono fun e W' ⟨he, bel⟩ => ?_
  subst he
  exact ⟨_, rfl, _, _, _, [], _, [], hW', trodAll_mk1 (shut_bool Try.underlying4 _), (trodAll_cons_mk (Below.trod laidOut (by kernel_rfl) (of_decide_eq_true (by kernel_rfl)) k0 bel lt0) (trodAll_cons_mk (Below.trod laidOut (by kernel_rfl) (of_decide_eq_true (by kernel_rfl)) k1 bel lt1) (trodAll_cons_mk (Below.trod laidOut (by kernel_rfl) (of_decide_eq_true (by kernel_rfl)) k2 bel lt2) trodAll_mk0))), rfl, bel.frame _, fun h => by cases h⟩

theorem over : Rows.vmBlindRow.holds Try.pinned (OpenSpec.ofChange Rows.vmBlindSpec) :=
  OpenClaim.holds_of_wide 6 Try.f6 rfl rfl rfl rfl rfl rfl rfl ⟨rfl, rfl, rfl, rfl, rfl⟩ rfl rfl rfl rfl rfl (by kernel_rfl) Try.func6 (by kernel_rfl)
    (of_decide_eq_true (by kernel_rfl)) (by unfold Func.isWrapper; first | (rw [if_pos (by decide +kernel)]; kernel_rfl) | (rw [if_neg (by decide +kernel)]; exact ⟨rfl, rfl⟩))
    (fun os started H enc _ => lifted os started H enc)
end vmBlindRow

theorem vmBlind_proved : Rows.VmBlindSaid := vmBlindRow.over
#print axioms vmBlind_proved
end Go.Proofs.Ytfanapnhdhoppaa
