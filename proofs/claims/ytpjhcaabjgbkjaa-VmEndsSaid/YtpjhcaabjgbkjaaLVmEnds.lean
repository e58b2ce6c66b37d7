/-
  The law VmEnds holds for every input: a run has at most as many steps as there are instructions, and loads nothing but words of the record. No condition (the law itself lets more than 200 instructions go).
-/
import Derived.Test.YtpjhcaabjgbkjaaVn
import Derived.Test.YtpjhcaabjgbkjaaIf
import Derived.Test.YtpjhcaabjgbkjaaRows
import Derived.Below
import Derived.ChangeOld
import Derived.ShutString
import Derived.Lib.SmallJoins
import Derived.OpenShut
import Derived.ProofKit
import Derived.WalkKit
import Derived.Deep.RegionWith
import Derived.Deep.RegionLaw
namespace Go.Proofs.Ytpjhcaabjgbkjaa
open Go.RowKit

/-- A store of a whole row as a step of a region that draws its order. -/
theorem step_store_row {P : Program} {w : World} {ops : Array Oper} {o : Oper} {a : Act} {K : Act → World → Prop} {Q : Exit → Act → World → Prop} {R : Prop} (hgd : o.guard = none) (ty : TypeId) (x y : Operand) (ho : o.op = .store ty x y)
    (g : Nat) (cells : Array Value) (hx : a.eval x = .pointer (some ⟨g, 0, none⟩)) (hy : a.eval y = .agg cells) (t : TypeId) (old : Array Value) (hg : w.heap[g]? = some (.cells old t (0, 0))) (hi : (P.info? ty).map (·.size) = some cells.size)
    (hold : old.size = cells.size) (h1 : cells.all (·.oneCell') = true) (h : K (a.put o.dst undef) (w.setRow g cells)) :
    if Region.wanted o (yielded ops a.tmps) = true then Oper.wp P o a w K Q else R := by
  have hw : Region.wanted o (yielded ops a.tmps) = true := by simp [Region.wanted, hgd]
  rw [if_pos hw]
  exact wp_store_row ty x y ho g cells hx hy t old hg hi hold h1 h
theorem out_cells {w : World} {b : Nat} (h : w.heap[b]? = some (.cells zOut 50)) : w.cell? ⟨b, 0, none⟩ = some (.int .u32 0) ∧ w.cell? ⟨b, 1, none⟩ = some (.int .i64 0) ∧ w.cell? ⟨b, 2, none⟩ = some (.slice none 0 0) ∧ w.frozen? ⟨b, 0, none⟩ = false ∧ w.frozen? ⟨b, 1, none⟩ = false ∧ w.frozen? ⟨b, 2, none⟩ = false := by
  refine ⟨?_, ?_, ?_, ?_, ?_, ?_⟩
  · rw [cell_of_row _ _ 0 _ _ (0, 0) h]; rfl
  · rw [cell_of_row _ _ 1 _ _ (0, 0) h]; rfl
  · rw [cell_of_row _ _ 2 _ _ (0, 0) h]; rfl
  all_goals simp [World.frozen?, h]
/-- What is read of the end of a run. -/
def TailF (W : World) (blk B st : Nat) (ld : List Nat) (A3 : Option Addr) (c3 : Nat) : Prop :=
  W.cell? ⟨blk, 1, none⟩ = some (.int .i64 (st : Int)) ∧ W.cell? ⟨blk, 2, none⟩ = some (.slice A3 ld.length c3) ∧ OwnC W B 3 1 A3 ld.length c3 (lcell ld)
theorem tail_set {w : World} {blk B st c3 : Nat} {ld : List Nat} {A3 : Option Addr} (val : Nat) (ho : OwnC w B 3 1 A3 ld.length c3 (lcell ld)) (hlt : blk < B) {v1 v2 : Value} (p1 : w.cell? ⟨blk, 1, none⟩ = some v1) (p2 : w.cell? ⟨blk, 2, none⟩ = some v2) :
    TailF (((w.setCell ⟨blk, 0, none⟩ (.int .u32 (val : Int))).setCell ⟨blk, 1, none⟩ (.int .i64 (st : Int))).setCell ⟨blk, 2, none⟩ (.slice A3 ld.length c3)) blk B st ld A3 c3 := by
  refine ⟨?_, ?_, ((ho.set_other hlt 0 _).set_other hlt 1 _).set_other hlt 2 _⟩
  · rw [World.cell?_setCell_other _ _ _ _ (by intro e; injection e with _ e; cases e)]
    exact World.cell?_setCell_same' _ _ _ (by rw [World.cell?_setCell_other _ _ _ _ (by intro e; injection e with _ e; cases e), p1]; rfl)
  · exact World.cell?_setCell_same' _ _ _ (by rw [World.cell?_setCell_other _ _ _ _ (by intro e; injection e with _ e; cases e), World.cell?_setCell_other _ _ _ _ (by intro e; injection e with _ e; cases e), p2]; rfl)
theorem tail_new {w : World} {B st c3 : Nat} {ld : List Nat} {A3 : Option Addr} (val : Nat) (ho : OwnC w B 3 1 A3 ld.length c3 (lcell ld)) :
    TailF (w.alloc (.cells #[.int .u32 (val : Int), .int .i64 (st : Int), .slice A3 ld.length c3] 50)) w.heap.size B st ld A3 c3 := by
  have hh := heap_alloc_last w (.cells #[.int .u32 (val : Int), .int .i64 (st : Int), .slice A3 ld.length c3] 50)
  refine ⟨?_, ?_, ho.alloc _⟩
  · rw [cell_of_row _ _ 1 _ _ (0, 0) hh]; rfl
  · rw [cell_of_row _ _ 2 _ _ (0, 0) hh]; rfl
theorem vrun_errL (A : Option Addr) (n c : Nat) (g : Nat → IV) (A2 : Option Addr) (n2 c2 : Nat) (w : World) (y : Nat) (hr : Ins w w.heap.size A n c g) (hy : (checkF g n).2 = y) (he : y ≠ 0) :
    Calls Try.prog 24 #[.slice A n c, .slice A2 n2 c2] w fun e w' => e = .returned (.tuple #[.agg #[.int .u32 0, .int .i64 0, .slice none 0 0], .int .i64 (y : Int)]) ∧ Below w.heap.size w w' := by
  subst hy
  exact vrun_err A n c g A2 n2 c2 w hr he
theorem vrun_okL (A : Option Addr) (n c : Nat) (g : Nat → IV) (A2 : Option Addr) (c2 : Nat) (f : Nat → Nat) (w : World) (val : Nat) (sF : VS) (hr : Ins w w.heap.size A n c g) (he : (checkF g n).2 = 0)
    (hby : Byt w w.heap.size A2 64 c2 f) (hf : ∀ i, f i < 256) (hrun : runF g f n zst = some (val, sF)) :
    Calls Try.prog 24 #[.slice A n c, .slice A2 64 c2] w fun e w' => ∃ A' c', e = .returned (.tuple #[.agg #[.int .u32 val, .int .i64 sF.st, .slice A' sF.ld.length c'], .int .i64 0]) ∧ OwnC w' w.heap.size 3 1 A' sF.ld.length c' (lcell sF.ld) ∧ Below w.heap.size w w' :=
  vrun_ok A n c g A2 c2 f w val sF hr he hby hf hrun

set_option maxRecDepth 100000 in
set_option maxHeartbeats 8000000 in
theorem walk_VmEnds {w0 : World} (A : Option Addr) (n c : Nat) (g : Nat → IV) (hr : Ins w0 w0.heap.size A n c g) (f : Nat → Nat) (hf : ∀ i, i < 64 → f i < 256) :
    Calls Try.prog 10 #[.slice A n c, .agg (arrB 64 f)] w0 fun e w' => e = .returned (.bool true) ∧ Below w0.heap.size w0 w' := by
  have hmx := hr.1.le
  unfold maxLen at hmx
  obtain ⟨m1, m2⟩ := hmx
  obtain ⟨D, hD⟩ : ∃ D, arrB 64 f = D := ⟨_, rfl⟩
  have hb0 : Below w0.heap.size w0 (w0.alloc (.cells D 27)) := (Below.refl _ _).alloc (Nat.le_refl _) _
  have ha0 : ArB (w0.alloc (.cells D 27)) w0.heap.size 64 27 f := by rw [← hD]; exact heap_alloc_last w0 _
  have hby0 : Byt (w0.alloc (.cells D 27)) (w0.alloc (.cells D 27)).heap.size (some ⟨w0.heap.size, 0, none⟩) 64 64 (lim f) := byt_lim (ha0.byt (by decide) ha0.lt hf)
  have hin0 : Ins (w0.alloc (.cells D 27)) (w0.alloc (.cells D 27)).heap.size A n c g := (hr.below hb0).more hb0.size
  have hsz : (w0.alloc (.cells D 27)).heap.size = w0.heap.size + 1 := by simp
  have hsl := sl_all
  rw [hD]
  by_cases h1 : 200 < n
  · have hbb := Lib.hid hb0
    clear hr hD ha0 hby0 hin0
    go_enter Try.func10, Try.ntmps10
    go_wp2
    go_ret
    exact ⟨rfl, hbb.out⟩
  · have HB0 := Lib.hid hb0
    have HY0 := Lib.hid hby0
    have HI0 := Lib.hid hin0
    clear hr hD ha0 hby0 hin0 hb0
    go_enter Try.func10, Try.ntmps10
    go_wp2_with fail
    generalize w0.alloc (.cells D 27) = W1 at *
    by_cases hce : (checkF g n).2 = 0
    · obtain ⟨c1, c2, c3, c4⟩ := checkF_facts hce
      obtain ⟨val, sF, hrun⟩ := run_total (lim f) g n c3 c4 n zst c1 (by show n - 0 ≤ n; omega)
      obtain ⟨b1, b2, b3, b4⟩ := run_bounds (lim f) g n c3 c4 n zst val sF c1 hrun (Nat.le_refl _) (fun k hk => by cases hk)
      have HRUN := Lib.hid hrun
      have HCE := Lib.hid hce
      have HB4 := Lib.hid b4
      have b2' : 0 < sF.st := b2
      have b3' : sF.st ≤ n := by have : zst.st = 0 := rfl; omega
      clear hrun hce b4 c3 c4 b2 b3
      have HSZ := Lib.hid hsz
      clear hsz
      go_region_with (first
        | (go_at_call 25
           refine (all6_any A n c g _ (by omega) (by first | exact HI0.out.below (Below.refl _ W1).drew | exact (HI0.out.below ((Below.refl _ W1).alloc (Nat.le_refl _) _).drew).more (by simp))).mono ?_
           rintro e w2 ⟨A2, c2, rfl, hown2, hB2⟩
           have hi2 : Ins w2 w2.heap.size A2 n c2 g := ⟨hown2.cel, HI0.out.2⟩
           have hb2 : Below W1.heap.size W1 w2 := by first | exact (Below.refl _ W1).drew.trans hB2 | exact ((Below.refl _ W1).alloc (Nat.le_refl _) _).drew.trans (hB2.mono (by simp))
           have HB2 := Lib.hid hb2
           have HI2 := Lib.hid hi2
           try (have hl2 : w2.heap[W1.heap.size]? = some (.cells zOut 50) := (hB2.block W1.heap.size (by show _ < (World.alloc _ _).heap.size; simp)).trans (heap_alloc_last W1 _)
                have HL2 := Lib.hid hl2
                obtain ⟨p0, p1, p2, p3, p4, p5⟩ := out_cells hl2
                clear hl2)
           clear hown2 hi2 hb2 hB2)
        | (go_at_call 24
           refine (vrun_okL _ n _ g _ 64 (lim f) _ val sF (by first | exact HI2.out | exact (HI2.out.below ((Below.refl _ w2).alloc (Nat.le_refl _) _)).more (by simp)) HCE.out (by first | exact (HY0.out.below HB2.out).more HB2.out.size | exact (((HY0.out.below HB2.out).more HB2.out.size).below ((Below.refl _ w2).alloc (Nat.le_refl _) _)).more (by simp)) (lim_lt f hf) HRUN.out).mono ?_
           rintro e w3 ⟨A3, c3, rfl, hown3, hB3⟩
           have hb3 : Below W1.heap.size W1 w3 := by first | exact HB2.out.trans (hB3.mono HB2.out.size) | exact (HB2.out.alloc HB2.out.size _).trans (hB3.mono (by have := HB2.out.size; simp; omega))
           have HB3 := Lib.hid hb3
           have HO3 := Lib.hid hown3
           try (have hl3 : w3.heap[w2.heap.size]? = some (.cells zOut 50) := (hB3.block w2.heap.size (by simp)).trans (heap_alloc_last w2 _)
                obtain ⟨p0, p1, p2, p3, p4, p5⟩ := out_cells hl3
                clear hl3)
           try (have hl4 : w3.heap[W1.heap.size]? = some (.cells zOut 50) := (hB3.block W1.heap.size (Array.getElem?_eq_some_iff.1 HL2.out).1).trans HL2.out
                obtain ⟨p0, p1, p2, p3, p4, p5⟩ := out_cells hl4
                clear hl4)
           clear hown3 hb3 hB3))
      · have HT := Lib.hid (And.intro (tail_new (st := sF.st) val HO3.out) (HB3.out.alloc HB3.out.size (.cells #[.int .u32 (val : Int), .int .i64 (sF.st : Int), .slice A3 sF.ld.length c3] 50)))
        have HBB := Lib.hid (HB0.out.trans (HT.out.2.mono HB0.out.size))
        generalize World.alloc w3 _ = W4 at *
        generalize w3.heap.size = blk at *
        obtain ⟨⟨t1, t2, t3⟩, hb4⟩ := HT.out
        have HC4 := Lib.hid t3.cel
        have B1 := World.block_lt_of_cell? _ _ t1
        have HCOP := Lib.hid (fun (wr : World) (hB : Below W4.heap.size W4 wr) => And.intro ((hB.cell (p := ⟨blk, 1, none⟩) B1).trans t1) ((hB.cell (p := ⟨blk, 2, none⟩) B1).trans t2))
        clear hb4 HT B1 HO3 HB3 HI2 t3
        go_wp2_with fail
        clear t1 t2
        go_loopw [7] (fun i wr => ∃ k : Nat, k ≤ sF.ld.length ∧ i = .int .i64 k ∧ Below W4.heap.size W4 wr)
          (fun i _ => sF.ld.length - (intOf i).toNat)
        case atStart => exact ⟨0, by omega, rfl, Below.refl _ _⟩
        case round =>
          obtain ⟨k, hk, rfl, hB⟩ := hrel
          obtain ⟨t1, t2⟩ := HCOP.out wr hB
          have hb := HBB.out.trans (hB.mono HBB.out.size)
          by_cases hlt : k < sF.ld.length
          · obtain ⟨b5, off5, rfl, hl5, hc5⟩ := (HC4.out.below hB).at_ (by omega)
            have q0 := hc5 k (by omega)
            unfold lcell at q0
            obtain ⟨x1, x2⟩ := HB4.out (sF.ld.getD k 0) (by rw [List.getD_eq_getElem?_getD, List.getElem?_eq_getElem hlt]; exact List.getElem_mem _)
            clear hc5
            generalize sF.ld.getD k 0 = x at q0 x1 x2
            go_wp2
            all_goals first
              | exact ⟨⟨k + 1, by omega, by go_num, hB⟩, by simp [intOf]; omega⟩
              | exact ⟨⟨k + 1, by omega, by go_num, hB.drew⟩, by simp [intOf]; omega⟩
              | (exfalso; simp at *; omega)
              | trace_state
          · obtain rfl : k = sF.ld.length := by omega
            go_wp2_with (go_at_call 29
                         refine (awake6_any _).mono ?_
                         rintro e w6 ⟨rfl, hB6⟩)
            all_goals first
              | (go_ret; exact ⟨rfl, hb.trans (hB6.mono hb.size)⟩)
              | trace_state
      · have HT := Lib.hid (And.intro (tail_set (st := sF.st) val HO3.out (by simp) p1 p2) (((HB3.out.setCell (p := ⟨w2.heap.size, 0, none⟩) HB2.out.size (.int .u32 (val : Int))).setCell (p := ⟨w2.heap.size, 1, none⟩) HB2.out.size (.int .i64 (sF.st : Int))).setCell (p := ⟨w2.heap.size, 2, none⟩) HB2.out.size (.slice A3 sF.ld.length c3)))
        have HBB := Lib.hid (HB0.out.trans (HT.out.2.mono HB0.out.size))
        generalize World.setCell _ _ _ = W4 at *
        generalize w2.heap.size = blk at *
        clear p0 p1 p2 p3 p4 p5
        obtain ⟨⟨t1, t2, t3⟩, hb4⟩ := HT.out
        have HC4 := Lib.hid t3.cel
        have B1 := World.block_lt_of_cell? _ _ t1
        have HCOP := Lib.hid (fun (wr : World) (hB : Below W4.heap.size W4 wr) => And.intro ((hB.cell (p := ⟨blk, 1, none⟩) B1).trans t1) ((hB.cell (p := ⟨blk, 2, none⟩) B1).trans t2))
        clear hb4 HT B1 HO3 HB3 HI2 t3
        go_wp2_with fail
        clear t1 t2
        go_loopw [7] (fun i wr => ∃ k : Nat, k ≤ sF.ld.length ∧ i = .int .i64 k ∧ Below W4.heap.size W4 wr)
          (fun i _ => sF.ld.length - (intOf i).toNat)
        case atStart => exact ⟨0, by omega, rfl, Below.refl _ _⟩
        case round =>
          obtain ⟨k, hk, rfl, hB⟩ := hrel
          obtain ⟨t1, t2⟩ := HCOP.out wr hB
          have hb := HBB.out.trans (hB.mono HBB.out.size)
          by_cases hlt : k < sF.ld.length
          · obtain ⟨b5, off5, rfl, hl5, hc5⟩ := (HC4.out.below hB).at_ (by omega)
            have q0 := hc5 k (by omega)
            unfold lcell at q0
            obtain ⟨x1, x2⟩ := HB4.out (sF.ld.getD k 0) (by rw [List.getD_eq_getElem?_getD, List.getElem?_eq_getElem hlt]; exact List.getElem_mem _)
            clear hc5
            generalize sF.ld.getD k 0 = x at q0 x1 x2
            go_wp2
            all_goals first
              | exact ⟨⟨k + 1, by omega, by go_num, hB⟩, by simp [intOf]; omega⟩
              | exact ⟨⟨k + 1, by omega, by go_num, hB.drew⟩, by simp [intOf]; omega⟩
              | (exfalso; simp at *; omega)
              | trace_state
          · obtain rfl : k = sF.ld.length := by omega
            go_wp2_with (go_at_call 29
                         refine (awake6_any _).mono ?_
                         rintro e w6 ⟨rfl, hB6⟩)
            all_goals first
              | (go_ret; exact ⟨rfl, hb.trans (hB6.mono hb.size)⟩)
              | trace_state
      · have HT := Lib.hid (And.intro (tail_set (st := sF.st) val HO3.out (Array.getElem?_eq_some_iff.1 HL2.out).1 p1 p2) (((HB3.out.setCell (p := ⟨W1.heap.size, 0, none⟩) (Nat.le_refl _) (.int .u32 (val : Int))).setCell (p := ⟨W1.heap.size, 1, none⟩) (Nat.le_refl _) (.int .i64 (sF.st : Int))).setCell (p := ⟨W1.heap.size, 2, none⟩) (Nat.le_refl _) (.slice A3 sF.ld.length c3)))
        have HBB := Lib.hid (HB0.out.trans (HT.out.2.mono HB0.out.size))
        generalize World.setCell _ _ _ = W4 at *
        clear p0 p1 p2 p3 p4 p5 HL2
        generalize W1.heap.size = blk at *
        obtain ⟨⟨t1, t2, t3⟩, hb4⟩ := HT.out
        have HC4 := Lib.hid t3.cel
        have B1 := World.block_lt_of_cell? _ _ t1
        have HCOP := Lib.hid (fun (wr : World) (hB : Below W4.heap.size W4 wr) => And.intro ((hB.cell (p := ⟨blk, 1, none⟩) B1).trans t1) ((hB.cell (p := ⟨blk, 2, none⟩) B1).trans t2))
        clear hb4 HT B1 HO3 HB3 HI2 t3
        go_wp2_with fail
        clear t1 t2
        go_loopw [7] (fun i wr => ∃ k : Nat, k ≤ sF.ld.length ∧ i = .int .i64 k ∧ Below W4.heap.size W4 wr)
          (fun i _ => sF.ld.length - (intOf i).toNat)
        case atStart => exact ⟨0, by omega, rfl, Below.refl _ _⟩
        case round =>
          obtain ⟨k, hk, rfl, hB⟩ := hrel
          obtain ⟨t1, t2⟩ := HCOP.out wr hB
          have hb := HBB.out.trans (hB.mono HBB.out.size)
          by_cases hlt : k < sF.ld.length
          · obtain ⟨b5, off5, rfl, hl5, hc5⟩ := (HC4.out.below hB).at_ (by omega)
            have q0 := hc5 k (by omega)
            unfold lcell at q0
            obtain ⟨x1, x2⟩ := HB4.out (sF.ld.getD k 0) (by rw [List.getD_eq_getElem?_getD, List.getElem?_eq_getElem hlt]; exact List.getElem_mem _)
            clear hc5
            generalize sF.ld.getD k 0 = x at q0 x1 x2
            go_wp2
            all_goals first
              | exact ⟨⟨k + 1, by omega, by go_num, hB⟩, by simp [intOf]; omega⟩
              | exact ⟨⟨k + 1, by omega, by go_num, hB.drew⟩, by simp [intOf]; omega⟩
              | (exfalso; simp at *; omega)
              | trace_state
          · obtain rfl : k = sF.ld.length := by omega
            go_wp2_with (go_at_call 29
                         refine (awake6_any _).mono ?_
                         rintro e w6 ⟨rfl, hB6⟩)
            all_goals first
              | (go_ret; exact ⟨rfl, hb.trans (hB6.mono hb.size)⟩)
              | trace_state
    · obtain ⟨y, hy⟩ : ∃ y, (checkF g n).2 = y := ⟨_, rfl⟩
      rw [hy] at hce
      have HCE := Lib.hid (And.intro hy hce)
      have HSZ := Lib.hid hsz
      have hyz : ((y : Int) != 0) = true := by simp; omega
      clear hsz hy
      go_region_with (first
        | (go_at_call 25
           refine (all6_any A n c g _ (by omega) (by first | exact HI0.out.below (Below.refl _ W1).drew | exact (HI0.out.below ((Below.refl _ W1).alloc (Nat.le_refl _) _).drew).more (by simp))).mono ?_
           rintro e w2 ⟨A2, c2, rfl, hown2, hB2⟩
           have hi2 : Ins w2 w2.heap.size A2 n c2 g := ⟨hown2.cel, HI0.out.2⟩
           have hb2 : Below W1.heap.size W1 w2 := by first | exact (Below.refl _ W1).drew.trans hB2 | exact ((Below.refl _ W1).alloc (Nat.le_refl _) _).drew.trans (hB2.mono (by simp))
           have HB2 := Lib.hid hb2
           have HI2 := Lib.hid hi2
           try (have hl2 : w2.heap[W1.heap.size]? = some (.cells zOut 50) := (hB2.block W1.heap.size (by show _ < (World.alloc _ _).heap.size; simp)).trans (heap_alloc_last W1 _)
                have HL2 := Lib.hid hl2
                obtain ⟨p0, p1, p2, p3, p4, p5⟩ := out_cells hl2
                clear hl2)
           clear hown2 hi2 hb2 hB2)
        | (go_at_call 24
           refine (vrun_errL _ n _ g _ 64 64 _ y (by first | exact HI2.out | exact (HI2.out.below ((Below.refl _ w2).alloc (Nat.le_refl _) _)).more (by simp)) HCE.out.1 HCE.out.2).mono ?_
           rintro e w3 ⟨rfl, hB3⟩
           have hb3 : Below W1.heap.size W1 w3 := by first | exact HB2.out.trans (hB3.mono HB2.out.size) | exact (HB2.out.alloc HB2.out.size _).trans (hB3.mono (by have := HB2.out.size; simp; omega))
           have HB3 := Lib.hid hb3
           try (have hl3 : w3.heap[w2.heap.size]? = some (.cells zOut 50) := (hB3.block w2.heap.size (by simp)).trans (heap_alloc_last w2 _)
                obtain ⟨p0, p1, p2, p3, p4, p5⟩ := out_cells hl3
                clear hl3)
           try (have hl4 : w3.heap[W1.heap.size]? = some (.cells zOut 50) := (hB3.block W1.heap.size (Array.getElem?_eq_some_iff.1 HL2.out).1).trans HL2.out
                obtain ⟨p0, p1, p2, p3, p4, p5⟩ := out_cells hl4
                clear hl4)
           clear hb3 hB3))
      · have HBB := Lib.hid (HB0.out.trans ((HB3.out.alloc HB3.out.size (.cells #[.int .u32 0, .int .i64 0, .slice none 0 0] 50)).mono HB0.out.size))
        generalize World.alloc w3 _ = W4 at *
        clear HB3 HI2
        go_wp2_with (go_at_call 29
                     refine (awake6_any _).mono ?_
                     rintro e w6 ⟨rfl, hB6⟩)
        go_ret
        exact ⟨rfl, HBB.out.trans (hB6.mono HBB.out.size)⟩
      · have HBB := Lib.hid (HB0.out.trans ((((HB3.out.setCell (p := ⟨w2.heap.size, 0, none⟩) HB2.out.size (.int .u32 0)).setCell (p := ⟨w2.heap.size, 1, none⟩) HB2.out.size (.int .i64 0)).setCell (p := ⟨w2.heap.size, 2, none⟩) HB2.out.size (.slice none 0 0)).mono HB0.out.size))
        generalize World.setCell _ _ _ = W4 at *
        clear HB3 HI2 p0 p1 p2 p3 p4 p5
        go_wp2_with (go_at_call 29
                     refine (awake6_any _).mono ?_
                     rintro e w6 ⟨rfl, hB6⟩)
        go_ret
        exact ⟨rfl, HBB.out.trans (hB6.mono HBB.out.size)⟩
      · have HBB := Lib.hid (HB0.out.trans ((((HB3.out.setCell (p := ⟨W1.heap.size, 0, none⟩) (Nat.le_refl _) (.int .u32 0)).setCell (p := ⟨W1.heap.size, 1, none⟩) (Nat.le_refl _) (.int .i64 0)).setCell (p := ⟨W1.heap.size, 2, none⟩) (Nat.le_refl _) (.slice none 0 0)).mono HB0.out.size))
        generalize World.setCell _ _ _ = W4 at *
        clear HB3 HI2 p0 p1 p2 p3 p4 p5
        go_wp2_with (go_at_call 29
                     refine (awake6_any _).mono ?_
                     rintro e w6 ⟨rfl, hB6⟩)
        go_ret
        exact ⟨rfl, HBB.out.trans (hB6.mono HBB.out.size)⟩

namespace vmEndsRow
open Go.ChangeShapes Go.WideShapes Go.ChangeAt Go.RowKit Go.Joins
open Go.ChangeMaps (open_string shut_string)
set_option linter.unusedVariables false
theorem own : ownKnob Try.prog.godebug = none := by kernel_rfl
theorem laidOut : laidOutB Try.prog = true := by kernel_rfl
set_option maxRecDepth 100000 in
theorem lifted (os : Os) (started : os.Started) (H : Type) (enc : TypeId × Value → H) :
    ReturnsInHanded {} Try.checked os 10 .any (Rows.vmEndsSpec.pre6 enc Try.prog Try.f10 Rows.vmEndsRow.domain false) (Rows.vmEndsSpec.post enc Try.prog Try.f10 false true false false) := by
  refine returnsInHanded_of_change (C := Try.checked) own started (by kernel_rfl) Try.func10
    (ChangeSpec.witness6 (enc := enc) (C := Try.checked) false ⟨#[], #[.slice none 0 0, .agg #[.int .u8 0, .int .u8 0, .int .u8 0, .int .u8 0, .int .u8 0, .int .u8 0, .int .u8 0, .int .u8 0, .int .u8 0, .int .u8 0, .int .u8 0, .int .u8 0, .int .u8 0, .int .u8 0, .int .u8 0, .int .u8 0, .int .u8 0, .int .u8 0, .int .u8 0, .int .u8 0, .int .u8 0, .int .u8 0, .int .u8 0, .int .u8 0, .int .u8 0, .int .u8 0, .int .u8 0, .int .u8 0, .int .u8 0, .int .u8 0, .int .u8 0, .int .u8 0, .int .u8 0, .int .u8 0, .int .u8 0, .int .u8 0, .int .u8 0, .int .u8 0, .int .u8 0, .int .u8 0, .int .u8 0, .int .u8 0, .int .u8 0, .int .u8 0, .int .u8 0, .int .u8 0, .int .u8 0, .int .u8 0, .int .u8 0, .int .u8 0, .int .u8 0, .int .u8 0, .int .u8 0, .int .u8 0, .int .u8 0, .int .u8 0, .int .u8 0, .int .u8 0, .int .u8 0, .int .u8 0, .int .u8 0, .int .u8 0, .int .u8 0, .int .u8 0]], []⟩ 8 (by kernel_rfl) (by kernel_rfl) (by kernel_rfl) (by kernel_rfl)) ?_
  intro W base args ds gs before hval0 hW hcnd _
  have hval : ∀ (j : Nat) t v, Try.f10.params[j]? = some t → args[j]? = some v → Value.okWide Try.prog W .any base t v := hval0
  have hW' := hW
  obtain ⟨p, q, hA0, hV, rfl, hfz, hnd⟩ := hW
  have hA : DataW.TrodAll enc Try.prog W 0 (fun _ => true) true Try.f10.params.toList args.toList ds p := hA0
  rw [Try.params10] at hA hval
  obtain ⟨v0, vs0, d0, ds0, p0, q0, hargs, rfl, rfl, h0, r0⟩ := trodAll_cons hA
  obtain ⟨v1, vs1, d1, ds1, p1, q1, rfl, rfl, rfl, h1, r1⟩ := trodAll_cons r0
  obtain ⟨rfl, rfl, rfl⟩ := trodAll_nil r1
  obtain rfl : args = #[v0, v1] := by cases args; simp_all
  obtain ⟨rfl, rfl⟩ := trodVars_none hV
  have k0 := h0
  have lt0 : ∀ x ∈ p0, x.block < W.heap.size := by obtain ⟨m, hm⟩ := k0; exact DataW.trod_lt m _ _ _ hm
  have k1 := h1
  have lt1 : ∀ x ∈ p1, x.block < W.heap.size := by obtain ⟨m, hm⟩ := k1; exact DataW.trod_lt m _ _ _ hm
  obtain ⟨a0, len0, cap0, rfl⟩ := okWide_slice Try.underlying48 (hval 0 48 v0 rfl rfl)
  obtain ⟨g0, w0⟩ := open_ins h0
  obtain ⟨f1, rfl, w1⟩ := open_arrB (hval 1 27 v1 rfl rfl) h1
  clear hA0 hval0
  refine (walk_VmEnds (w0 := W) a0 len0 cap0 g0 w0 f1 w1).mono fun e W' ⟨he, bel⟩ => ?_
  subst he
  exact ⟨_, rfl, _, _, _, [], _, [], hW', trodAll_mk1 (shut_bool Try.underlying4 _), (trodAll_cons_mk (Below.trod laidOut (by kernel_rfl) (of_decide_eq_true (by kernel_rfl)) k0 bel lt0) (trodAll_cons_mk (Below.trod laidOut (by kernel_rfl) (of_decide_eq_true (by kernel_rfl)) k1 bel lt1) trodAll_mk0)), rfl, bel.frame _, fun h => by cases h⟩

theorem over : Rows.vmEndsRow.holds Try.pinned (OpenSpec.ofChange Rows.vmEndsSpec) :=
  OpenClaim.holds_of_wide 10 Try.f10 rfl rfl rfl rfl rfl rfl rfl ⟨rfl, rfl, rfl, rfl, rfl⟩ rfl rfl rfl rfl rfl (by kernel_rfl) Try.func10 (by kernel_rfl)
    (of_decide_eq_true (by kernel_rfl)) (by unfold Func.isWrapper; first | (rw [if_pos (by decide +kernel)]; kernel_rfl) | (rw [if_neg (by decide +kernel)]; exact ⟨rfl, rfl⟩))
    (fun os started H enc _ => lifted os started H enc)
end vmEndsRow

theorem vmEnds_proved : Rows.VmEndsSaid := vmEndsRow.over
#print axioms vmEnds_proved
end Go.Proofs.Ytpjhcaabjgbkjaa
