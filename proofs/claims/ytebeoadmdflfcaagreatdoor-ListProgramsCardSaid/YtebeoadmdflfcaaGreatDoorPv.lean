/-
  list.Text and list.Program: a program's text; the instructions of lines.
-/
import Derived.Test.YtebeoadmdflfcaaGreatDoorPt
import Derived.Test.YtebeoadmdflfcaaGreatDoorPr
import Derived.Test.YtebeoadmdflfcaaGreatDoorShc
import Derived.Shelf.Strings.BuilderK
namespace Go.Proofs.YtebeoadmdflfcaaGreatDoor
open Go.RowKit Go.Shelf
set_option linter.unusedVariables false

def Tryz.layw_ren : Go.Shelf.Ren := ⟨fun | 167 => 27 | 240 => 44 | 276 => 58 | n => n, fun | 80 => 69 | 0 => 0 | 4 => 4 | 5 => 5 | 9 => 9 | 20 => 20 | 37 => 61 | 70 => 60 | 72 => 63 | 75 => 65 | 164 => 100 | n => n, fun | n => n⟩
theorem Tryz.layw : Go.Proofs.Lays.n167 Tryz.prog Tryz.layw_ren := {
  mixed := by kernel_rfl
  f167 := Tryz.func27.trans (congrArg some (by kernel_rfl))
  f240 := Tryz.func44.trans (congrArg some (by kernel_rfl))
  f276 := Tryz.func58.trans (congrArg some (by kernel_rfl))
  t0 := Tryz.underlying0
  a0 := Tryz.isAgg0
  z0 := Tryz.sizeOf0
  v0 := Tryz.zeroValue0
  t4 := Tryz.underlying4
  a4 := Tryz.isAgg4
  z4 := Tryz.sizeOf4
  v4 := Tryz.zeroValue4
  t5 := Tryz.underlying5
  a5 := Tryz.isAgg5
  z5 := Tryz.sizeOf5
  v5 := Tryz.zeroValue5
  t9 := Tryz.underlying9
  a9 := Tryz.isAgg9
  z9 := Tryz.sizeOf9
  v9 := Tryz.zeroValue9
  t20 := Tryz.underlying20
  a20 := Tryz.isAgg20
  z20 := Tryz.sizeOf20
  v20 := Tryz.zeroValue20
  t37 := Tryz.underlying61
  a37 := Tryz.isAgg61
  z37 := Tryz.sizeOf61
  v37 := Tryz.zeroValue61
  t70 := Tryz.underlying60
  a70 := Tryz.isAgg60
  z70 := Tryz.sizeOf60
  v70 := Tryz.zeroValue60
  t72 := Tryz.underlying63
  a72 := Tryz.isAgg63
  z72 := Tryz.sizeOf63
  v72 := Tryz.zeroValue63
  t75 := Tryz.underlying65
  a75 := Tryz.isAgg65
  z75 := Tryz.sizeOf65
  v75 := Tryz.zeroValue65
  t164 := Tryz.underlying100
  a164 := Tryz.isAgg100
  z164 := Tryz.sizeOf100
  v164 := Tryz.zeroValue100 }
theorem Tryz.Builder_Extra_w : Builder.Extra Tryz.prog Tryz.layw_ren := {
  sizeBuilder := by kernel_rfl
  liesBuilder := by kernel_rfl
  t5 := Tryz.underlying5
  a5 := Tryz.isAgg5
  z5 := Tryz.sizeOf5
  v5 := Tryz.zeroValue5
  infoByte := by kernel_rfl
  cellsByte := by kernel_rfl
  sizeByte := by kernel_rfl
  neB5 := by decide }
theorem wsK (B b : Nat) (bs : List Value) (s : ByteArray) (w : World) (h : Lib.IsBuilderF 63 5 B b bs w) (hlen : bs.length + s.size ≤ 140737488355328) (hBw : B ≤ w.heap.size) :
    Calls Tryz.prog 26 #[.pointer (some ⟨b, 0, none⟩), .string s] w fun e w' => e = .returned (.tuple #[.int .i64 s.size, .nilIface]) ∧ (Lib.BuilderAtF 63 5 B b (.pointer (some ⟨b, 0, none⟩)) (bs ++ Lib.strCells s) w' ∧ Below B w w' ∧ Lib.OthersKept 5 (some b) w w') :=
  Any.Builder_WriteString_k { Tryz.lays155 with } Tryz.Builder_Extra_155 B b bs s w h hlen hBw
theorem bfBelow {T e : TypeId} {B b : Nat} {bs : List Value} {W W' : World} (h : Lib.IsBuilderF T e B b bs W) (hb : Below W.heap.size W W') : Lib.IsBuilderF T e B b bs W' := by
  have one : ∀ p, Lib.BuilderAtF T e B b p bs W → Lib.BuilderAtF T e B b p bs W' := fun p h => by
    have hlt := h.lt
    obtain ⟨h1, v, h2, h3, h4⟩ := h
    exact ⟨h1, v, (hb.block b hlt).trans h2, h3.kept (row := none) ⟨hb.os, hb.tape, hb.output, hb.size, fun k hk _ => hb.block k hk⟩ (Classical.em _), h4⟩
  exact h.elim (fun x => .inl (one _ x)) (fun x => .inr (one _ x))
/-- The lines of instructions. -/
def linesG (g : Nat → IV) (n : Nat) : List (List UInt8) := (List.range n).map fun i => lineL (g i).c (g i).t (g i).f (g i).k
theorem linesG_succ (g : Nat → IV) (n : Nat) : joinL (linesG g (n + 1)) = joinL (linesG g n) ++ (lineL (g n).c (g n).t (g n).f (g n).k ++ [10]) := by
  unfold linesG
  rw [List.range_succ, List.map_append]
  exact joinL_snoc _ _
theorem linesG_ok (g : Nat → IV) (n m : Nat) (h : ∀ i, i < n → (g i).ok) (hm : m ≤ n) : (joinL (linesG g m)).length ≤ m * 221 := by
  have h1 := joinL_len (linesG g m) 220 fun x hx => by
    unfold linesG at hx
    obtain ⟨i, hi, rfl⟩ := List.mem_map.1 hx
    obtain ⟨h1, h2, h3, h4⟩ := h i (by have := List.mem_range.1 hi; omega)
    exact line_len _ _ _ _ h1 h2 h3 h4
  rw [show (linesG g m).length = m by unfold linesG; simp] at h1
  omega
set_option maxRecDepth 100000 in
set_option maxHeartbeats 8000000 in
theorem textL_any (A : Option Addr) (n c : Nat) (g : Nat → IV) (hn : n ≤ 1000000) (w : World) (hr : Ins w w.heap.size A n c g) (he : EnvL w) :
    Calls Tryz.prog 12 #[.slice A n c] w fun e w' => e = .returned (.string ⟨(joinL (linesG g n)).toArray⟩) ∧ Below w.heap.size w w' := by
  have HC := Lib.hid hr
  have HE := Lib.hid he
  clear hr he
  go_enter Tryz.func12, Tryz.ntmps12
  go_wp2
  go_loopw [8] (fun i wr => ∃ k : Nat, k ≤ n ∧ i = .int .i64 k ∧ Lib.IsBuilderF 63 5 w.heap.size w.heap.size (Lib.byteCells (joinL (linesG g k))) wr ∧ Below w.heap.size w wr) (fun i _ => n - (intOf i).toNat)
  case atStart => exact ⟨0, Nat.zero_le _, rfl, Lib.IsBuilderF.of (Lib.fresh_isBuilder 63 5 w), (Below.refl _ w).alloc (Nat.le_refl _) _⟩
  case round =>
    obtain ⟨k, hk, rfl, hI, hbw⟩ := hrel
    by_cases hlt : k < n
    · obtain ⟨b1, o1, rfl, hb1, hcc⟩ := (HC.out.below hbw).at_ (by omega)
      obtain ⟨q0, q1, q2, q3⟩ := hcc k hlt
      obtain ⟨k1, k2, k3, k4⟩ := HC.out.2 k hlt
      have hle := linesG_ok g n k HC.out.2 hk
      have HLN := Lib.hid fun X (hX : EnvL X) => lineP_any _ _ _ _ k1 k2 k3 k4 X hX
      have hll := line_len _ _ _ _ k1 k2 k3 k4
      have HST := Lib.hid (linesG_succ g k)
      have hb2 : Below w.heap.size w (wr.alloc (.cells #[.int .u16 (g k).c, .int .u8 (g k).t, .int .u8 (g k).f, .int .u32 (g k).k] 25)) := hbw.alloc hbw.size _
      have HE2 := Lib.hid (env_on HE.out hb2 (Nat.le_refl _))
      have HI := Lib.hid hI
      have HBW := Lib.hid hbw
      generalize joinL (linesG g k) = J at *
      generalize lineL (g k).c (g k).t (g k).f (g k).k = LN at *
      generalize g k = v at *
      have i1 : (0 : Int) ≤ (k : Int) := by omega
      have i2 : (k : Int) < (n : Int) := by omega
      clear hcc hI hbw hb2
      have hsz := HBW.out.size
      go_wp2_with (go_at_call 11; refine (HLN.out _ HE2.out).mono ?_; rintro e w4 ⟨rfl, hB4⟩)
      have I4 := bfBelow (HI.out.alloc (.cells #[.int .u16 v.c, .int .u8 v.t, .int .u8 v.f, .int .u32 v.k] 25)) hB4
      have b4 : Below w.heap.size w w4 := (HBW.out.alloc hsz _).trans (hB4.mono (by simp; omega))
      refine (wsK w.heap.size w.heap.size _ ⟨LN.toArray⟩ w4 I4 (by rw [Lib.byteCells_length]; show J.length + LN.toArray.size ≤ _; rw [List.size_toArray]; omega) b4.size).mono ?_
      rintro e w5 ⟨rfl, hA5, hB5, _⟩
      have I5 : Lib.IsBuilderF 63 5 w.heap.size w.heap.size (Lib.byteCells (J ++ LN)) w5 := by
        rw [Lib.byteCells_append]
        exact Or.inr hA5
      have b5 := b4.trans hB5
      clear hA5 I4
      go_wp2_with fail
      refine (Any.Builder_WriteByte_k Tryz.layw Tryz.Builder_Extra_w w.heap.size w.heap.size _ 10 w5 I5 (by rw [Lib.byteCells_length, List.length_append]; omega) b5.size).mono ?_
      rintro e w6 ⟨rfl, hA6, hB6, _⟩
      have I6 : Lib.IsBuilderF 63 5 w.heap.size w.heap.size (Lib.byteCells (J ++ (LN ++ [10]))) w6 := by
        rw [← List.append_assoc, Lib.byteCells_append]
        exact Or.inr hA6
      rw [← HST.out] at I6
      have b6 := b5.trans hB6
      have HI6 := Lib.hid (And.intro I6 b6)
      clear I6 b6 hA6
      go_wp2
      exact ⟨⟨k + 1, hlt, by go_num, HI6.out.1, HI6.out.2⟩, by simp [intOf]; omega⟩
    · obtain rfl : k = n := by omega
      have i2 : ¬ (k : Int) < (k : Int) := by omega
      have HI := Lib.hid hI
      have HBW := Lib.hid hbw
      clear hI hbw
      go_wp2_with (go_at_call 28; refine (Tryz.Builder_String_any_k w.heap.size w.heap.size _ _ HI.out HBW.out.size).mono ?_; rintro e w3 ⟨rfl, _, hB3, _⟩)
      go_ret
      exact ⟨rfl, HBW.out.trans hB3⟩
end Go.Proofs.YtebeoadmdflfcaaGreatDoor
