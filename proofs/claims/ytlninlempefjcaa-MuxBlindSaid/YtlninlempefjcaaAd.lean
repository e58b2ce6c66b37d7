/-
  The contract of abi.Select.
-/
import Derived.Test.YtlninlempefjcaaAc
namespace Go.Proofs.Ytlninlempefjcaa
open Go.RowKit Go.Shelf
attribute [local go_sem] Oper.semAt_some

/-- One row more looked at. -/
def selS (arch num : Nat) (s : Nat × Bool) (x : Fin 5) : Nat × Bool := if (tkA x.1 == arch && (!btA x.1 || hbF num)) = true then (x.1, true) else s
def selF (arch num : Nat) (l : List (Fin 5)) : Nat × Bool := l.foldl (selS arch num) (0, false)
theorem selF_snoc (arch num : Nat) (l : List (Fin 5)) (x : Fin 5) : selF arch num (l ++ [x]) = selS arch num (selF arch num l) x := by simp [selF]
theorem hasBit_wide (n : Nat) (w : World) (hn : n < 4294967296) (N l : Nat) : CallsIn (Fence.wide.inRound l) N Try.prog 46 #[.int .u32 n] w fun e w' => e = .returned (.bool (hbF n)) ∧ w = w' := CallsIn.inRound l (callsIn_wide.2 (hasBit_any n w hn))

set_option maxRecDepth 100000 in
set_option maxHeartbeats 4000000 in
theorem select_any (arch num : Nat) (w : World) (_ha : arch < 4294967296) (hn : num < 4294967296) :
    Calls Try.prog 36 #[.int .u32 arch, .int .u32 num] w fun e w' => e = .returned (.tuple #[.int .i64 (selF arch num (List.finRange 5)).1, .bool (selF arch num (List.finRange 5)).2]) ∧ Below w.heap.size w w' := by
  refine (callsIn_wide (n := 6)).1 ?_
  have hro : (Fence.wide).round = none := rfl
  refine callsIn_of_wp_marks Try.func36 rfl trivial ?_ hro
  simp only [Try.ntmps36, List.size_toArray, List.length_cons, List.length_nil, Nat.reduceAdd, Nat.reduceSub, Array.replicate_succ, Array.replicate_zero, List.push_toArray, List.append_toArray, List.nil_append, List.cons_append]
  gi_wp2
  have r1 : RowB ((((w.alloc (.cells #[.int .u32 arch] 47)).alloc (.cells #[.int .u32 num] 47)).alloc (.cells #[.int .i64 0] 3)).alloc (.cells #[.bool false] 4)) w.heap.size #[.int .u32 arch] 47 := (((RowB.new _ _ _ _ rfl).alloc _).alloc _).alloc _
  have r2 : RowB ((((w.alloc (.cells #[.int .u32 arch] 47)).alloc (.cells #[.int .u32 num] 47)).alloc (.cells #[.int .i64 0] 3)).alloc (.cells #[.bool false] 4)) (w.heap.size + 1) #[.int .u32 num] 47 := ((RowB.new _ _ _ _ (by simp)).alloc _).alloc _
  have r3 : RowB ((((w.alloc (.cells #[.int .u32 arch] 47)).alloc (.cells #[.int .u32 num] 47)).alloc (.cells #[.int .i64 0] 3)).alloc (.cells #[.bool false] 4)) (w.heap.size + 1 + 1) #[.int .i64 0] 3 := (RowB.new _ _ _ _ (by simp)).alloc _
  have r4 : RowB ((((w.alloc (.cells #[.int .u32 arch] 47)).alloc (.cells #[.int .u32 num] 47)).alloc (.cells #[.int .i64 0] 3)).alloc (.cells #[.bool false] 4)) (w.heap.size + 1 + 1 + 1) #[.bool false] 4 := RowB.new _ _ _ _ (by simp)
  have hbw : Below w.heap.size w ((((w.alloc (.cells #[.int .u32 arch] 47)).alloc (.cells #[.int .u32 num] 47)).alloc (.cells #[.int .i64 0] 3)).alloc (.cells #[.bool false] 4)) := ((((Below.refl _ _).alloc (Nat.le_refl _) _).alloc (by simp) _).alloc (by simp; omega) _).alloc (by simp; omega) _
  have hsz : ((((w.alloc (.cells #[.int .u32 arch] 47)).alloc (.cells #[.int .u32 num] 47)).alloc (.cells #[.int .i64 0] 3)).alloc (.cells #[.bool false] 4)).heap.size = w.heap.size + 4 := by simp
  generalize ((((w.alloc (.cells #[.int .u32 arch] 47)).alloc (.cells #[.int .u32 num] 47)).alloc (.cells #[.int .i64 0] 3)).alloc (.cells #[.bool false] 4)) = w3 at *
  refine wpIn_rangeFunc_ownH hro (by decide) (gf := 45) (lb := #[]) rfl trivial (enters_of Try.func45 (by kernel_rfl) rfl)
    (each_stops w3) (fun _ _ => trivial) (fun _ _ _ _ _ _ _ _ => trivial) (Below.refl _ _) (fun _ => rfl)
    (fun pre W => (RowB W w.heap.size #[.int .u32 arch] 47 ∧ RowB W (w.heap.size + 1) #[.int .u32 num] 47 ∧ RowB W (w.heap.size + 1 + 1) #[.int .i64 (selF arch num pre).1] 3 ∧ RowB W (w.heap.size + 1 + 1 + 1) #[.bool (selF arch num pre).2] 4) ∧ Below w.heap.size w W)
    (fun _ _ _ => False)
    (OwnFrom.and (Own.from (fun s A B row hs hg hr => ⟨hs.1.kept hg hr, hs.2.1.kept hg hr, hs.2.2.1.kept hg hr, hs.2.2.2.kept hg hr⟩) _) (ownFrom_below (Nat.le_refl _) (by omega)))
    (fun _ _ _ _ _ hs _ _ => hs)
    ⟨⟨r1, r2, r3, r4⟩, hbw⟩
    (fun x a' W => ∃ Bx, w3.heap.size ≤ Bx ∧ RowB W Bx (infA x.1) 88 ∧ a' = { tmps := #[.int .u32 arch, .int .u32 num, .pointer (some ⟨w.heap.size, 0, none⟩), .pointer (some ⟨w.heap.size + 1, 0, none⟩), .int .i64 0, .bool false, .pointer (some ⟨w.heap.size + 1 + 1, 0, none⟩), .pointer (some ⟨w.heap.size + 1 + 1 + 1, 0, none⟩), .int .i64 (x.1 : Int), .pointer (some ⟨Bx, 0, none⟩), .int .i64 (x.1 : Int), .agg (infA x.1), undef, undef, undef, undef, undef, undef, undef, undef, undef, undef, undef, undef, undef, undef, undef, undef], defers := [] })
    (fun x a' => Own.from (fun s A B row hs hg hr => by
      obtain ⟨Bx, h1, h2, h3⟩ := hs
      exact ⟨Bx, h1, h2.kept hg hr, h3⟩) _) ?assign ?body ?done ?stop
  case assign =>
    rintro l pre x W K ⟨⟨h1, h2, h3, h4⟩, hB⟩ hK
    have hWs : w3.heap.size ≤ W.heap.size := by have := h4.lt; omega
    gi_wp2
    exact hK _ _ ((KeepsOthers.alloc _ _).from _) trivial ⟨⟨h1.alloc _, h2.alloc _, h3.alloc _, h4.alloc _⟩, hB.alloc hB.size _⟩ ⟨W.heap.size, hWs, RowB.new _ _ _ _ rfl, rfl⟩
  case body =>
    rintro l pre x a' W hl hr ⟨⟨h1, h2, h3, h4⟩, hB⟩ ⟨Bx, hBx, hrx, rfl⟩ hlen
    have HSN := Lib.hid (selF_snoc arch num pre x)
    obtain ⟨S', hS'⟩ : ∃ S', S' = selF arch num (pre ++ [x]) := ⟨_, rfl⟩
    rw [← hS'] at HSN
    have HS' := Lib.hid hS'
    clear hS'
    generalize selF arch num pre = S at *
    have p1 := hrx.cell 1 _ rfl
    have p2 := hrx.cell 2 _ rfl
    have q0 := h1.cell 0 _ rfl
    have q1 := h2.cell 0 _ rfl
    have q2 := h3.cell 0 _ rfl
    have q3 := h4.cell 0 _ rfl
    have f1 := h3.frozen 0
    have f2 := h4.frozen 0
    cases ht : (tkA x.1 == arch)
    · have HE : Hid (S' = S) := Lib.hid (by rw [HSN.out]; unfold selS; rw [ht]; rfl)
      have ht2 : (((tkA x.1 : Nat) : Int) == (arch : Int)) = false := by
        have : tkA x.1 ≠ arch := by simpa using ht
        simp; omega
      gi_wp2
      all_goals try (rename_i h _; cases h; done)
      refine ⟨trivial, ?_⟩
      gi_wp2
      have hsn := HS'.out
      refine ⟨KeepsFrom.refl _ _, trivial, ⟨h1, h2, ?_, ?_⟩, hB⟩
      · rw [← hsn, HE.out]; exact h3
      · rw [← hsn, HE.out]; exact h4
    · have ht2 : (((tkA x.1 : Nat) : Int) == (arch : Int)) = true := by
        have : tkA x.1 = arch := by simpa using ht
        simp; omega
      cases hb : btA x.1
      · have HE : Hid (S' = (x.1, true)) := Lib.hid (by rw [HSN.out]; unfold selS; rw [ht, hb]; rfl)
        gi_wp2
        refine ⟨trivial, ?_⟩
        gi_wp2
        have hsn := HS'.out
        refine ⟨((KeepsOthers.setCell _ _ _).trans (KeepsOthers.setCell _ _ _)).from _, trivial, ⟨(h1.setOther 0 _ (by omega)).setOther 0 _ (by omega), (h2.setOther 0 _ (by omega)).setOther 0 _ (by omega), ?_, ?_⟩, (hB.setCell (by simp; omega) _).setCell (by simp; omega) _⟩
        · rw [← hsn, HE.out]; exact (h3.set 0 _).setOther 0 _ (by omega)
        · rw [← hsn, HE.out]; exact (h4.setOther 0 _ (by omega)).set 0 _
      · cases hh : hbF num
        · have HE : Hid (S' = S) := Lib.hid (by rw [HSN.out]; unfold selS; rw [ht, hb, hh]; rfl)
          have HH := Lib.hid (hasBit_wide num W hn)
          gi_wp2_with (refine ⟨trivial, ?_⟩; gi_at_call 46; refine (hasBit_wide num W hn _ _).mono ?_; rw [hh]; rintro e w' ⟨rfl, rfl⟩)
          have hsn := HS'.out
          refine ⟨KeepsFrom.refl _ _, trivial, ⟨h1, h2, ?_, ?_⟩, hB⟩
          · rw [← hsn, HE.out]; exact h3
          · rw [← hsn, HE.out]; exact h4
        · have HE : Hid (S' = (x.1, true)) := Lib.hid (by rw [HSN.out]; unfold selS; rw [ht, hb, hh]; rfl)
          gi_wp2_with (refine ⟨trivial, ?_⟩; gi_at_call 46; refine (hasBit_wide num W hn _ _).mono ?_; rw [hh]; rintro e w' ⟨rfl, rfl⟩)
          have hsn := HS'.out
          refine ⟨((KeepsOthers.setCell _ _ _).trans (KeepsOthers.setCell _ _ _)).from _, trivial, ⟨(h1.setOther 0 _ (by omega)).setOther 0 _ (by omega), (h2.setOther 0 _ (by omega)).setOther 0 _ (by omega), ?_, ?_⟩, (hB.setCell (by simp; omega) _).setCell (by simp; omega) _⟩
          · rw [← hsn, HE.out]; exact (h3.set 0 _).setOther 0 _ (by omega)
          · rw [← hsn, HE.out]; exact (h4.setOther 0 _ (by omega)).set 0 _
  case done =>
    rintro D ys W hD rfl ⟨⟨h1, h2, h3, h4⟩, hB⟩ hK
    have q1 := h3.cell 0 _ rfl
    have q2 := h4.cell 0 _ rfl
    obtain ⟨S, hS⟩ : ∃ S, S = selF arch num (List.finRange 5) := ⟨_, rfl⟩
    rw [← hS] at h3 h4 q1 q2
    have HS := Lib.hid hS
    clear hS
    have hmx : Try.prog.follows .mixedOrders = true := by kernel_rfl
    gi_wp2
    gi_region_o
    all_goals gi_wp2
    refine ⟨by simp, .inl ⟨_, _, rfl, run_takeDeferred (w := W.drew) hK, ?_⟩⟩
    exact ⟨_, results_tmp2 rfl _ _ _, by rw [← HS.out]; rfl, hB.drew.trans (belowK_b (w := w) (Nat.le_refl _) W.drew D _ _ (by omega) hK rfl rfl)⟩
  case stop =>
    rintro D c pre W _ _ h _
    exact h.elim

/-- A record's ABI. -/
def selA (arch num : Nat) : Nat × Bool :=
  if arch = 3221225534 then (if hbF num = true then (1, true) else (0, true)) else if arch = 1073741827 then (2, true) else if arch = 3221225655 then (3, true) else if arch = 3221225715 then (4, true) else (0, false)
theorem sel_all (arch num : Nat) : selF arch num (List.finRange 5) = selA arch num := by
  have e : List.finRange 5 = [0, 1, 2, 3, 4] := rfl
  rw [e]
  unfold selF selA
  simp only [List.foldl_cons, List.foldl_nil]
  by_cases h1 : arch = 3221225534
  · subst h1; cases h : hbF num <;> (simp only [selS, h]; rfl)
  by_cases h2 : arch = 1073741827
  · subst h2; rfl
  by_cases h3 : arch = 3221225655
  · subst h3; rfl
  by_cases h4 : arch = 3221225715
  · subst h4; rfl
  rw [if_neg h1, if_neg h2, if_neg h3, if_neg h4]
  have g1 : ∀ x : Fin 5, (tkA x.1 == arch) = false := by
    intro x
    match x with
    | 0 => exact beq_eq_false_iff_ne.2 (fun h => by have h : 3221225534 = arch := h; omega)
    | 1 => exact beq_eq_false_iff_ne.2 (fun h => by have h : 3221225534 = arch := h; omega)
    | 2 => exact beq_eq_false_iff_ne.2 (fun h => by have h : 1073741827 = arch := h; omega)
    | 3 => exact beq_eq_false_iff_ne.2 (fun h => by have h : 3221225655 = arch := h; omega)
    | 4 => exact beq_eq_false_iff_ne.2 (fun h => by have h : 3221225715 = arch := h; omega)
  have g2 : ∀ (s : Nat × Bool) (x : Fin 5), selS arch num s x = s := fun s x => by unfold selS; rw [g1 x]; rfl
  simp only [g2]
theorem select_ok (arch num : Nat) (w : World) (ha : arch < 4294967296) (hn : num < 4294967296) :
    Calls Try.prog 36 #[.int .u32 arch, .int .u32 num] w fun e w' => e = .returned (.tuple #[.int .i64 (selA arch num).1, .bool (selA arch num).2]) ∧ Below w.heap.size w w' := by
  have := select_any arch num w ha hn
  rwa [sel_all] at this
end Go.Proofs.Ytlninlempefjcaa
