/-
  Layer 16: the order of conditions (compare), in every world.
-/
import Derived.Test.YtccklmleaffgiaaGreatDoorP4
import Derived.Shelf.Abstract
import Derived.Sort.Grow
import Derived.RegionTactic
import Derived.Deep.RegionWith
import Derived.Deep.RegionHeld3
import Derived.Test.YtccklmleaffgiaaGreatDoorOsh
import Derived.Lib.SlicesCompact
import Derived.Lib.SliceRun
import Derived.Laws.IdiomCopy
import Derived.Deep.LoopGhost
namespace Go.Proofs.YtccklmleaffgiaaGreatDoor
open Go.RowKit Go.Shelf Go.Lib Go.Sort
set_option linter.unusedVariables false

def cmpZ (x y : Int) : Int := if x < y then -1 else if x > y then 1 else 0
def orF (a b c d : Int) : Int := if a ≠ 0 then a else if b ≠ 0 then b else if c ≠ 0 then c else d
set_option maxRecDepth 100000 in
set_option maxHeartbeats 2000000 in
theorem nanI_any (x : Int) (w : World) : Calls Tryz.prog 152 #[.int .i64 x] w fun e w' => e = .returned (.bool false) ∧ w' = w := by
  have q : (x != x) = false := bne_self_eq_false _
  go_enter Tryz.func152, Tryz.ntmps152
  go_wp2
  go_ret
  exact ⟨rfl, rfl⟩
set_option maxRecDepth 100000 in
set_option maxHeartbeats 2000000 in
theorem nanU_any (x : Int) (w : World) : Calls Tryz.prog 153 #[.int .u64 x] w fun e w' => e = .returned (.bool false) ∧ w' = w := by
  have q : (x != x) = false := bne_self_eq_false _
  go_enter Tryz.func153, Tryz.ntmps153
  go_wp2
  go_ret
  exact ⟨rfl, rfl⟩
set_option maxRecDepth 100000 in
set_option maxHeartbeats 2000000 in
theorem cmpI_any (x y : Int) (w : World) : Calls Tryz.prog 114 #[.int .i64 x, .int .i64 y] w fun e w' => e = .returned (.int .i64 (cmpZ x y)) ∧ w' = w := by
  by_cases h : x < y
  · rw [show cmpZ x y = -1 by unfold cmpZ; rw [if_pos h]]
    have q0 : decide (x < y) = true := decide_eq_true h
    clear h
    go_enter Tryz.func114, Tryz.ntmps114
    go_wp2_with fail
    refine (nanI_any x _).mono ?_
    rintro e w1 ⟨rfl, rfl⟩
    go_wp2_with fail
    refine (nanI_any y _).mono ?_
    rintro e w1 ⟨rfl, rfl⟩
    go_wp2
    go_ret
    exact ⟨rfl, rfl⟩
  · have q0 : decide (x < y) = false := decide_eq_false h
    by_cases h2 : x > y
    · rw [show cmpZ x y = 1 by unfold cmpZ; rw [if_neg h, if_pos h2]]
      have q1 : decide (x > y) = true := decide_eq_true h2
      clear h h2
      go_enter Tryz.func114, Tryz.ntmps114
      go_wp2_with fail
      refine (nanI_any x _).mono ?_
      rintro e w1 ⟨rfl, rfl⟩
      go_wp2_with fail
      refine (nanI_any y _).mono ?_
      rintro e w1 ⟨rfl, rfl⟩
      go_wp2
      go_ret
      exact ⟨rfl, rfl⟩
    · rw [show cmpZ x y = 0 by unfold cmpZ; rw [if_neg h, if_neg h2]]
      have q1 : decide (x > y) = false := decide_eq_false h2
      clear h h2
      go_enter Tryz.func114, Tryz.ntmps114
      go_wp2_with fail
      refine (nanI_any x _).mono ?_
      rintro e w1 ⟨rfl, rfl⟩
      go_wp2_with fail
      refine (nanI_any y _).mono ?_
      rintro e w1 ⟨rfl, rfl⟩
      go_wp2
      go_ret
      exact ⟨rfl, rfl⟩
set_option maxRecDepth 100000 in
set_option maxHeartbeats 2000000 in
theorem cmpU_any (x y : Int) (w : World) : Calls Tryz.prog 115 #[.int .u64 x, .int .u64 y] w fun e w' => e = .returned (.int .i64 (cmpZ x y)) ∧ w' = w := by
  by_cases h : x < y
  · rw [show cmpZ x y = -1 by unfold cmpZ; rw [if_pos h]]
    have q0 : decide (x < y) = true := decide_eq_true h
    clear h
    go_enter Tryz.func115, Tryz.ntmps115
    go_wp2_with fail
    refine (nanU_any x _).mono ?_
    rintro e w1 ⟨rfl, rfl⟩
    go_wp2_with fail
    refine (nanU_any y _).mono ?_
    rintro e w1 ⟨rfl, rfl⟩
    go_wp2
    go_ret
    exact ⟨rfl, rfl⟩
  · have q0 : decide (x < y) = false := decide_eq_false h
    by_cases h2 : x > y
    · rw [show cmpZ x y = 1 by unfold cmpZ; rw [if_neg h, if_pos h2]]
      have q1 : decide (x > y) = true := decide_eq_true h2
      clear h h2
      go_enter Tryz.func115, Tryz.ntmps115
      go_wp2_with fail
      refine (nanU_any x _).mono ?_
      rintro e w1 ⟨rfl, rfl⟩
      go_wp2_with fail
      refine (nanU_any y _).mono ?_
      rintro e w1 ⟨rfl, rfl⟩
      go_wp2
      go_ret
      exact ⟨rfl, rfl⟩
    · rw [show cmpZ x y = 0 by unfold cmpZ; rw [if_neg h, if_neg h2]]
      have q1 : decide (x > y) = false := decide_eq_false h2
      clear h h2
      go_enter Tryz.func115, Tryz.ntmps115
      go_wp2_with fail
      refine (nanU_any x _).mono ?_
      rintro e w1 ⟨rfl, rfl⟩
      go_wp2_with fail
      refine (nanU_any y _).mono ?_
      rintro e w1 ⟨rfl, rfl⟩
      go_wp2
      go_ret
      exact ⟨rfl, rfl⟩
set_option maxRecDepth 100000 in
set_option maxHeartbeats 4000000 in
theorem orI_any (b : Nat) (r0 r1 r2 r3 : Int) (w : World) (c0 : w.cell? ⟨b, 0, none⟩ = some (.int .i64 r0)) (c1 : w.cell? ⟨b, 1, none⟩ = some (.int .i64 r1)) (c2 : w.cell? ⟨b, 2, none⟩ = some (.int .i64 r2)) (c3 : w.cell? ⟨b, 3, none⟩ = some (.int .i64 r3)) :
    Calls Tryz.prog 113 #[.slice (some ⟨b, 0, none⟩) 4 4] w fun e w' => e = .returned (.int .i64 (orF r0 r1 r2 r3)) ∧ w' = w := by
  obtain ⟨R, hR⟩ : ∃ R, orF r0 r1 r2 r3 = R := ⟨_, rfl⟩
  rw [hR]
  have HR := Lib.hid hR
  clear hR
  go_enter Tryz.func113, Tryz.ntmps113
  go_wp2
  go_loopw [8] (fun i wr => ∃ k : Nat, k ≤ 4 ∧ i = .int .i64 k ∧ wr = w ∧ Hid ((0 < k → r0 = 0) ∧ (1 < k → r1 = 0) ∧ (2 < k → r2 = 0) ∧ (3 < k → r3 = 0))) (fun i _ => 4 - (intOf i).toNat)
  case atStart => exact ⟨0, by omega, rfl, rfl, Lib.hid ⟨fun h => by omega, fun h => by omega, fun h => by omega, fun h => by omega⟩⟩
  case round =>
    obtain ⟨k, hk, rfl, rfl, hz⟩ := hrel
    have hk' : k = 0 ∨ k = 1 ∨ k = 2 ∨ k = 3 ∨ k = 4 := by omega
    clear hk
    rcases hk' with rfl | rfl | rfl | rfl | rfl
    · by_cases h : r0 = 0
      · have q : (r0 != 0) = false := by rw [h]; rfl
        have HH := Lib.hid h
        clear h
        go_wp2
        exact ⟨⟨1, by omega, rfl, trivial, Lib.hid ⟨fun _ => HH.out, fun h => by omega, fun h => by omega, fun h => by omega⟩⟩, by simp [intOf]⟩
      · have q : (r0 != 0) = true := bne_iff_ne.2 h
        obtain rfl : r0 = R := by rw [← HR.out]; unfold orF; rw [if_pos h]
        clear h
        go_wp2
        go_ret
        exact ⟨rfl, rfl⟩
    · by_cases h : r1 = 0
      · have q : (r1 != 0) = false := by rw [h]; rfl
        have HH := Lib.hid h
        clear h
        go_wp2
        exact ⟨⟨2, by omega, rfl, trivial, Lib.hid ⟨fun _ => hz.out.1 (by omega), fun _ => HH.out, fun h => by omega, fun h => by omega⟩⟩, by simp [intOf]⟩
      · have q : (r1 != 0) = true := bne_iff_ne.2 h
        obtain rfl : r1 = R := by rw [← HR.out]; unfold orF; rw [if_neg (fun hc => hc (hz.out.1 (by omega))), if_pos h]
        clear h
        go_wp2
        go_ret
        exact ⟨rfl, rfl⟩
    · by_cases h : r2 = 0
      · have q : (r2 != 0) = false := by rw [h]; rfl
        have HH := Lib.hid h
        clear h
        go_wp2
        exact ⟨⟨3, by omega, rfl, trivial, Lib.hid ⟨fun _ => hz.out.1 (by omega), fun _ => hz.out.2.1 (by omega), fun _ => HH.out, fun h => by omega⟩⟩, by simp [intOf]⟩
      · have q : (r2 != 0) = true := bne_iff_ne.2 h
        obtain rfl : r2 = R := by rw [← HR.out]; unfold orF; rw [if_neg (fun hc => hc (hz.out.1 (by omega))), if_neg (fun hc => hc (hz.out.2.1 (by omega))), if_pos h]
        clear h
        go_wp2
        go_ret
        exact ⟨rfl, rfl⟩
    · have hR3 : r3 = R := by rw [← HR.out]; unfold orF; rw [if_neg (fun hc => hc (hz.out.1 (by omega))), if_neg (fun hc => hc (hz.out.2.1 (by omega))), if_neg (fun hc => hc (hz.out.2.2.1 (by omega)))]
      by_cases h : r3 = 0
      · have q : (r3 != 0) = false := by rw [h]; rfl
        have HH := Lib.hid h
        clear h hR3
        go_wp2
        exact ⟨⟨4, by omega, rfl, trivial, Lib.hid ⟨fun _ => hz.out.1 (by omega), fun _ => hz.out.2.1 (by omega), fun _ => hz.out.2.2.1 (by omega), fun _ => HH.out⟩⟩, by simp [intOf]⟩
      · have q : (r3 != 0) = true := bne_iff_ne.2 h
        subst hR3
        clear h
        go_wp2
        go_ret
        exact ⟨rfl, rfl⟩
    · obtain rfl : R = 0 := by
        rw [← HR.out]; unfold orF
        rw [if_neg (fun hc => hc (hz.out.1 (by omega))), if_neg (fun hc => hc (hz.out.2.1 (by omega))), if_neg (fun hc => hc (hz.out.2.2.1 (by omega)))]
        exact hz.out.2.2.2 (by omega)
      go_wp2
      go_ret
      exact ⟨rfl, rfl⟩
/-- The order of conditions. -/
def cmpC (a o : Int) (m v : Int) (a' o' : Int) (m' v' : Int) : Int := orF (cmpZ a a') (cmpZ o o') (cmpZ m m') (cmpZ v v')
end Go.Proofs.YtccklmleaffgiaaGreatDoor

/-
  Layer 16: SortFunc at conditions by their order.
-/
namespace Go.Proofs.YtccklmleaffgiaaGreatDoor
open Go.RowKit Go.Shelf Go.Lib Go.Sort
set_option linter.unusedVariables false

abbrev CV := Int × Int × Int × Int
def encC (x : CV) : List Value := [.int .i64 x.1, .int .i64 x.2.1, .int .u64 x.2.2.1, .int .u64 x.2.2.2]
def cfC (x y : CV) : Int := cmpC x.1 x.2.1 x.2.2.1 x.2.2.2 y.1 y.2.1 y.2.2.1 y.2.2.2
/-- Which of two stands ahead. -/
def ltC (x y : CV) : Prop := x.1 < y.1 ∨ (x.1 = y.1 ∧ (x.2.1 < y.2.1 ∨ (x.2.1 = y.2.1 ∧ (x.2.2.1 < y.2.2.1 ∨ (x.2.2.1 = y.2.2.1 ∧ x.2.2.2 < y.2.2.2)))))
theorem cmpZ_lt (x y : Int) : cmpZ x y < 0 ↔ x < y := by unfold cmpZ; split; omega; split <;> omega
theorem cmpZ_eq (x y : Int) : cmpZ x y = 0 ↔ x = y := by unfold cmpZ; split; omega; split <;> omega
theorem ltC_iff (x y : CV) : ltOf cfC x y = true ↔ ltC x y := by
  unfold ltOf cfC cmpC orF ltC
  rw [decide_eq_true_iff]
  have e0 := cmpZ_eq x.1 y.1
  have e1 := cmpZ_eq x.2.1 y.2.1
  have e2 := cmpZ_eq x.2.2.1 y.2.2.1
  have l0 := cmpZ_lt x.1 y.1
  have l1 := cmpZ_lt x.2.1 y.2.1
  have l2 := cmpZ_lt x.2.2.1 y.2.2.1
  have l3 := cmpZ_lt x.2.2.2 y.2.2.2
  by_cases h0 : cmpZ x.1 y.1 ≠ 0
  · rw [if_pos h0, l0]
    have h0' := mt e0.2 h0
    constructor
    · exact .inl
    · rintro (h | ⟨h, _⟩)
      · exact h
      · exact absurd h h0'
  · have q0 := e0.1 (Decidable.not_not.1 h0)
    rw [if_neg h0]
    by_cases h1 : cmpZ x.2.1 y.2.1 ≠ 0
    · rw [if_pos h1, l1]
      have h1' := mt e1.2 h1
      constructor
      · exact fun h => .inr ⟨q0, .inl h⟩
      · rintro (h | ⟨_, h | ⟨h, _⟩⟩)
        · omega
        · exact h
        · exact absurd h h1'
    · have q1 := e1.1 (Decidable.not_not.1 h1)
      rw [if_neg h1]
      by_cases h2 : cmpZ x.2.2.1 y.2.2.1 ≠ 0
      · rw [if_pos h2, l2]
        have h2' := mt e2.2 h2
        constructor
        · exact fun h => .inr ⟨q0, .inr ⟨q1, .inl h⟩⟩
        · rintro (h | ⟨_, h | ⟨_, h | ⟨h, _⟩⟩⟩)
          · omega
          · omega
          · exact h
          · exact absurd h h2'
      · have q2 := e2.1 (Decidable.not_not.1 h2)
        rw [if_neg h2, l3]
        constructor
        · exact fun h => .inr ⟨q0, .inr ⟨q1, .inr ⟨q2, h⟩⟩⟩
        · rintro (h | ⟨_, h | ⟨_, h | ⟨_, h⟩⟩⟩)
          · omega
          · omega
          · omega
          · exact h
theorem ltC_no (x y : CV) : ltOf cfC x y = false ↔ ¬ ltC x y := by rw [← ltC_iff]; simp
theorem swoC : SWO (ltOf cfC) where
  irrefl x := by rw [ltC_no]; unfold ltC; omega
  trans x y z h1 h2 := by rw [ltC_iff] at *; unfold ltC at *; omega
  ntrans x y z h1 h2 := by rw [ltC_no] at *; unfold ltC at *; omega
/-- Two that neither stands ahead of the other are one. -/
theorem ltC_total (x y : CV) (h1 : ltOf cfC x y = false) (h2 : ltOf cfC y x = false) : x = y := by
  rw [ltC_no] at h1 h2
  unfold ltC at h1 h2
  obtain ⟨a, b, c, d⟩ := x
  obtain ⟨a', b', c', d'⟩ := y
  simp only at h1 h2
  obtain rfl : a = a' := by omega
  obtain rfl : b = b' := by omega
  obtain rfl : c = c' := by omega
  obtain rfl : d = d' := by omega
  rfl
theorem len_12 (n : Nat) (hn : n ≤ 12) (w : World) : Calls Tryz.prog 112 #[.int .u64 n] w fun e w' => (∃ l : Int, e = .returned (.int .i64 l)) ∧ w' = w :=
  (Tryz.bits_Len n w (by omega) (by omega)).mono fun _ _ ⟨he, hw⟩ => ⟨⟨_, he⟩, hw⟩
end Go.Proofs.YtccklmleaffgiaaGreatDoor

/-
  Layer 16: slices.Compact at conditions.
-/
namespace Go.Proofs.YtccklmleaffgiaaGreatDoor
open Go.RowKit Go.Shelf Go.Lib Go.Sort
set_option linter.unusedVariables false

theorem below_setCellsC {B b : Nat} {a : World} (hb : B ≤ b) : ∀ (vs : List Value) (o : Nat) (w : World), RowKit.Below B a w → RowKit.Below B a (w.setCells b o vs)
  | [], _, _, h => h
  | v :: r, o, w, h => below_setCellsC hb r (o + 1) _ (h.setCell (by exact hb) v)
/-- A block of this type. -/
def TyAt (w : World) (b : Nat) (T : TypeId) : Prop := ∃ cs, ∃ fr : Nat × Nat, w.heap[b]? = some (.cells cs T fr)
theorem TyAt.set {w : World} {b : Nat} {T : TypeId} (h : TyAt w b T) (i : Nat) (v : Value) : TyAt (w.setCell ⟨b, i, none⟩ v) b T := by
  obtain ⟨cs, fr, h⟩ := h
  exact ⟨_, fr, by rw [setCell_eq_setRow w b i cs T fr v h]; exact setRow_heap w b cs _ T fr h⟩
theorem TyAt.sets {b : Nat} {T : TypeId} : ∀ (vs : List Value) (o : Nat) (w : World), TyAt w b T → TyAt (w.setCells b o vs) b T
  | [], _, _, h => h
  | v :: r, o, w, h => TyAt.sets r (o + 1) _ (h.set o v)
theorem TyAt.keep {w w' : World} {b : Nat} {T : TypeId} (h : TyAt w b T) (he : w'.heap[b]? = w.heap[b]?) : TyAt w' b T := by
  obtain ⟨cs, fr, h⟩ := h
  exact ⟨cs, fr, he.trans h⟩
theorem TyAt.lt {w : World} {b : Nat} {T : TypeId} (h : TyAt w b T) : b < w.heap.size := by
  obtain ⟨cs, fr, h⟩ := h
  exact (Array.getElem?_eq_some_iff.1 h).1
theorem TyAt.map {w : World} {b : Nat} {T : TypeId} (h : TyAt w b T) (f : Array Value → Array Value) : TyAt (mapBlock w b f) b T := by
  obtain ⟨cs, fr, h⟩ := h
  refine ⟨f cs, fr, ?_⟩
  obtain ⟨h1, h2⟩ := Array.getElem?_eq_some_iff.1 h
  unfold mapBlock
  simp only
  rw [Array.getElem?_eq_getElem (by simpa using h1), Array.getElem_modify, if_pos rfl, h2]
  rfl
theorem TyAt.grow {w : World} {b : Nat} {T : TypeId} (h : TyAt w b T) (os : Array Obj) : TyAt (grow w os) b T := by
  have hl := h.lt
  refine h.keep ?_
  unfold Sort.grow
  simp only
  exact Array.getElem?_append_left hl
theorem TyAt.sorted {w : World} {b : Nat} {T : TypeId} (h : TyAt w b T) (off n : Nat) (d : Array CV) (os : Array Obj) : TyAt (sortWorldK encC 4 w b off n d os) b T :=
  TyAt.grow (TyAt.map (w := Sort.ahead w n) h _) os
theorem divmod4 (i c : Nat) (hc : c < 4) : (i * 4 + c) / 4 = i ∧ (i * 4 + c) % 4 = c := by omega
theorem HoldsK.four {W : World} {blk off : Nat} {d : Array CV} (h : HoldsK encC 4 W blk off d) {i : Nat} (hi : i < d.size) {x : CV} (hx : d[i]! = x) :
    W.cell? ⟨blk, off + i * 4, none⟩ = some (.int .i64 x.1) ∧ W.cell? ⟨blk, off + i * 4 + 1, none⟩ = some (.int .i64 x.2.1) ∧ W.cell? ⟨blk, off + i * 4 + 2, none⟩ = some (.int .u64 x.2.2.1) ∧ W.cell? ⟨blk, off + i * 4 + 3, none⟩ = some (.int .u64 x.2.2.2) := by
  subst hx
  have h0 := (HoldsK.cell (c := 0) h hi (by decide)).1
  rw [Nat.add_zero] at h0
  exact ⟨h0, (HoldsK.cell (c := 1) h hi (by decide)).1, (HoldsK.cell (c := 2) h hi (by decide)).1, (HoldsK.cell (c := 3) h hi (by decide)).1⟩
theorem HoldsK.cold {W : World} {blk off : Nat} {d : Array CV} (h : HoldsK encC 4 W blk off d) {i : Nat} (hi : i < d.size) :
    W.frozen? ⟨blk, off + i * 4, none⟩ = false ∧ W.frozen? ⟨blk, off + i * 4 + 1, none⟩ = false ∧ W.frozen? ⟨blk, off + i * 4 + 2, none⟩ = false ∧ W.frozen? ⟨blk, off + i * 4 + 3, none⟩ = false := by
  have h0 := (HoldsK.cell (c := 0) h hi (by decide)).2
  rw [Nat.add_zero] at h0
  exact ⟨h0, (HoldsK.cell (c := 1) h hi (by decide)).2, (HoldsK.cell (c := 2) h hi (by decide)).2, (HoldsK.cell (c := 3) h hi (by decide)).2⟩
theorem HoldsK.put {W : World} {blk off : Nat} {d : Array CV} (h : HoldsK encC 4 W blk off d) {i : Nat} (hi : i < d.size) (x : CV) :
    HoldsK encC 4 (W.setCells blk (off + i * 4) (encC x)) blk off (d.setIfInBounds i x) := by
  intro t ht
  have ht' : t < d.size * 4 := by simpa using ht
  refine ⟨?_, by rw [World.frozen?_setCells]; exact (h t (by rw [size_flatK]; exact ht')).2⟩
  rw [get_flatK _ _ _ _ (by simpa using ht')]
  by_cases e : t / 4 = i
  · obtain ⟨c, hc, rfl⟩ : ∃ c, c < 4 ∧ t = i * 4 + c := ⟨t % 4, by omega, by omega⟩
    have hin := World.cell?_setCells_in blk (encC x) (off + i * 4) W (fun j hj => by
      have := (HoldsK.cell (c := j) h hi (show j < 4 from hj)).1
      rw [this]; rfl) c (show c < 4 from hc)
    rw [← Nat.add_assoc, hin, (divmod4 i c hc).1, (divmod4 i c hc).2, getElem!_set_same d i x hi]
    show some (encC x)[c] = some (encC x)[c]!
    rw [getElem!_pos (encC x) c (show c < 4 from hc)]
  · have hout := World.cell?_setCells_out blk (encC x) (off + i * 4) W ⟨blk, off + t, none⟩ (fun _ _ => by
      show off + t < off + i * 4 ∨ off + i * 4 + 4 ≤ off + t
      omega)
    rw [hout]
    have := (h t (by rw [size_flatK]; exact ht')).1
    rw [get_flatK _ _ _ _ ht'] at this
    show W.cell? _ = some _
    rw [this]
    have hq : t / 4 < d.size := by omega
    rw [getElem!_pos (d.setIfInBounds i x) (t / 4) (by simpa using hq), getElem!_pos d (t / 4) hq, Array.getElem_setIfInBounds, if_neg (Ne.symm e)]
theorem cv_cases (x y : CV) : x = y ∨ (x.1 == y.1) = false ∨ (x.1 = y.1 ∧ (x.2.1 == y.2.1) = false) ∨ (x.1 = y.1 ∧ x.2.1 = y.2.1 ∧ (x.2.2.1 == y.2.2.1) = false) ∨ (x.1 = y.1 ∧ x.2.1 = y.2.1 ∧ x.2.2.1 = y.2.2.1 ∧ (x.2.2.2 == y.2.2.2) = false) := by
  obtain ⟨a, o, m, v⟩ := x
  obtain ⟨a', o', m', v'⟩ := y
  simp only [beq_eq_false_iff_ne]
  by_cases h1 : a = a'
  · by_cases h2 : o = o'
    · by_cases h3 : m = m'
      · by_cases h4 : v = v'
        · left; rw [h1, h2, h3, h4]
        · exact .inr (.inr (.inr (.inr ⟨h1, h2, h3, h4⟩)))
      · exact .inr (.inr (.inr (.inl ⟨h1, h2, h3⟩)))
    · exact .inr (.inr (.inl ⟨h1, h2⟩))
  · exact .inr (.inl h1)
theorem clearC (blk o n c : Nat) (w : World) (ty : TypeId) (hn : 0 < n) (hc : ∀ j, j < n * 4 → (w.cell? ⟨blk, o + j, none⟩).isSome = true ∧ w.frozen? ⟨blk, o + j, none⟩ = false) :
    ∃ Z : List Value, Z.length = n * 4 ∧ (Builtin.clear_ #[48] ty #[.slice (some ⟨blk, o, none⟩) n c]).run Tryz.prog w = .ok (.tuple #[]) (w.setCells blk o Z) := by
  refine ⟨(Builtin.zeroCells zN n).toList, by simp [Builtin.zeroCells], ?_⟩
  have hst := run_storeCells_cells (P := Tryz.prog) blk o (Builtin.zeroCells zN n).toList 0 w (fun j hj => by rw [Nat.add_zero]; exact (hc j (by simpa [Builtin.zeroCells] using hj)).1) (fun j hj => by rw [Nat.add_zero]; exact (hc j (by simpa [Builtin.zeroCells] using hj)).2) (by
    intro v hv
    simp only [Builtin.zeroCells, Array.toList_map, List.mem_map] at hv
    obtain ⟨i, _, rfl⟩ := hv
    have h : i % zN.size = 0 ∨ i % zN.size = 1 ∨ i % zN.size = 2 ∨ i % zN.size = 3 := by
      have : i % zN.size < 4 := Nat.mod_lt _ (by decide)
      omega
    rcases h with h | h | h | h <;> rw [h] <;> rfl)
  simp only [Nat.add_zero] at hst
  obtain ⟨m, rfl⟩ : ∃ m, n = m + 1 := ⟨n - 1, by omega⟩
  have hcl : (Value.agg zN).cells = zN := rfl
  simp [Builtin.clear_, run_underlying Tryz.underlying48, hcl, hst]
/-- What a row holds at its head. -/
def Heads (w : World) (blk off : Nat) (l : List CV) : Prop := ∀ j, j < l.length → w.cell? ⟨blk, off + j * 4, none⟩ = some (.int .i64 l[j]!.1) ∧ w.cell? ⟨blk, off + j * 4 + 1, none⟩ = some (.int .i64 l[j]!.2.1) ∧ w.cell? ⟨blk, off + j * 4 + 2, none⟩ = some (.int .u64 l[j]!.2.2.1) ∧ w.cell? ⟨blk, off + j * 4 + 3, none⟩ = some (.int .u64 l[j]!.2.2.2)
theorem heads_of {W : World} {blk off : Nat} {d : Array CV} (h : HoldsK encC 4 W blk off d) {l : List CV} (hl : ∀ j, j < l.length → j < d.size ∧ l[j]! = d[j]!) : Heads W blk off l := fun j hj => by
  rw [(hl j hj).2]
  exact HoldsK.four h (hl j hj).1 rfl
theorem heads_all {W : World} {blk off : Nat} {d : Array CV} (h : HoldsK encC 4 W blk off d) (hall : ∀ j, j < d.size → keeps d j = true) : (compactUpTo d d.size).length = d.size ∧ Heads W blk off (compactUpTo d d.size) := by
  have e : compactUpTo d d.size = d.toList := by rw [compactUpTo_all d _ hall, range_map_get]
  rw [e]
  refine ⟨by simp, heads_of h fun j hj => ⟨by simpa using hj, ?_⟩⟩
  have hj' : j < d.size := by simpa using hj
  rw [getElem!_pos d j hj', getElem!_pos d.toList j hj]
  simp
end Go.Proofs.YtccklmleaffgiaaGreatDoor
