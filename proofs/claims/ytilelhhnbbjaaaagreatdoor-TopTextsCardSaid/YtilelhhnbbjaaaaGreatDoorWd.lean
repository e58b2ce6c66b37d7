/-
  The contract of the law's own awake: it returns true, whatever lies in memory; and word.Get's answer for whatever it is asked.
-/
import Derived.Test.YtilelhhnbbjaaaaGreatDoorWb
import Derived.Test.YtilelhhnbbjaaaaGreatDoorWa
namespace Go.Proofs.YtilelhhnbbjaaaaGreatDoor
open Go.RowKit

theorem flt_ok {n at_ wd : Int} (h : flt n at_ wd = 0) : (wd = 1 ∨ wd = 2 ∨ wd = 4 ∨ wd = 8) ∧ 0 ≤ at_ ∧ at_ ≤ n - wd := by
  unfold flt at h
  split at h
  · split at h
    · cases h
    · omega
  · cases h
theorem awake_byt (w : World) : Byt (w.alloc (.cells #[.int .u8 1, .int .u8 2, .int .u8 3, .int .u8 4] 5)) (w.heap.size + 1) (some ⟨w.heap.size, 0, none⟩) 4 4 (fun i => i + 1) :=
  Byt.mk_ (by omega) (by decide) (by decide) (fun i hi => by
    match i, hi with
    | 0, _ => exact ⟨by simp, by decide⟩
    | 1, _ => exact ⟨by simp, by decide⟩
    | 2, _ => exact ⟨by simp, by decide⟩
    | 3, _ => exact ⟨by simp, by decide⟩)
theorem awake_get (w : World) :
    Calls Tryz.prog 45 #[.slice (some ⟨w.heap.size, 0, none⟩) 4 4, .int .i64 1, .int .i64 2, .bool false] (w.alloc (.cells #[.int .u8 1, .int .u8 2, .int .u8 3, .int .u8 4] 5)) fun e w' =>
      e = .returned (.tuple #[.int .u64 770, .int .i64 0]) ∧ Below w.heap.size w w' := by
  have h := get_ok false (some ⟨w.heap.size, 0, none⟩) 4 4 1 2 (fun i => i + 1) (w.alloc (.cells #[.int .u8 1, .int .u8 2, .int .u8 3, .int .u8 4] 5)) (by decide) (by decide) (by decide) ((awake_byt w).more (by simp))
  refine h.mono fun e w' ⟨he, hb⟩ => ⟨he, ?_⟩
  exact ((Below.refl _ _).alloc (Nat.le_refl _) _).trans (hb.mono (by simp))
theorem awake_get_big (w : World) :
    Calls Tryz.prog 45 #[.slice (some ⟨w.heap.size, 0, none⟩) 4 4, .int .i64 1, .int .i64 2, .bool true] (w.alloc (.cells #[.int .u8 1, .int .u8 2, .int .u8 3, .int .u8 4] 5)) fun e w' =>
      e = .returned (.tuple #[.int .u64 515, .int .i64 0]) ∧ Below w.heap.size w w' := by
  have h := get_ok true (some ⟨w.heap.size, 0, none⟩) 4 4 1 2 (fun i => i + 1) (w.alloc (.cells #[.int .u8 1, .int .u8 2, .int .u8 3, .int .u8 4] 5)) (by decide) (by decide) (by decide) ((awake_byt w).more (by simp))
  refine h.mono fun e w' ⟨he, hb⟩ => ⟨he, ?_⟩
  exact ((Below.refl _ _).alloc (Nat.le_refl _) _).trans (hb.mono (by simp))
/-- word.Get, whatever it is asked. -/
theorem get_any (big : Bool) (A : Option Addr) (m c : Nat) (p wd : Int) (f : Nat → Nat) (w : World) (hm : m ≤ 4611686018427387904) (ha : -9223372036854775808 ≤ p) (hb : p ≤ 9223372036854775807) (hr : Byt w w.heap.size A m c f) :
    Calls Tryz.prog 45 #[.slice A m c, .int .i64 p, .int .i64 wd, .bool big] w fun e w' =>
      e = .returned (.tuple #[.int .u64 (if flt m p wd = 0 then ((num (fun i => f (pln big p.toNat wd.toNat i)) wd.toNat : Nat) : Int) else 0), .int .i64 (flt m p wd)]) ∧ Below w.heap.size w w' := by
  by_cases h : flt m p wd = 0
  · obtain ⟨hw, h0, h1⟩ := flt_ok h
    obtain ⟨q, rfl⟩ := Int.eq_ofNat_of_zero_le h0
    obtain ⟨k, rfl⟩ := Int.eq_ofNat_of_zero_le (show 0 ≤ wd by omega)
    rw [if_pos h, h]
    exact get_ok big A m c q k f w hm (by omega) (by omega) hr
  · rw [if_neg h]
    exact get_err big A m c p wd w (by unfold maxLen; omega) ha hb h
end Go.Proofs.YtilelhhnbbjaaaaGreatDoor

/-
  The contract of word.Put: for every width of 1, 2, 4 or 8 and every place within the bytes it hands back new bytes, the same but for the number's lowest bytes at that place; else the error that word.fault names, and nil. What was there stays.
-/
namespace Go.Proofs.YtilelhhnbbjaaaaGreatDoor
open Go.RowKit Go.Shelf
attribute [local go_sem] Oper.semAt_some

theorem Own_.abides {w w' : World} {base n c : Nat} {E : TypeId} {A : Option Addr} {g : Nat → Nat} (h : Own_ w base E A n c g) {row : Option Nat} (hg : w.grownBy w' row)
    (hr : ∀ r, row = some r → ∃ o : Obj, w.heap[r]? = some o ∧ o.isCells = false) : Own_ w' base E A n c g := by
  refine ⟨h.1.kept hg ?_, h.2⟩
  rcases hob : (Value.slice A n c).ownBlock with _ | k
  · exact .inl rfl
  · refine .inr fun e => ?_
    obtain ⟨o, ho, hcell⟩ := hr k e.symm
    rcases h.1.2 with ⟨hv, _⟩ | ⟨gg, cap, cur, hv, _, hh, _⟩
    · rw [hv] at hob; cases hob
    · rw [hv] at hob
      have : gg = k := by simpa [Value.ownBlock] using hob
      subst this
      rw [hh] at ho
      cases ho
      simp [Obj.isCells] at hcell
/-- Bytes with those of a number put in, by their indices. -/
def putG (big : Bool) (p wd n : Nat) (f : Nat → Nat) : List (Fin wd) → Nat → Nat
  | [] => f
  | x :: l => fun i => putG big p wd n (fun i => if i = pln big p wd x.1 then n / 2 ^ (8 * x.1) % 256 else f i) l i
theorem putG_snoc (big : Bool) (p wd n : Nat) (f : Nat → Nat) (l : List (Fin wd)) (x : Fin wd) : putG big p wd n f (l ++ [x]) = fun i => if i = pln big p wd x.1 then n / 2 ^ (8 * x.1) % 256 else putG big p wd n f l i := by
  induction l generalizing f with
  | nil => rfl
  | cons y l ih => exact ih _
/-- The index of the byte at a place. -/
def idx (big : Bool) (p wd i : Nat) : Nat := if big then p + wd - 1 - i else i - p
/-- Bytes with those of a number put in. -/
def putF (big : Bool) (p wd n : Nat) (f : Nat → Nat) (i : Nat) : Nat := if p ≤ i ∧ i < p + wd then n / 2 ^ (8 * idx big p wd i) % 256 else f i
theorem putG_upto (big : Bool) (p wd n : Nat) (f : Nat → Nat) (k : Nat) (hk : k ≤ wd) (i : Nat) :
    putG big p wd n f (upto wd k) i = if p ≤ i ∧ i < p + wd ∧ idx big p wd i < k then n / 2 ^ (8 * idx big p wd i) % 256 else f i := by
  induction k with
  | zero => simp [upto, putG]
  | succ k ih =>
    rw [upto_succ (by omega), putG_snoc]
    dsimp only
    rw [ih (by omega)]
    by_cases h : i = pln big p wd k
    · have h2 : p ≤ i ∧ i < p + wd ∧ idx big p wd i = k := by
        unfold pln at h; unfold idx
        cases big <;> simp at h ⊢ <;> omega
      rw [if_pos h, if_pos ⟨h2.1, h2.2.1, by omega⟩, h2.2.2]
    · rw [if_neg h]
      have h3 : (p ≤ i ∧ i < p + wd ∧ idx big p wd i < k + 1) ↔ (p ≤ i ∧ i < p + wd ∧ idx big p wd i < k) := by
        unfold pln at h; unfold idx
        cases big <;> simp at h ⊢ <;> omega
      simp only [h3]
theorem putG_all (big : Bool) (p wd n : Nat) (f : Nat → Nat) (i : Nat) : putG big p wd n f (List.finRange wd) i = putF big p wd n f i := by
  rw [← upto_all, putG_upto big p wd n f wd (Nat.le_refl _) i]
  unfold putF
  have : (p ≤ i ∧ i < p + wd ∧ idx big p wd i < wd) ↔ (p ≤ i ∧ i < p + wd) := by
    unfold idx; cases big <;> simp <;> omega
  simp only [this]

set_option maxRecDepth 100000 in
set_option maxHeartbeats 4000000 in
theorem put_ok (big : Bool) (A : Option Addr) (m c p wd n : Nat) (f : Nat → Nat) (w : World) (hm : m ≤ 140737488355328) (hw : wd = 1 ∨ wd = 2 ∨ wd = 4 ∨ wd = 8) (hp : p + wd ≤ m) (_hn : n < 18446744073709551616) (hb : Byt w w.heap.size A m c f) :
    Calls Tryz.prog 46 #[.slice A m c, .int .i64 p, .int .i64 wd, .bool big, .int .u64 n] w fun e w' =>
      ∃ A' c', e = .returned (.tuple #[.slice A' m c', .int .i64 0]) ∧ Own_ w' w.heap.size 5 A' m c' (putF big p wd n f) ∧ Below w.heap.size w w' := by
  have hwd : wd ≤ 8 := by omega
  have hm0 : 0 < m := by omega
  have hf0 : flt m p wd = 0 := by unfold flt; rw [if_pos (by omega), if_neg (by omega)]
  have hfault : ∀ W : World, Calls Tryz.prog 71 #[.slice A m c, .int .i64 p, .int .i64 wd] W fun e w' => e = .returned (.int .i64 0) ∧ W = w' := fun W => by
    have := fault_any A m c p wd W (by unfold maxLen; omega) (by omega) (by omega)
    rwa [hf0] at this
  have HF := Lib.hid hfault
  have HW := Lib.hid hw
  have HC := Lib.hid (clone_any A m c f (w.alloc (.cells #[.int .u64 n] 79)) (by omega) ((hb.below ((Below.refl _ _).alloc (Nat.le_refl _) _)).more (by simp)))
  clear hf0 hfault hw
  refine (callsIn_wide (n := 5)).1 ?_
  have hro : (Fence.wide).round = none := rfl
  refine callsIn_of_wp_marks Tryz.func46 rfl trivial ?_ hro
  simp only [Tryz.ntmps46, List.size_toArray, List.length_cons, List.length_nil, Nat.reduceAdd, Nat.reduceSub, Array.replicate_succ, Array.replicate_zero, List.push_toArray, List.append_toArray, List.nil_append, List.cons_append]
  gi_wp2_with (first | (refine ⟨trivial, ?_⟩; gi_at_call 71; refine (callsIn_wide.2 (HF.out _)).mono ?_; rintro e w' ⟨rfl, rfl⟩) | (refine ⟨trivial, ?_⟩; gi_at_call 73; refine (callsIn_wide.2 HC.out).mono ?_; rintro e w2 ⟨A2, c2, rfl, hown, hB2⟩) | (refine ⟨trivial, ?_⟩; gi_at_call 72; refine (places_in _ _ trivial rfl _ _ _ _).mono ?_; rintro e w' ⟨rfl, rfl⟩))
  have HH := Lib.hid hp
  obtain ⟨g, rfl, hg1, hg2, _⟩ := hown.byt_at hm0
  rw [World.size_alloc] at hg1 hB2
  have hsz := hB2.size
  rw [World.size_alloc] at hsz
  have hn2 : w2.cell? ⟨w.heap.size, 0, none⟩ = some (.int .u64 n) := (hB2.cell (p := ⟨w.heap.size, 0, none⟩) (by show w.heap.size < _; omega)).trans (by simp)
  have hBw : Below w.heap.size w w2 := ((Below.refl _ _).alloc (Nat.le_refl _) _).trans (hB2.mono (by omega))
  have k1 := cell_new_l w2 (.slice (some ⟨g, 0, none⟩) m c2) 29
  have k2 := cell_new_l (w2.alloc (.cells #[.slice (some ⟨g, 0, none⟩) m c2] 29)) (.int .i64 p) 3
  have k3 := cell_new_l ((w2.alloc (.cells #[.slice (some ⟨g, 0, none⟩) m c2] 29)).alloc (.cells #[.int .i64 p] 3)) (.int .i64 wd) 3
  have k4 := cell_new_l (((w2.alloc (.cells #[.slice (some ⟨g, 0, none⟩) m c2] 29)).alloc (.cells #[.int .i64 p] 3)).alloc (.cells #[.int .i64 wd] 3)) (.bool big) 4
  simp only [World.size_alloc] at k2 k3 k4
  have hB0 : Below w.heap.size w ((((w2.alloc (.cells #[.slice (some ⟨g, 0, none⟩) m c2] 29)).alloc (.cells #[.int .i64 p] 3)).alloc (.cells #[.int .i64 wd] 3)).alloc (.cells #[.bool big] 4)) :=
    (((hBw.alloc hBw.size _).alloc (by simp; omega) _).alloc (by simp; omega) _).alloc (by simp; omega) _
  refine wpIn_rangeFunc_ownF hro (by decide) (gf := 118) (lb := #[.pointer (some ⟨w2.heap.size + 1 + 1, 0, none⟩), .pointer (some ⟨w2.heap.size + 1, 0, none⟩), .pointer (some ⟨w2.heap.size + 1 + 1 + 1, 0, none⟩)]) rfl trivial (enters_of Tryz.func118 (by kernel_rfl) rfl)
    (places_stops Fence.wide (5 - 1) trivial hro (by decide) big (w2.heap.size + 1) p wd hwd (by omega) _ (by simp) (cell_alloc_l _ (cell_alloc_l _ k2.1)) (cell_alloc_l _ k3.1) k4.1) (fun h k => KB.trans h k) (KB.book (by simp)) (Below.refl _ _) (fun _ => rfl)
    (fun pre W => (W.cell? ⟨w.heap.size, 0, none⟩ = some (.int .u64 n) ∧ W.cell? ⟨w2.heap.size, 0, none⟩ = some (.slice (some ⟨g, 0, none⟩) m c2) ∧ Own_ W w.heap.size 5 (some ⟨g, 0, none⟩) m c2 (putG big p wd n f pre)) ∧ Below w.heap.size w W)
    (fun _ _ _ => False)
    (OwnFrom.and (Own.from (fun s A B row hs hg hr => ⟨cell_kept hs.1 hg hr, cell_kept hs.2.1 hg hr, hs.2.2.abides hg hr⟩) _) (ownFrom_below (Nat.le_refl _) (by simp; omega)))
    (fun _ _ _ _ _ hs _ _ => hs)
    ⟨⟨cell_alloc_l _ (cell_alloc_l _ (cell_alloc_l _ (cell_alloc_l _ hn2))), cell_alloc_l _ (cell_alloc_l _ (cell_alloc_l _ k1.1)), ((((hown.lower (by simp)).alloc _).alloc _).alloc _).alloc _⟩, hB0⟩
    (fun x => { tmps := #[.slice A m c, .int .i64 p, .int .i64 wd, .bool big, .int .u64 n, undef, undef, undef, undef, .pointer (some ⟨w.heap.size, 0, none⟩), .slice none 0 0, .int .i64 0, .int .i64 0, .pointer (some ⟨w2.heap.size, 0, none⟩),
        .int .i64 (8 * (x.1 : Int)), .int .i64 (pl big p wd x.1), .slice A m c, .int .i64 p, .int .i64 wd, .int .i64 0, .int .i64 0, .bool false, undef, .slice A m c, .slice (some ⟨g, 0, none⟩) m c2, .int .i64 p, .int .i64 wd, .bool big,
        .func (.func 118) #[] #[.pointer (some ⟨w2.heap.size + 1 + 1, 0, none⟩), .pointer (some ⟨w2.heap.size + 1, 0, none⟩), .pointer (some ⟨w2.heap.size + 1 + 1 + 1, 0, none⟩)],
        .int .i64 (8 * (x.1 : Int)), .int .i64 (pl big p wd x.1), undef, undef, undef, undef, undef, undef, undef, undef], defers := [] }) ?assign ?body ?done ?stop
  case assign =>
    intro l x W K hK
    gi_wp2
    exact hK
  case body =>
    rintro l pre x W ⟨⟨hcn, hcs, ho⟩, hB⟩ _
    have hxw := x.2
    have hpl := pl_eq big p wd x.1 hxw
    have hpm := pln_lt big p wd x.1 m hxw hp
    obtain ⟨_, e0, _, _, hcells⟩ := ho.byt_at hm0
    obtain rfl : g = _ := by injection e0 with e0; injection e0
    have hcb := (hcells _ hpm).1
    have hfb := (hcells _ hpm).2.1
    rw [hpl]
    have hst : (n : Int) / 2 ^ (8 * x.1) % 256 = ((n / 2 ^ (8 * x.1) % 256 : Nat) : Int) := by
      rw [Int.natCast_emod, Int.natCast_ediv, Int.natCast_pow]; rfl
    have HS := Lib.hid hst
    have hfin : ∀ v : Int, v = ((n / 2 ^ (8 * x.1) % 256 : Nat) : Int) → BodyEnd W (KB (w2.heap.size + 1)) (fun W' => (W'.cell? ⟨w.heap.size, 0, none⟩ = some (.int .u64 n) ∧ W'.cell? ⟨w2.heap.size, 0, none⟩ = some (.slice (some ⟨g, 0, none⟩) m c2) ∧ Own_ W' w.heap.size 5 (some ⟨g, 0, none⟩) m c2 (putG big p wd n f (pre ++ [x]))) ∧ Below w.heap.size w W') ((W.setCell ⟨g, pln big p wd x.1, none⟩ (.int .u8 v)).drew) := by
      rintro v rfl
      rw [putG_snoc]
      exact ⟨(KeepsOthers.setCell _ _ _).trans (KeepsOthers.drew _), KB.setCell _ W (by show g < _; omega) _,
        ⟨(World.cell?_setCell_other W _ _ _ (by intro e; injection e; omega)).trans hcn, (World.cell?_setCell_other W _ _ _ (by intro e; injection e; omega)).trans hcs, ho.set_ hpm (Nat.mod_lt _ (by decide))⟩, (hB.setCell (p := ⟨g, pln big p wd x.1, none⟩) (by show _ ≤ g; omega) _).drew⟩
    have HE := Lib.hid hfin
    clear hpl k1 k2 k3 k4 hB0 hcells HC hb e0 hst hfin ho hown
    have hmx : Tryz.prog.follows .mixedOrders = true := by kernel_rfl
    gi_wp2
    gi_region_o
    all_goals gi_wp2
    all_goals (try go_bits)
    all_goals exact HE.out _ HS.out
  case done =>
    rintro D ys W hD rfl ⟨⟨hcn, hcs, ho⟩, hB⟩ hK
    gi_wp2
    refine ⟨by simp, .inl ⟨_, _, rfl, run_takeDeferred hK, ?_⟩⟩
    exact ⟨_, results_tmp2 rfl _ _ _, _, _, rfl, (ho.abides (grownBy_putObj' _ D (.deferred none)) (fun r e => by cases e; exact ⟨_, hK, rfl⟩)).congr (fun i _ => putG_all big p wd n f i), hB.trans (belowK_b (w := w) (Nat.le_refl _) W D _ _ (by simp at hD; omega) hK rfl rfl)⟩
  case stop =>
    rintro D c pre W _ _ h _
    exact h.elim

set_option maxHeartbeats 1000000 in
/-- Where there is an error, it is handed back, and nil. -/
theorem put_err (big : Bool) (A : Option Addr) (m c : Nat) (p wd n : Int) (w : World) (hm : m ≤ maxLen) (ha : -9223372036854775808 ≤ p) (hb : p ≤ 9223372036854775807) (hf : flt m p wd ≠ 0) :
    Calls Tryz.prog 46 #[.slice A m c, .int .i64 p, .int .i64 wd, .bool big, .int .u64 n] w fun e w' => e = .returned (.tuple #[.slice none 0 0, .int .i64 (flt m p wd)]) ∧ Below w.heap.size w w' := by
  have hfault := fun W => fault_any A m c p wd W hm ha hb
  have HF := Lib.hid hfault
  clear hfault
  have ht : (flt m p wd != 0) = true := by simpa using hf
  go_enter Tryz.func46, Tryz.ntmps46
  go_wp2_with (go_at_call 71; refine (HF.out _).mono ?_; rintro e w' ⟨rfl, rfl⟩)
  go_ret2
  exact ⟨rfl, (Below.refl _ _).alloc (Nat.le_refl _) _⟩
end Go.Proofs.YtilelhhnbbjaaaaGreatDoor
