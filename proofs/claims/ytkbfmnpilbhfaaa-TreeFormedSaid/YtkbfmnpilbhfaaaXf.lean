/-
  Layer 19 (tree): what tree.Build answers, case by case; a tree of any numbers in memory; the laws' own awake.
-/
import Derived.Test.YtkbfmnpilbhfaaaXd
import Derived.Test.YtkbfmnpilbhfaaaXe
namespace Go.Proofs.Ytkbfmnpilbhfaaa
open Go.RowKit

/-- A tree of n numbers in memory. -/
structure TreeW (g : Nat → Nat) (n : Nat) (T : Nat → Nd) (D : Nat → Nat) (A : Option Addr) (N c : Nat) (w : World) : Prop where
  cel : Cel w w.heap.size 5 A N c (ndC T)
  tree : IsTree g n T D N
  lo : 1 ≤ N
  hi : N ≤ 8191
  ris : Ris g n
  few : n ≤ 4096
theorem TreeW.below {g : Nat → Nat} {n : Nat} {T : Nat → Nd} {D : Nat → Nat} {A : Option Addr} {N c : Nat} {w w' : World} (h : TreeW g n T D A N c w) (hb : Below w.heap.size w w') : TreeW g n T D A N c w' :=
  ⟨(h.cel.below hb).more hb.size, h.tree, h.lo, h.hi, h.ris, h.few⟩
theorem build_no (A : Option Addr) (n c : Nat) (g : Nat → Nat) (w : World) (hU : U32a w A n c g) (hr : risB g n = false) :
    Calls Try.prog 7 #[.slice A n c] w fun e w' => e = .returned (.tuple #[.slice none 0 0, .int .i64 15]) ∧ Below w.heap.size w w' :=
  (build_any A n c g w hU).mono fun e w' ⟨h, hb⟩ => by
    rcases h with ⟨_, h⟩ | ⟨h, _⟩ | ⟨h, _⟩
    · exact ⟨h, hb⟩
    · rw [hr] at h; cases h
    · rw [hr] at h; cases h
theorem build_long (A : Option Addr) (n c : Nat) (g : Nat → Nat) (w : World) (hU : U32a w A n c g) (hr : risB g n = true) (h4 : 4096 < n) :
    Calls Try.prog 7 #[.slice A n c] w fun e w' => e = .returned (.tuple #[.slice none 0 0, .int .i64 3]) ∧ Below w.heap.size w w' :=
  (build_any A n c g w hU).mono fun e w' ⟨h, hb⟩ => by
    rcases h with ⟨h, _⟩ | ⟨_, _, h⟩ | ⟨_, h, _⟩
    · rw [hr] at h; cases h
    · exact ⟨h, hb⟩
    · omega
theorem build_ok (A : Option Addr) (n c : Nat) (g : Nat → Nat) (w : World) (hU : U32a w A n c g) (hr : risB g n = true) (h4 : n ≤ 4096) :
    Calls Try.prog 7 #[.slice A n c] w fun e w' => (∃ A' N c' T D, e = .returned (.tuple #[.slice A' N c', .int .i64 0]) ∧ TreeW g n T D A' N c' w') ∧ Below w.heap.size w w' :=
  (build_any A n c g w hU).mono fun e w' ⟨h, hb⟩ => by
    rcases h with ⟨h, _⟩ | ⟨_, h, _⟩ | ⟨_, _, A', N, c', T, D, he, ho, ht⟩
    · rw [hr] at h; cases h
    · omega
    · refine ⟨⟨A', N, c', T, D, he, ho.cel, ht, ht.pos, ?_, (risB_iff g n).1 hr, h4⟩, hb⟩
      rw [ht.size]; split <;> omega
theorem TreeW.find {g : Nat → Nat} {n : Nat} {T : Nat → Nd} {D : Nat → Nat} {A : Option Addr} {N c : Nat} {w : World} (h : TreeW g n T D A N c w) (x : Nat) :
    Calls Try.prog 10 #[.slice A N c, .int .u32 x] w fun e w' => (∃ r, e = .returned (.int .i64 r) ∧ IsPlace g 0 n x r) ∧ w' = w := by
  obtain ⟨r, h1, h2⟩ := h.tree.finds h.ris x
  refine (find_any A N c T x r w h.cel h.lo h.hi h1).mono ?_
  rintro e w' ⟨rfl, rfl⟩
  exact ⟨⟨r, rfl, h2⟩, rfl⟩
theorem TreeW.findIs {g : Nat → Nat} {n : Nat} {T : Nat → Nd} {D : Nat → Nat} {A : Option Addr} {N c : Nat} {w : World} (h : TreeW g n T D A N c w) (x : Nat) (r : Int) (hr : IsPlace g 0 n x r) :
    Calls Try.prog 10 #[.slice A N c, .int .u32 x] w fun e w' => e = .returned (.int .i64 r) ∧ w' = w := by
  refine (h.find x).mono ?_
  rintro e w' ⟨⟨r', rfl, hr'⟩, rfl⟩
  rw [hr'.one h.ris hr]
  exact ⟨rfl, rfl⟩
theorem TreeW.depth {g : Nat → Nat} {n : Nat} {T : Nat → Nd} {D : Nat → Nat} {A : Option Addr} {N c : Nat} {w : World} (h : TreeW g n T D A N c w) :
    Calls Try.prog 12 #[.slice A N c] w fun e w' => e = .returned (.int .i64 (D (N - 1))) ∧ Below w.heap.size w w' :=
  depth_any A N c T D w h.cel h.lo h.hi h.tree.dp

theorem place_is (A : Option Addr) (n c : Nat) (g : Nat → Nat) (x : Nat) (r : Int) (w : World) (hU : U32a w A n c g) (hr : Ris g n) (hp : IsPlace g 0 n x r) :
    Calls Try.prog 11 #[.slice A n c, .int .u32 x] w fun e w' => e = .returned (.int .i64 r) ∧ w' = w := by
  refine (place_any A n c g x w hU).mono ?_
  rintro e w' ⟨⟨r', rfl, hr'⟩, rfl⟩
  rw [hr'.one hr hp]
  exact ⟨rfl, rfl⟩
theorem U32a.drewN {w : World} {A : Option Addr} {n c : Nat} {N : Nat → Nat} (h : U32a w A n c N) (k : Nat) : U32a (w.drewN k) A n c N := h.below (bdn (Below.refl _ _) k)
theorem TreeW.drewN {g : Nat → Nat} {n : Nat} {T : Nat → Nd} {D : Nat → Nat} {A : Option Addr} {N c : Nat} {w : World} (h : TreeW g n T D A N c w) (k : Nat) : TreeW g n T D A N c (w.drewN k) := h.below (bdn (Below.refl _ _) k)

def g3 (i : Nat) : Nat := if i = 0 then 3 else if i = 1 then 7 else 9
theorem g3_7 : IsPlace g3 0 3 7 1 := .inl ⟨1, by omega, by omega, rfl, rfl⟩
theorem g3_8 : IsPlace g3 0 3 8 (-1) := .inr ⟨fun i _ hi => by
  have h : i = 0 ∨ i = 1 ∨ i = 2 := by omega
  rcases h with rfl | rfl | rfl <;> decide, rfl⟩
theorem lit_g3 (w : World) (E : TypeId) : U32a (w.alloc (.cells #[.int .u32 3, .int .u32 7, .int .u32 9] E)) (some ⟨w.heap.size, 0, none⟩) 3 3 g3 := by
  refine ⟨Cel.mk_ (by simp) (by decide) (by decide) (fun i hi => ?_), fun i hi => ?_⟩
  · rw [(RowC.new w #[.int .u32 3, .int .u32 7, .int .u32 9] E _ rfl).cell (0 + i) (.int .u32 (g3 i : Nat))]
    have h : i = 0 ∨ i = 1 ∨ i = 2 := by omega
    rcases h with rfl | rfl | rfl <;> rfl
  · have h : i = 0 ∨ i = 1 ∨ i = 2 := by omega
    rcases h with rfl | rfl | rfl <;> decide

set_option maxRecDepth 100000 in
set_option maxHeartbeats 8000000 in
theorem awake19_any (w : World) : Calls Try.prog 9 #[] w fun e w' => e = .returned (.bool true) ∧ Below w.heap.size w w' := by
  have K := Lib.hid (build_ok (some ⟨w.heap.size, 0, none⟩) 3 3 g3 (w.alloc (.cells #[.int .u32 3, .int .u32 7, .int .u32 9] 30)) (lit_g3 w _) (by decide) (by omega))
  go_enter Try.func9, Try.ntmps9
  go_wp2_with fail
  refine K.out.mono ?_
  rintro e w1 ⟨⟨A', N, c', T, D, rfl, hT⟩, hB1⟩
  have F7 := Lib.hid (hT.findIs 7 1 g3_7)
  have F8 := Lib.hid (hT.findIs 8 (-1) g3_8)
  have FD := Lib.hid (hT.depth)
  rw [hT.tree.three] at FD
  have HB1 := Lib.hid hB1
  clear hT hB1
  go_wp2_with fail
  refine F7.out.mono ?_
  rintro e w2 ⟨rfl, rfl⟩
  go_wp2_with fail
  refine F8.out.mono ?_
  rintro e w2 ⟨rfl, rfl⟩
  go_wp2_with fail
  refine FD.out.mono ?_
  rintro e w3 ⟨rfl, hB3⟩
  go_wp2
  go_ret
  exact ⟨rfl, (((Below.refl _ w).alloc (Nat.le_refl _) _).trans (HB1.out.mono (by simp))).trans (hB3.mono (Nat.le_trans (by simp) HB1.out.size))⟩
end Go.Proofs.Ytkbfmnpilbhfaaa
