/-
  The contracts of the doings of a run that reckon with two numbers.
-/
import Derived.Test.YtmndolojfdekdaaVc
namespace Go.Proofs.Ytmndolojfdekdaa
open Go.RowKit

set_option maxRecDepth 100000 in
set_option maxHeartbeats 4000000 in
theorem m20_any (f : Nat → Nat) (v : IV) (s : VS) (b B : Nat) (R : Value) (w : World) (h : StB w b B s R) (hbB : b < B) (hB : B ≤ w.heap.size) (hs : s.ok) (hv : v.ok) :
    Calls Try.prog 139 #[.pointer (some ⟨b, 0, none⟩), .agg (knA v)] w (Post b B R w (doK f 20 v s (oth v s))) := by
  have HB := Lib.hid h
  obtain ⟨A, c, h1, h2⟩ := h
  have hst : StA w b B s R A c := ⟨h1, h2⟩
  have hblt := h1.lt
  have hblt2 : b < w.heap.size + 1 := by omega
  have q0 : w.cell? ⟨b, 0, none⟩ = some (.int .u32 s.a) := h1.cell 0 _ rfl
  have z0 := h1.frozen 0
  have HST := Lib.hid hst
  have ho := oth_lt v s hv hs
  have ha := hs.1
  have HOT := Lib.hid (other_any v s b B R)
  clear h1 h2 hst
  obtain ⟨o, eo⟩ : ∃ o, oth v s = o := ⟨_, rfl⟩
  rw [eo] at ho HOT ⊢
  clear eo
  unfold knA at HOT ⊢
  go_enter Try.func139, Try.ntmps139
  go_wp2
  go_region_with (
    (go_at_call 162
     (with_reducible refine (HOT.out _ (StB.below HB.out (((Below.refl _ w).alloc (Nat.le_refl _) _).drew))).mono ?_)
     rintro e w2 ⟨rfl, rfl⟩))
  all_goals go_wp2
  all_goals go_end0
  all_goals (exact seta_end HST.out hbB hB _ (s.a ||| o) (or32 _ _ ha ho) _ rfl (((Below.refl _ _).alloc (by simp [World.setCell]) _).alloc (by simp [World.setCell]) _).drew)
set_option maxRecDepth 100000 in
set_option maxHeartbeats 4000000 in
theorem m21_any (f : Nat → Nat) (v : IV) (s : VS) (b B : Nat) (R : Value) (w : World) (h : StB w b B s R) (hbB : b < B) (hB : B ≤ w.heap.size) (hs : s.ok) (hv : v.ok) :
    Calls Try.prog 140 #[.pointer (some ⟨b, 0, none⟩), .agg (knA v)] w (Post b B R w (doK f 21 v s (oth v s))) := by
  have HB := Lib.hid h
  obtain ⟨A, c, h1, h2⟩ := h
  have hst : StA w b B s R A c := ⟨h1, h2⟩
  have hblt := h1.lt
  have hblt2 : b < w.heap.size + 1 := by omega
  have q0 : w.cell? ⟨b, 0, none⟩ = some (.int .u32 s.a) := h1.cell 0 _ rfl
  have z0 := h1.frozen 0
  have HST := Lib.hid hst
  have ho := oth_lt v s hv hs
  have ha := hs.1
  have HOT := Lib.hid (other_any v s b B R)
  clear h1 h2 hst
  obtain ⟨o, eo⟩ : ∃ o, oth v s = o := ⟨_, rfl⟩
  rw [eo] at ho HOT ⊢
  clear eo
  unfold knA at HOT ⊢
  go_enter Try.func140, Try.ntmps140
  go_wp2
  go_region_with (
    (go_at_call 162
     (with_reducible refine (HOT.out _ (StB.below HB.out (((Below.refl _ w).alloc (Nat.le_refl _) _).drew))).mono ?_)
     rintro e w2 ⟨rfl, rfl⟩))
  all_goals go_wp2
  all_goals go_end0
  all_goals (exact seta_end HST.out hbB hB _ (s.a &&& o) (and32 _ _ ha ho) _ rfl (((Below.refl _ _).alloc (by simp [World.setCell]) _).alloc (by simp [World.setCell]) _).drew)
set_option maxRecDepth 100000 in
set_option maxHeartbeats 4000000 in
theorem m24_any (f : Nat → Nat) (v : IV) (s : VS) (b B : Nat) (R : Value) (w : World) (h : StB w b B s R) (hbB : b < B) (hB : B ≤ w.heap.size) (hs : s.ok) (hv : v.ok) :
    Calls Try.prog 143 #[.pointer (some ⟨b, 0, none⟩), .agg (knA v)] w (Post b B R w (doK f 24 v s (oth v s))) := by
  have HB := Lib.hid h
  obtain ⟨A, c, h1, h2⟩ := h
  have hst : StA w b B s R A c := ⟨h1, h2⟩
  have hblt := h1.lt
  have hblt2 : b < w.heap.size + 1 := by omega
  have q0 : w.cell? ⟨b, 0, none⟩ = some (.int .u32 s.a) := h1.cell 0 _ rfl
  have z0 := h1.frozen 0
  have HST := Lib.hid hst
  have ho := oth_lt v s hv hs
  have ha := hs.1
  have HOT := Lib.hid (other_any v s b B R)
  clear h1 h2 hst
  obtain ⟨o, eo⟩ : ∃ o, oth v s = o := ⟨_, rfl⟩
  rw [eo] at ho HOT ⊢
  clear eo
  unfold knA at HOT ⊢
  go_enter Try.func143, Try.ntmps143
  go_wp2
  go_region_with (
    (go_at_call 162
     (with_reducible refine (HOT.out _ (StB.below HB.out (((Below.refl _ w).alloc (Nat.le_refl _) _).drew))).mono ?_)
     rintro e w2 ⟨rfl, rfl⟩))
  all_goals go_wp2
  all_goals go_end0
  all_goals (exact seta_end HST.out hbB hB _ (s.a ^^^ o) (xor32 _ _ ha ho) _ rfl (((Below.refl _ _).alloc (by simp [World.setCell]) _).alloc (by simp [World.setCell]) _).drew)
set_option maxRecDepth 100000 in
set_option maxHeartbeats 4000000 in
theorem m22_any (f : Nat → Nat) (v : IV) (s : VS) (b B : Nat) (R : Value) (w : World) (h : StB w b B s R) (hbB : b < B) (hB : B ≤ w.heap.size) (hs : s.ok) (hv : v.ok) :
    Calls Try.prog 141 #[.pointer (some ⟨b, 0, none⟩), .agg (knA v)] w (Post b B R w (doK f 22 v s (oth v s))) := by
  have HB := Lib.hid h
  obtain ⟨A, c, h1, h2⟩ := h
  have hst : StA w b B s R A c := ⟨h1, h2⟩
  have hblt := h1.lt
  have hblt2 : b < w.heap.size + 1 := by omega
  have q0 : w.cell? ⟨b, 0, none⟩ = some (.int .u32 s.a) := h1.cell 0 _ rfl
  have z0 := h1.frozen 0
  have HST := Lib.hid hst
  have ho := oth_lt v s hv hs
  have ha := hs.1
  have HOT := Lib.hid (other_any v s b B R)
  clear h1 h2 hst
  obtain ⟨o, eo⟩ : ∃ o, oth v s = o := ⟨_, rfl⟩
  rw [eo] at ho HOT ⊢
  obtain ⟨y, ey⟩ : ∃ y : Int, ((s.a * 2 ^ (o % 32) % 4294967296 : Nat) : Int) = y := ⟨_, rfl⟩
  have hsh := fun W => shl32 (P := Try.prog) s.a o W
  rw [ey] at hsh
  have EY := Lib.hid ey.symm
  clear ey
  clear eo
  unfold knA at HOT ⊢
  go_enter Try.func141, Try.ntmps141
  go_wp2
  go_region_with (
    (go_at_call 162
     (with_reducible refine (HOT.out _ (StB.below HB.out (((Below.refl _ w).alloc (Nat.le_refl _) _).drew))).mono ?_)
     rintro e w2 ⟨rfl, rfl⟩))
  all_goals go_wp2
  all_goals go_end0
  all_goals (exact seta_end HST.out hbB hB _ (s.a * 2 ^ (o % 32) % 4294967296) (EY.out) _ rfl (((Below.refl _ _).alloc (by simp [World.setCell]) _).alloc (by simp [World.setCell]) _).drew)
set_option maxRecDepth 100000 in
set_option maxHeartbeats 4000000 in
theorem m23_any (f : Nat → Nat) (v : IV) (s : VS) (b B : Nat) (R : Value) (w : World) (h : StB w b B s R) (hbB : b < B) (hB : B ≤ w.heap.size) (hs : s.ok) (hv : v.ok) :
    Calls Try.prog 142 #[.pointer (some ⟨b, 0, none⟩), .agg (knA v)] w (Post b B R w (doK f 23 v s (oth v s))) := by
  have HB := Lib.hid h
  obtain ⟨A, c, h1, h2⟩ := h
  have hst : StA w b B s R A c := ⟨h1, h2⟩
  have hblt := h1.lt
  have hblt2 : b < w.heap.size + 1 := by omega
  have q0 : w.cell? ⟨b, 0, none⟩ = some (.int .u32 s.a) := h1.cell 0 _ rfl
  have z0 := h1.frozen 0
  have HST := Lib.hid hst
  have ho := oth_lt v s hv hs
  have ha := hs.1
  have HOT := Lib.hid (other_any v s b B R)
  clear h1 h2 hst
  obtain ⟨o, eo⟩ : ∃ o, oth v s = o := ⟨_, rfl⟩
  rw [eo] at ho HOT ⊢
  obtain ⟨y, ey⟩ : ∃ y : Int, ((s.a / 2 ^ (o % 32) : Nat) : Int) = y := ⟨_, rfl⟩
  have hsh := fun W => shr32 (P := Try.prog) s.a o W
  rw [ey] at hsh
  have EY := Lib.hid ey.symm
  clear ey
  clear eo
  unfold knA at HOT ⊢
  go_enter Try.func142, Try.ntmps142
  go_wp2
  go_region_with (
    (go_at_call 162
     (with_reducible refine (HOT.out _ (StB.below HB.out (((Below.refl _ w).alloc (Nat.le_refl _) _).drew))).mono ?_)
     rintro e w2 ⟨rfl, rfl⟩))
  all_goals go_wp2
  all_goals go_end0
  all_goals (exact seta_end HST.out hbB hB _ (s.a / 2 ^ (o % 32)) (EY.out) _ rfl (((Below.refl _ _).alloc (by simp [World.setCell]) _).alloc (by simp [World.setCell]) _).drew)
end Go.Proofs.Ytmndolojfdekdaa
