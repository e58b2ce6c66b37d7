/-
  The contracts of the doings of a run that reckon with two numbers.
-/
import Derived.Test.YtmndolojfdekdaaVc
namespace Go.Proofs.Ytmndolojfdekdaa
open Go.RowKit

set_option maxRecDepth 100000 in
set_option maxHeartbeats 4000000 in
theorem m16_any (f : Nat → Nat) (v : IV) (s : VS) (b B : Nat) (R : Value) (w : World) (h : StB w b B s R) (hbB : b < B) (hB : B ≤ w.heap.size) (hs : s.ok) (hv : v.ok) :
    Calls Try.prog 135 #[.pointer (some ⟨b, 0, none⟩), .agg (knA v)] w (Post b B R w (doK f 16 v s (oth v s))) := by
  have HB := Lib.hid h
  obtain ⟨A, c, h1, h2⟩ := h
  have hst : StA w b B s R A c := ⟨h1, h2⟩
  have hblt := h1.lt
  have hblt2 : b < w.heap.size + 1 := by omega
  have q0 : w.cell? ⟨b, 0, none⟩ = some (.int .u32 s.a) := h1.cell 0 _ rfl
  have z0 := h1.frozen 0
  have HST := Lib.hid hst
  have ho := oth_lt v s hv hs
  have ha := hs.1
  have HOT := Lib.hid (other_any v s b B R)
  clear h1 h2 hst
  obtain ⟨o, eo⟩ : ∃ o, oth v s = o := ⟨_, rfl⟩
  rw [eo] at ho HOT ⊢
  clear eo
  unfold knA at HOT ⊢
  go_enter Try.func135, Try.ntmps135
  go_wp2
  go_region_with (
    (go_at_call 162
     (with_reducible refine (HOT.out _ (StB.below HB.out (((Below.refl _ w).alloc (Nat.le_refl _) _).drew))).mono ?_)
     rintro e w2 ⟨rfl, rfl⟩))
  all_goals go_wp2
  all_goals go_end0
  all_goals (exact seta_end HST.out hbB hB _ ((s.a + o) % 4294967296) (by rw [IntKind.wrap_u32]; omega) _ rfl (((Below.refl _ _).alloc (by simp [World.setCell]) _).alloc (by simp [World.setCell]) _).drew)
set_option maxRecDepth 100000 in
set_option maxHeartbeats 4000000 in
theorem m17_any (f : Nat → Nat) (v : IV) (s : VS) (b B : Nat) (R : Value) (w : World) (h : StB w b B s R) (hbB : b < B) (hB : B ≤ w.heap.size) (hs : s.ok) (hv : v.ok) :
    Calls Try.prog 136 #[.pointer (some ⟨b, 0, none⟩), .agg (knA v)] w (Post b B R w (doK f 17 v s (oth v s))) := by
  have HB := Lib.hid h
  obtain ⟨A, c, h1, h2⟩ := h
  have hst : StA w b B s R A c := ⟨h1, h2⟩
  have hblt := h1.lt
  have hblt2 : b < w.heap.size + 1 := by omega
  have q0 : w.cell? ⟨b, 0, none⟩ = some (.int .u32 s.a) := h1.cell 0 _ rfl
  have z0 := h1.frozen 0
  have HST := Lib.hid hst
  have ho := oth_lt v s hv hs
  have ha := hs.1
  have HOT := Lib.hid (other_any v s b B R)
  clear h1 h2 hst
  obtain ⟨o, eo⟩ : ∃ o, oth v s = o := ⟨_, rfl⟩
  rw [eo] at ho HOT ⊢
  clear eo
  unfold knA at HOT ⊢
  go_enter Try.func136, Try.ntmps136
  go_wp2
  go_region_with (
    (go_at_call 162
     (with_reducible refine (HOT.out _ (StB.below HB.out (((Below.refl _ w).alloc (Nat.le_refl _) _).drew))).mono ?_)
     rintro e w2 ⟨rfl, rfl⟩))
  all_goals go_wp2
  all_goals go_end0
  all_goals (exact seta_end HST.out hbB hB _ ((s.a + (4294967296 - o)) % 4294967296) (by rw [IntKind.wrap_u32]; omega) _ rfl (((Below.refl _ _).alloc (by simp [World.setCell]) _).alloc (by simp [World.setCell]) _).drew)
set_option maxRecDepth 100000 in
set_option maxHeartbeats 4000000 in
theorem m18_any (f : Nat → Nat) (v : IV) (s : VS) (b B : Nat) (R : Value) (w : World) (h : StB w b B s R) (hbB : b < B) (hB : B ≤ w.heap.size) (hs : s.ok) (hv : v.ok) :
    Calls Try.prog 137 #[.pointer (some ⟨b, 0, none⟩), .agg (knA v)] w (Post b B R w (doK f 18 v s (oth v s))) := by
  have HB := Lib.hid h
  obtain ⟨A, c, h1, h2⟩ := h
  have hst : StA w b B s R A c := ⟨h1, h2⟩
  have hblt := h1.lt
  have hblt2 : b < w.heap.size + 1 := by omega
  have q0 : w.cell? ⟨b, 0, none⟩ = some (.int .u32 s.a) := h1.cell 0 _ rfl
  have z0 := h1.frozen 0
  have HST := Lib.hid hst
  have ho := oth_lt v s hv hs
  have ha := hs.1
  have HOT := Lib.hid (other_any v s b B R)
  clear h1 h2 hst
  obtain ⟨o, eo⟩ : ∃ o, oth v s = o := ⟨_, rfl⟩
  rw [eo] at ho HOT ⊢
  clear eo
  unfold knA at HOT ⊢
  go_enter Try.func137, Try.ntmps137
  go_wp2
  go_region_with (
    (go_at_call 162
     (with_reducible refine (HOT.out _ (StB.below HB.out (((Below.refl _ w).alloc (Nat.le_refl _) _).drew))).mono ?_)
     rintro e w2 ⟨rfl, rfl⟩))
  all_goals go_wp2
  all_goals go_end0
  all_goals (exact seta_end HST.out hbB hB _ (s.a * o % 4294967296) (mul32 _ _) _ rfl (((Below.refl _ _).alloc (by simp [World.setCell]) _).alloc (by simp [World.setCell]) _).drew)
end Go.Proofs.Ytmndolojfdekdaa
