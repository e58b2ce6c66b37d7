/-
  The contracts of the doings of a run that divide, branch, or load a word.
-/
import Derived.Test.YtmndolojfdekdaaVc
import Derived.Test.YtmndolojfdekdaaWb
namespace Go.Proofs.Ytmndolojfdekdaa
open Go.RowKit

set_option maxRecDepth 100000 in
set_option maxHeartbeats 4000000 in
theorem m25_any (f : Nat → Nat) (v : IV) (s : VS) (b B : Nat) (R : Value) (w : World) (h : StB w b B s R) (hbB : b < B) (hB : B ≤ w.heap.size) (hs : s.ok) (hv : v.ok) (hn : s.nx < 1000000) :
    Calls Try.prog 144 #[.pointer (some ⟨b, 0, none⟩), .agg (knA v)] w (Post b B R w (doK f 25 v s (oth v s))) := by
  have HB := Lib.hid h
  have hblt : b < w.heap.size := by obtain ⟨A, c, h1, _⟩ := h; exact h1.lt
  have hblt2 : b < w.heap.size + 1 := by omega
  have q0 : w.cell? ⟨b, 0, none⟩ = some (.int .u32 s.a) := by obtain ⟨A, c, h1, _⟩ := h; exact h1.cell 0 _ rfl
  have ho := oth_lt v s hv hs
  have ha := hs.1
  have HOT := Lib.hid (other_any v s b B R)
  have HBR := Lib.hid (fun (W : World) (q : Bool) (hW : Below w.heap.size w W) => branch_any v s b B R W q (h.below hW) hbB (Nat.le_trans hB hW.size) hv hn)
  clear h
  obtain ⟨o, eo⟩ : ∃ o, oth v s = o := ⟨_, rfl⟩
  rw [eo] at ho HOT ⊢
  obtain ⟨q, eq⟩ : ∃ q : Bool, decide (s.a = o) = q := ⟨_, rfl⟩
  have hd : doK f 25 v s o = .go (s.setn (s.nx + (if q then v.t else v.f))) := by
    rw [← eq]; unfold doK; simp
  obtain ⟨r, er⟩ : ∃ r, doK f 25 v s o = r := ⟨_, rfl⟩
  rw [er] at hd ⊢
  have HD := Lib.hid hd
  have tq : ((s.a : Int) == (o : Int)) = q := by rw [← eq, Bool.eq_iff_iff, beq_iff_eq, decide_eq_true_iff]; omega
  clear eo eq hd er
  have HW := Lib.hid ((Below.refl w.heap.size w).alloc (Nat.le_refl _) (.cells (knA v) 142))
  unfold knA at HOT HBR HW ⊢
  go_enter Try.func144, Try.ntmps144
  go_wp2
  go_region_with (first
    | (go_at_call 162
       (with_reducible refine (HOT.out _ (StB.below HB.out HW.out.drew)).mono ?_)
       rintro e w2 ⟨rfl, rfl⟩)
    | (go_at_call 163
       (with_reducible refine (HBR.out _ q (HW.out.alloc HW.out.size _).drew).mono ?_)
       rintro e w3 ⟨rfl, h3⟩))
  all_goals go_wp2
  all_goals go_end0
  all_goals (rw [HD.out]; exact Post.behind hB (HW.out.alloc HW.out.size _).drew ⟨rfl, h3⟩)
end Go.Proofs.Ytmndolojfdekdaa

/-
  The contracts of the doings of a run that divide, branch, or load a word.
-/
namespace Go.Proofs.Ytmndolojfdekdaa
open Go.RowKit

set_option maxRecDepth 100000 in
set_option maxHeartbeats 4000000 in
theorem m26_any (f : Nat → Nat) (v : IV) (s : VS) (b B : Nat) (R : Value) (w : World) (h : StB w b B s R) (hbB : b < B) (hB : B ≤ w.heap.size) (hs : s.ok) (hv : v.ok) (hn : s.nx < 1000000) :
    Calls Try.prog 145 #[.pointer (some ⟨b, 0, none⟩), .agg (knA v)] w (Post b B R w (doK f 26 v s (oth v s))) := by
  have HB := Lib.hid h
  have hblt : b < w.heap.size := by obtain ⟨A, c, h1, _⟩ := h; exact h1.lt
  have hblt2 : b < w.heap.size + 1 := by omega
  have q0 : w.cell? ⟨b, 0, none⟩ = some (.int .u32 s.a) := by obtain ⟨A, c, h1, _⟩ := h; exact h1.cell 0 _ rfl
  have ho := oth_lt v s hv hs
  have ha := hs.1
  have HOT := Lib.hid (other_any v s b B R)
  have HBR := Lib.hid (fun (W : World) (q : Bool) (hW : Below w.heap.size w W) => branch_any v s b B R W q (h.below hW) hbB (Nat.le_trans hB hW.size) hv hn)
  clear h
  obtain ⟨o, eo⟩ : ∃ o, oth v s = o := ⟨_, rfl⟩
  rw [eo] at ho HOT ⊢
  obtain ⟨q, eq⟩ : ∃ q : Bool, decide (o < s.a) = q := ⟨_, rfl⟩
  have hd : doK f 26 v s o = .go (s.setn (s.nx + (if q then v.t else v.f))) := by
    rw [← eq]; unfold doK; simp
  obtain ⟨r, er⟩ : ∃ r, doK f 26 v s o = r := ⟨_, rfl⟩
  rw [er] at hd ⊢
  have HD := Lib.hid hd
  have tq : decide (o < s.a) = q := eq
  clear eo eq hd er
  have HW := Lib.hid ((Below.refl w.heap.size w).alloc (Nat.le_refl _) (.cells (knA v) 142))
  unfold knA at HOT HBR HW ⊢
  go_enter Try.func145, Try.ntmps145
  go_wp2
  go_region_with (first
    | (go_at_call 162
       (with_reducible refine (HOT.out _ (StB.below HB.out HW.out.drew)).mono ?_)
       rintro e w2 ⟨rfl, rfl⟩)
    | (go_at_call 163
       (with_reducible refine (HBR.out _ q (HW.out.alloc HW.out.size _).drew).mono ?_)
       rintro e w3 ⟨rfl, h3⟩))
  all_goals go_wp2
  all_goals go_end0
  all_goals (rw [HD.out]; exact Post.behind hB (HW.out.alloc HW.out.size _).drew ⟨rfl, h3⟩)
end Go.Proofs.Ytmndolojfdekdaa

/-
  The contracts of the doings of a run that divide, branch, or load a word.
-/
namespace Go.Proofs.Ytmndolojfdekdaa
open Go.RowKit

set_option maxRecDepth 100000 in
set_option maxHeartbeats 4000000 in
theorem m27_any (f : Nat → Nat) (v : IV) (s : VS) (b B : Nat) (R : Value) (w : World) (h : StB w b B s R) (hbB : b < B) (hB : B ≤ w.heap.size) (hs : s.ok) (hv : v.ok) (hn : s.nx < 1000000) :
    Calls Try.prog 146 #[.pointer (some ⟨b, 0, none⟩), .agg (knA v)] w (Post b B R w (doK f 27 v s (oth v s))) := by
  have HB := Lib.hid h
  have hblt : b < w.heap.size := by obtain ⟨A, c, h1, _⟩ := h; exact h1.lt
  have hblt2 : b < w.heap.size + 1 := by omega
  have q0 : w.cell? ⟨b, 0, none⟩ = some (.int .u32 s.a) := by obtain ⟨A, c, h1, _⟩ := h; exact h1.cell 0 _ rfl
  have ho := oth_lt v s hv hs
  have ha := hs.1
  have HOT := Lib.hid (other_any v s b B R)
  have HBR := Lib.hid (fun (W : World) (q : Bool) (hW : Below w.heap.size w W) => branch_any v s b B R W q (h.below hW) hbB (Nat.le_trans hB hW.size) hv hn)
  clear h
  obtain ⟨o, eo⟩ : ∃ o, oth v s = o := ⟨_, rfl⟩
  rw [eo] at ho HOT ⊢
  obtain ⟨q, eq⟩ : ∃ q : Bool, decide (o ≤ s.a) = q := ⟨_, rfl⟩
  have hd : doK f 27 v s o = .go (s.setn (s.nx + (if q then v.t else v.f))) := by
    rw [← eq]; unfold doK; simp
  obtain ⟨r, er⟩ : ∃ r, doK f 27 v s o = r := ⟨_, rfl⟩
  rw [er] at hd ⊢
  have HD := Lib.hid hd
  have tq : decide (o ≤ s.a) = q := eq
  clear eo eq hd er
  have HW := Lib.hid ((Below.refl w.heap.size w).alloc (Nat.le_refl _) (.cells (knA v) 142))
  unfold knA at HOT HBR HW ⊢
  go_enter Try.func146, Try.ntmps146
  go_wp2
  go_region_with (first
    | (go_at_call 162
       (with_reducible refine (HOT.out _ (StB.below HB.out HW.out.drew)).mono ?_)
       rintro e w2 ⟨rfl, rfl⟩)
    | (go_at_call 163
       (with_reducible refine (HBR.out _ q (HW.out.alloc HW.out.size _).drew).mono ?_)
       rintro e w3 ⟨rfl, h3⟩))
  all_goals go_wp2
  all_goals go_end0
  all_goals (rw [HD.out]; exact Post.behind hB (HW.out.alloc HW.out.size _).drew ⟨rfl, h3⟩)
end Go.Proofs.Ytmndolojfdekdaa

/-
  The contracts of the doings of a run that divide, branch, or load a word.
-/
namespace Go.Proofs.Ytmndolojfdekdaa
open Go.RowKit

set_option maxRecDepth 100000 in
set_option maxHeartbeats 4000000 in
theorem m28_any (f : Nat → Nat) (v : IV) (s : VS) (b B : Nat) (R : Value) (w : World) (h : StB w b B s R) (hbB : b < B) (hB : B ≤ w.heap.size) (hs : s.ok) (hv : v.ok) (hn : s.nx < 1000000) :
    Calls Try.prog 147 #[.pointer (some ⟨b, 0, none⟩), .agg (knA v)] w (Post b B R w (doK f 28 v s (oth v s))) := by
  have HB := Lib.hid h
  have hblt : b < w.heap.size := by obtain ⟨A, c, h1, _⟩ := h; exact h1.lt
  have hblt2 : b < w.heap.size + 1 := by omega
  have q0 : w.cell? ⟨b, 0, none⟩ = some (.int .u32 s.a) := by obtain ⟨A, c, h1, _⟩ := h; exact h1.cell 0 _ rfl
  have ho := oth_lt v s hv hs
  have ha := hs.1
  have HOT := Lib.hid (other_any v s b B R)
  have HBR := Lib.hid (fun (W : World) (q : Bool) (hW : Below w.heap.size w W) => branch_any v s b B R W q (h.below hW) hbB (Nat.le_trans hB hW.size) hv hn)
  clear h
  obtain ⟨o, eo⟩ : ∃ o, oth v s = o := ⟨_, rfl⟩
  rw [eo] at ho HOT ⊢
  obtain ⟨q, eq⟩ : ∃ q : Bool, decide (s.a &&& o ≠ 0) = q := ⟨_, rfl⟩
  have hd : doK f 28 v s o = .go (s.setn (s.nx + (if q then v.t else v.f))) := by
    rw [← eq]; unfold doK; simp
  obtain ⟨r, er⟩ : ∃ r, doK f 28 v s o = r := ⟨_, rfl⟩
  rw [er] at hd ⊢
  have HD := Lib.hid hd
  have tq : (bits .and .u32 (s.a : Int) (o : Int) != 0) = q := by rw [and32 _ _ ha ho, ← eq, Bool.eq_iff_iff, bne_iff_ne, decide_eq_true_iff]; omega
  clear eo eq hd er
  have HW := Lib.hid ((Below.refl w.heap.size w).alloc (Nat.le_refl _) (.cells (knA v) 142))
  unfold knA at HOT HBR HW ⊢
  go_enter Try.func147, Try.ntmps147
  go_wp2
  go_region_with (first
    | (go_at_call 162
       (with_reducible refine (HOT.out _ (StB.below HB.out HW.out.drew)).mono ?_)
       rintro e w2 ⟨rfl, rfl⟩)
    | (go_at_call 163
       (with_reducible refine (HBR.out _ q (HW.out.alloc HW.out.size _).drew).mono ?_)
       rintro e w3 ⟨rfl, h3⟩))
  all_goals go_wp2
  all_goals go_end0
  all_goals (rw [HD.out]; exact Post.behind hB (HW.out.alloc HW.out.size _).drew ⟨rfl, h3⟩)
end Go.Proofs.Ytmndolojfdekdaa
