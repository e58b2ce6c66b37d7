/-
  Words for the memory of a run: the block of a state, and what stays as it was but for one block; the contracts of the smallest doings.
-/
import Derived.Test.YtmndolojfdekdaaVa
import Derived.Test.YtmndolojfdekdaaKf
import Derived.Deep.WholeRow
import Derived.Deep.RegionWith
import Derived.Deep.RegionHeld3
import Derived.Deep.QuietTactic
import Derived.BigQuiet
namespace Go.Proofs.Ytmndolojfdekdaa
open Go.RowKit

/-- The block b holds just these cells. -/
def RowAt (w : World) (b : Nat) (cs : Array Value) (T : TypeId) : Prop := w.heap[b]? = some (.cells cs T)
/-- Whatever lay below B stays as it was, but for one block. -/
structure Keep (b B : Nat) (w w' : World) : Prop where
  os : w'.os = w.os
  tape : w'.tape = w.tape
  output : w'.output = w.output
  size : w.heap.size ≤ w'.heap.size
  block : ∀ k, k < B → k ≠ b → w'.heap[k]? = w.heap[k]?
section
variable {b B : Nat} {w w' w'' : World} {cs : Array Value} {T : TypeId}
theorem Keep.refl (b B : Nat) (w : World) : Keep b B w w := ⟨rfl, rfl, rfl, Nat.le_refl _, fun _ _ _ => rfl⟩
theorem Keep.trans (h : Keep b B w w') (h2 : Keep b B w' w'') : Keep b B w w'' :=
  ⟨h2.os.trans h.os, h2.tape.trans h.tape, h2.output.trans h.output, Nat.le_trans h.size h2.size, fun k h1 h3 => (h2.block k h1 h3).trans (h.block k h1 h3)⟩
theorem Keep.of {N : Nat} (h : Below N w w') (hB : B ≤ N) : Keep b B w w' := ⟨h.os, h.tape, h.output, h.size, fun k hk _ => h.block k (by omega)⟩
theorem Keep.set (h : Keep b B w w') (i : Nat) (v : Value) : Keep b B w (w'.setCell ⟨b, i, none⟩ v) :=
  ⟨h.os, h.tape, h.output, by have := h.size; simpa [World.setCell] using this, fun k hk hb => (Below.heap_setCell _ _ _ _ hb).trans (h.block k hk hb)⟩
theorem Keep.below (h : Keep b B w w') {N : Nat} (hN : N ≤ B) (hb : N ≤ b) : Below N w w' := ⟨h.os, h.tape, h.output, h.size, fun k hk => h.block k (by omega) (by omega)⟩
theorem Keep.cell (h : Keep b B w w') {p : Addr} (hp : p.block < B) (hb : p.block ≠ b) : w'.cell? p = w.cell? p := World.cell?_of_block (h.block _ hp hb)
theorem RowAt.lt (h : RowAt w b cs T) : b < w.heap.size := (Array.getElem?_eq_some_iff.1 h).1
theorem RowAt.below {N : Nat} (h : RowAt w b cs T) (hb : Below N w w') (hB : b < N) : RowAt w' b cs T := (hb.block b hB).trans h
theorem RowAt.keep {g : Nat} (h : RowAt w g cs T) (hb : Keep b B w w') (hB : g < B) (hn : g ≠ b) : RowAt w' g cs T := (hb.block g hB hn).trans h
theorem RowAt.cell (h : RowAt w b cs T) (i : Nat) (v : Value) (hv : cs[i]? = some v) : w.cell? ⟨b, i, none⟩ = some v := by
  rw [cell_of_row w b i _ _ (0, 0) h, hv]
theorem RowAt.frozen (h : RowAt w b cs T) (i : Nat) : w.frozen? ⟨b, i, none⟩ = false := by
  have h' : w.heap[b]? = some (.cells cs T) := h
  simp [World.frozen?, h']
theorem RowAt.set (h : RowAt w b cs T) (i : Nat) (v : Value) : RowAt (w.setCell ⟨b, i, none⟩ v) b (cs.setIfInBounds i v) T := by
  unfold RowAt
  rw [setCell_eq_setRow w b i _ _ (0, 0) _ h]
  exact setRow_heap w b _ _ _ _ h
end

/-- The cells of a state. -/
def scells (s : VS) (A : Option Addr) (c : Nat) (R : Value) : Array Value :=
  #[.int .u32 s.a, .int .u32 s.x, .int .u32 (s.cl 0), .int .u32 (s.cl 1), .int .u32 (s.cl 2), .int .u32 (s.cl 3), .int .u32 (s.cl 4), .int .u32 (s.cl 5), .int .u32 (s.cl 6), .int .u32 (s.cl 7), .int .u32 (s.cl 8), .int .u32 (s.cl 9), .int .u32 (s.cl 10), .int .u32 (s.cl 11), .int .u32 (s.cl 12), .int .u32 (s.cl 13), .int .u32 (s.cl 14), .int .u32 (s.cl 15), .int .i64 s.nx, .int .i64 s.st, .slice A s.ld.length c, R]
def lcell (l : List Nat) (i : Nat) : Value := .int .i64 (l.getD i 0 : Nat)
/-- The block b holds a state; its loads lie in a row of the run's own, from block B on. -/
def StB (w : World) (b B : Nat) (s : VS) (R : Value) : Prop := ∃ A c, RowAt w b (scells s A c R) 175 ∧ OwnC w B 3 1 A s.ld.length c (lcell s.ld)
/-- The same, the loads' row named. -/
def StA (w : World) (b B : Nat) (s : VS) (R : Value) (A : Option Addr) (c : Nat) : Prop := RowAt w b (scells s A c R) 175 ∧ OwnC w B 3 1 A s.ld.length c (lcell s.ld)
theorem cells_cl (s : VS) (A : Option Addr) (c : Nat) (R : Value) (k : Nat) (hk : k < 16) : (scells s A c R)[2 + k]? = some (.int .u32 (s.cl k)) := by
  match k, hk with
  | 0, _ => rfl
  | 1, _ => rfl
  | 2, _ => rfl
  | 3, _ => rfl
  | 4, _ => rfl
  | 5, _ => rfl
  | 6, _ => rfl
  | 7, _ => rfl
  | 8, _ => rfl
  | 9, _ => rfl
  | 10, _ => rfl
  | 11, _ => rfl
  | 12, _ => rfl
  | 13, _ => rfl
  | 14, _ => rfl
  | 15, _ => rfl
  | n + 16, h => exact absurd h (by omega)
theorem cells_setc (s : VS) (A : Option Addr) (c : Nat) (R : Value) (k n : Nat) (hk : k < 16) : (scells s A c R).setIfInBounds (2 + k) (.int .u32 n) = scells (s.setc k n) A c R := by
  match k, hk with
  | 0, _ => simp [scells, VS.setc]
  | 1, _ => simp [scells, VS.setc]
  | 2, _ => simp [scells, VS.setc]
  | 3, _ => simp [scells, VS.setc]
  | 4, _ => simp [scells, VS.setc]
  | 5, _ => simp [scells, VS.setc]
  | 6, _ => simp [scells, VS.setc]
  | 7, _ => simp [scells, VS.setc]
  | 8, _ => simp [scells, VS.setc]
  | 9, _ => simp [scells, VS.setc]
  | 10, _ => simp [scells, VS.setc]
  | 11, _ => simp [scells, VS.setc]
  | 12, _ => simp [scells, VS.setc]
  | 13, _ => simp [scells, VS.setc]
  | 14, _ => simp [scells, VS.setc]
  | 15, _ => simp [scells, VS.setc]
  | n + 16, h => exact absurd h (by omega)

/-- An instruction that was looked up, as cells. -/
def knA (v : IV) : Array Value := #[.int .u16 v.c, .int .u8 v.t, .int .u8 v.f, .int .u32 v.k, .int .i64 (kd v), .bool (xx v)]

/-- What one of the doings leaves behind. -/
def Post (b B : Nat) (R : Value) (w : World) (r : Res) (e : Ending) (w' : World) : Prop :=
  match r with
  | .go s => e = .returned (.tuple #[]) ∧ StB w' b B s R ∧ Keep b B w w'
  | .stop n s => e = .panicked [{ v := .iface 176 (.int .u32 n), recovered := false }] ∧ StB w' b B s R ∧ Keep b B w w'

section
variable {w W : World} {b B : Nat} {s : VS} {R : Value}
theorem OwnC.keep {w w' : World} {base z n c : Nat} {E : TypeId} {A : Option Addr} {F : Nat → Value} (h : OwnC w base E z A n c F) (hb : Below w.heap.size w w') : OwnC w' base E z A n c F := h.below hb (Nat.le_refl _)
/-- A store into the state's own block leaves the loads' row as it was. -/
theorem OwnC.set_other {w : World} {base z n c g : Nat} {E : TypeId} {A : Option Addr} {F : Nat → Value} (h : OwnC w base E z A n c F) (hg : g < base) (i : Nat) (v : Value) : OwnC (w.setCell ⟨g, i, none⟩ v) base E z A n c F := by
  obtain ⟨h1, h2⟩ := h
  refine ⟨h1, ?_⟩
  rcases h2 with h2 | ⟨gg, cap, cur, hv, hgg, hh, r⟩
  · exact Or.inl h2
  · exact Or.inr ⟨gg, cap, cur, hv, hgg, (Below.heap_setCell w ⟨g, i, none⟩ v gg (by show gg ≠ g; omega)).trans hh, r⟩
/-- One cell of the state is stored, behind whatever new blocks. -/
theorem upd_of {A : Option Addr} {c : Nat} (h : StA w b B s R A c) (hbB : b < B) (hB : B ≤ w.heap.size) (hW : Below w.heap.size w W) (i : Nat) (u : Value) (s' : VS) (hs : (scells s A c R).setIfInBounds i u = scells s' A c R) (hl : s'.ld = s.ld) :
    StB (W.setCell ⟨b, i, none⟩ u) b B s' R ∧ Keep b B w (W.setCell ⟨b, i, none⟩ u) := by
  refine ⟨⟨A, c, ?_, ?_⟩, (Keep.of hW hB).set i u⟩
  · rw [← hs]
    exact (h.1.below hW h.1.lt).set i u
  · rw [hl]
    exact (h.2.keep hW).set_other hbB i u
/-- The same, the new blocks laid behind the store. -/
theorem upd_pre {A : Option Addr} {c : Nat} (h : StA w b B s R A c) (hbB : b < B) (hB : B ≤ w.heap.size) (i : Nat) (u : Value) (s' : VS) (hs : (scells s A c R).setIfInBounds i u = scells s' A c R) (hl : s'.ld = s.ld) (hW : Below w.heap.size (w.setCell ⟨b, i, none⟩ u) W) :
    StB W b B s' R ∧ Keep b B w W := by
  have hz : (w.setCell ⟨b, i, none⟩ u).heap.size = w.heap.size := by simp [World.setCell]
  refine ⟨⟨A, c, ?_, ?_⟩, ((Keep.refl b B w).set i u).trans (Keep.of hW hB)⟩
  · rw [← hs]
    exact (h.1.set i u).below hW h.1.lt
  · rw [hl]
    exact (h.2.set_other hbB i u).below hW (by omega)
theorem Post.go_ {r : Res} {s' : VS} {e : Ending} {w' : World} (hr : r = .go s') (he : e = .returned (.tuple #[])) (h : StB w' b B s' R ∧ Keep b B w w') : Post b B R w r e w' := by
  subst hr; exact ⟨he, h⟩
end

set_option maxRecDepth 100000 in
set_option maxHeartbeats 2000000 in
theorem m2_any (f : Nat → Nat) (v : IV) (s : VS) (b B : Nat) (R : Value) (w : World) (o : Nat) (h : StB w b B s R) (hbB : b < B) (hB : B ≤ w.heap.size) :
    Calls Try.prog 121 #[.pointer (some ⟨b, 0, none⟩), .agg (knA v)] w (Post b B R w (doK f 2 v s o)) := by
  obtain ⟨A, c, h1, h2⟩ := h
  have hst : StA w b B s R A c := ⟨h1, h2⟩
  have hblt := h1.lt
  have q0 : w.cell? ⟨b, 0, none⟩ = some (.int .u32 s.a) := h1.cell 0 _ rfl
  have z0 := h1.frozen (0)
  have HST := Lib.hid hst
  clear h1 h2 hst
  unfold knA
  go_enter Try.func121, Try.ntmps121
  go_wp2
  all_goals go_end0
  all_goals (first | exact Post.go_ rfl rfl (upd_pre HST.out hbB hB (0) _ (s.seta v.k) rfl rfl ((Below.refl _ _).alloc (by simp [World.setCell]) _)) | exact Post.go_ rfl rfl (upd_of HST.out hbB hB ((Below.refl _ w).alloc (Nat.le_refl _) _) (0) _ (s.seta v.k) rfl rfl))
set_option maxRecDepth 100000 in
set_option maxHeartbeats 2000000 in
theorem m4_any (f : Nat → Nat) (v : IV) (s : VS) (b B : Nat) (R : Value) (w : World) (o : Nat) (h : StB w b B s R) (hbB : b < B) (hB : B ≤ w.heap.size) :
    Calls Try.prog 123 #[.pointer (some ⟨b, 0, none⟩), .agg (knA v)] w (Post b B R w (doK f 4 v s o)) := by
  obtain ⟨A, c, h1, h2⟩ := h
  have hst : StA w b B s R A c := ⟨h1, h2⟩
  have hblt := h1.lt
  have q0 : w.cell? ⟨b, 0, none⟩ = some (.int .u32 s.a) := h1.cell 0 _ rfl
  have z0 := h1.frozen (0)
  have HST := Lib.hid hst
  clear h1 h2 hst
  unfold knA
  go_enter Try.func123, Try.ntmps123
  go_wp2
  all_goals go_end0
  all_goals (first | exact Post.go_ rfl rfl (upd_pre HST.out hbB hB (0) _ (s.seta 64) rfl rfl ((Below.refl _ _).alloc (by simp [World.setCell]) _)) | exact Post.go_ rfl rfl (upd_of HST.out hbB hB ((Below.refl _ w).alloc (Nat.le_refl _) _) (0) _ (s.seta 64) rfl rfl))
set_option maxRecDepth 100000 in
set_option maxHeartbeats 2000000 in
theorem m5_any (f : Nat → Nat) (v : IV) (s : VS) (b B : Nat) (R : Value) (w : World) (o : Nat) (h : StB w b B s R) (hbB : b < B) (hB : B ≤ w.heap.size) :
    Calls Try.prog 124 #[.pointer (some ⟨b, 0, none⟩), .agg (knA v)] w (Post b B R w (doK f 5 v s o)) := by
  obtain ⟨A, c, h1, h2⟩ := h
  have hst : StA w b B s R A c := ⟨h1, h2⟩
  have hblt := h1.lt
  have q0 : w.cell? ⟨b, 1, none⟩ = some (.int .u32 s.x) := h1.cell 1 _ rfl
  have z0 := h1.frozen (1)
  have HST := Lib.hid hst
  clear h1 h2 hst
  unfold knA
  go_enter Try.func124, Try.ntmps124
  go_wp2
  all_goals go_end0
  all_goals (first | exact Post.go_ rfl rfl (upd_pre HST.out hbB hB (1) _ (s.setx v.k) rfl rfl ((Below.refl _ _).alloc (by simp [World.setCell]) _)) | exact Post.go_ rfl rfl (upd_of HST.out hbB hB ((Below.refl _ w).alloc (Nat.le_refl _) _) (1) _ (s.setx v.k) rfl rfl))
set_option maxRecDepth 100000 in
set_option maxHeartbeats 2000000 in
theorem m7_any (f : Nat → Nat) (v : IV) (s : VS) (b B : Nat) (R : Value) (w : World) (o : Nat) (h : StB w b B s R) (hbB : b < B) (hB : B ≤ w.heap.size) :
    Calls Try.prog 126 #[.pointer (some ⟨b, 0, none⟩), .agg (knA v)] w (Post b B R w (doK f 7 v s o)) := by
  obtain ⟨A, c, h1, h2⟩ := h
  have hst : StA w b B s R A c := ⟨h1, h2⟩
  have hblt := h1.lt
  have q0 : w.cell? ⟨b, 1, none⟩ = some (.int .u32 s.x) := h1.cell 1 _ rfl
  have z0 := h1.frozen (1)
  have HST := Lib.hid hst
  clear h1 h2 hst
  unfold knA
  go_enter Try.func126, Try.ntmps126
  go_wp2
  all_goals go_end0
  all_goals (first | exact Post.go_ rfl rfl (upd_pre HST.out hbB hB (1) _ (s.setx 64) rfl rfl ((Below.refl _ _).alloc (by simp [World.setCell]) _)) | exact Post.go_ rfl rfl (upd_of HST.out hbB hB ((Below.refl _ w).alloc (Nat.le_refl _) _) (1) _ (s.setx 64) rfl rfl))
set_option maxRecDepth 100000 in
set_option maxHeartbeats 2000000 in
theorem m10_any (f : Nat → Nat) (v : IV) (s : VS) (b B : Nat) (R : Value) (w : World) (o : Nat) (h : StB w b B s R) (hbB : b < B) (hB : B ≤ w.heap.size) :
    Calls Try.prog 129 #[.pointer (some ⟨b, 0, none⟩), .agg (knA v)] w (Post b B R w (doK f 10 v s o)) := by
  obtain ⟨A, c, h1, h2⟩ := h
  have hst : StA w b B s R A c := ⟨h1, h2⟩
  have hblt := h1.lt
  have q0 : w.cell? ⟨b, 0, none⟩ = some (.int .u32 s.a) := h1.cell 0 _ rfl
  have q1 : w.cell? ⟨b, 1, none⟩ = some (.int .u32 s.x) := h1.cell 1 _ rfl
  have z0 := h1.frozen (1)
  have HST := Lib.hid hst
  clear h1 h2 hst
  unfold knA
  go_enter Try.func129, Try.ntmps129
  go_wp2
  all_goals go_end0
  all_goals (first | exact Post.go_ rfl rfl (upd_pre HST.out hbB hB (1) _ (s.setx s.a) rfl rfl ((Below.refl _ _).alloc (by simp [World.setCell]) _)) | exact Post.go_ rfl rfl (upd_of HST.out hbB hB ((Below.refl _ w).alloc (Nat.le_refl _) _) (1) _ (s.setx s.a) rfl rfl))
set_option maxRecDepth 100000 in
set_option maxHeartbeats 2000000 in
theorem m11_any (f : Nat → Nat) (v : IV) (s : VS) (b B : Nat) (R : Value) (w : World) (o : Nat) (h : StB w b B s R) (hbB : b < B) (hB : B ≤ w.heap.size) :
    Calls Try.prog 130 #[.pointer (some ⟨b, 0, none⟩), .agg (knA v)] w (Post b B R w (doK f 11 v s o)) := by
  obtain ⟨A, c, h1, h2⟩ := h
  have hst : StA w b B s R A c := ⟨h1, h2⟩
  have hblt := h1.lt
  have q0 : w.cell? ⟨b, 0, none⟩ = some (.int .u32 s.a) := h1.cell 0 _ rfl
  have q1 : w.cell? ⟨b, 1, none⟩ = some (.int .u32 s.x) := h1.cell 1 _ rfl
  have z0 := h1.frozen (0)
  have HST := Lib.hid hst
  clear h1 h2 hst
  unfold knA
  go_enter Try.func130, Try.ntmps130
  go_wp2
  all_goals go_end0
  all_goals (first | exact Post.go_ rfl rfl (upd_pre HST.out hbB hB (0) _ (s.seta s.x) rfl rfl ((Below.refl _ _).alloc (by simp [World.setCell]) _)) | exact Post.go_ rfl rfl (upd_of HST.out hbB hB ((Below.refl _ w).alloc (Nat.le_refl _) _) (0) _ (s.seta s.x) rfl rfl))
end Go.Proofs.Ytmndolojfdekdaa
