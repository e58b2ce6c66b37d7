/-
  The contract of check.stored: which cells are stored at each place of a formed program.
-/
import Derived.Test.YtfanapnhdhoppaaKh
namespace Go.Proofs.Ytfanapnhdhoppaa
open Go.RowKit

/-- Whatever lay stays as it was, but for one block. -/
structure But (b : Nat) (w w' : World) : Prop where
  os : w'.os = w.os
  tape : w'.tape = w.tape
  output : w'.output = w.output
  size : w.heap.size ≤ w'.heap.size
  block : ∀ k, k < w.heap.size → k ≠ b → w'.heap[k]? = w.heap[k]?
section
variable {b : Nat} {w w' w'' : World}
theorem But.refl (b : Nat) (w : World) : But b w w := ⟨rfl, rfl, rfl, Nat.le_refl _, fun _ _ _ => rfl⟩
theorem But.set (h : But b w w') (i : Nat) (v : Value) : But b w (w'.setCell ⟨b, i, none⟩ v) :=
  ⟨h.os, h.tape, h.output, by have := h.size; simpa [World.setCell] using this, fun k hk hb => (Below.heap_setCell _ _ _ _ hb).trans (h.block k hk hb)⟩
theorem But.below {B : Nat} (h : Below B w w') (hB : B ≤ w'.heap.size) (hb : B ≤ b) (h2 : But b w' w'') : Below B w w'' :=
  h.trans ⟨h2.os, h2.tape, h2.output, h2.size, fun k hk => h2.block k (by omega) (by omega)⟩
theorem But.cell (h : But b w w') {p : Addr} (hp : p.block < w.heap.size) (hb : p.block ≠ b) : w'.cell? p = w.cell? p := World.cell?_of_block (h.block _ hp hb)
theorem But.arr (h : But b w w') {b' : Nat} {C : Nat → Nat} (ha : Arr w b' C) (hb : b' ≠ b) : Arr w' b' C := (h.block b' ha.lt hb).trans ha
theorem Arr.ne {b' : Nat} {C : Nat → Nat} (h : Arr w b C) {off : Nat} {x : Int} (hc : w.cell? ⟨b', off, none⟩ = some (.int .u32 x)) : b' ≠ b := by
  rintro rfl
  rw [cell_of_row w b' off _ _ (0, 0) h] at hc
  have hlt : off < 4096 := by have := (Array.getElem?_eq_some_iff.1 hc).1; rwa [arrOf_size] at this
  rw [arrOf_get C off hlt] at hc
  cases hc
theorem setRow_below {B : Nat} (h : Below B w w') (hb : B ≤ b) (cs : Array Value) : Below B w (w'.setRow b cs) :=
  h.trans ⟨rfl, rfl, rfl, by simp, fun k hk => by
    unfold World.setRow
    rw [Array.getElem?_modify, if_neg (by omega)]⟩
end

theorem fars_eq (v : IV) : farsK (kd v) v.t v.f v.k = fars v := by
  unfold farsK fars isRet isBr
  simp
theorem storedT_zero (g : Nat → IV) (i : Nat) : storedT g 0 i = if i = 0 then 0 else 65535 := by
  unfold storedT reach
  by_cases h : i = 0
  · subst h; simp [wordOf]
  · have : (i == 0) = false := by simpa using h
    rw [if_neg h, this]
    exact wordOf_true 16
/-- What a formed program's instruction is like. -/
theorem fars_in (g : Nat → IV) (n k : Nat) (hk : k < n) (ha : alone (g k) (n - 1 - k) = 0) (hl : isRet (g (n - 1)) = true) : ∀ f ∈ fars (g k), k + 1 + f < n := by
  intro f hf
  unfold fars at hf
  by_cases h1 : isRet (g k) = true
  · rw [if_pos h1] at hf; simp at hf
  · rw [if_neg h1] at hf
    have hne : k ≠ n - 1 := fun e => h1 (by rw [e]; exact hl)
    have h13 : ¬((kd (g k) = 13 ∧ n - 1 - k ≤ (g k).k) ∨ (isBr (g k) = true ∧ (n - 1 - k ≤ (g k).t ∨ n - 1 - k ≤ (g k).f))) := by
      intro hh
      unfold alone at ha
      rw [if_pos hh] at ha
      repeat' split at ha
      all_goals omega
    by_cases h2 : kd (g k) = 13
    · rw [if_pos h2] at hf
      simp at hf
      subst hf
      by_cases h3 : n - 1 - k ≤ (g k).k
      · exact absurd (.inl ⟨h2, h3⟩) h13
      · omega
    · rw [if_neg h2] at hf
      by_cases h3 : isBr (g k) = true
      · rw [if_pos h3] at hf
        have h4 : ¬ n - 1 - k ≤ (g k).t := fun hh => h13 (.inr ⟨h3, .inl hh⟩)
        have h5 : ¬ n - 1 - k ≤ (g k).f := fun hh => h13 (.inr ⟨h3, .inr hh⟩)
        simp at hf
        omega
      · rw [if_neg h3] at hf
        simp at hf
        omega
theorem st_small (v : IV) (r : Nat) (ha : alone v r = 0) (hs : isSt v = true) : v.k < 16 := by
  by_cases h : v.k < 16
  · exact h
  · have hh : (isLd v = true ∨ isSt v = true) ∧ 16 ≤ v.k := ⟨.inr hs, by omega⟩
    unfold alone at ha
    rw [if_pos hh] at ha
    repeat' split at ha
    all_goals omega
theorem ld_small (v : IV) (r : Nat) (ha : alone v r = 0) (hs : isLd v = true) : v.k < 16 := by
  by_cases h : v.k < 16
  · exact h
  · have hh : (isLd v = true ∨ isSt v = true) ∧ 16 ≤ v.k := ⟨.inl hs, by omega⟩
    unfold alone at ha
    rw [if_pos hh] at ha
    repeat' split at ha
    all_goals omega

theorem stores_v (v : IV) (b : Int) (w : World) : Calls Try.prog 95 #[plA v.c v.t v.f v.k (kd v) (xx v) b] w fun e w' => e = .returned (.bool (isSt v)) ∧ Below w.heap.size w w' := stores_any _ _ _ _ _ _ _ _
theorem loadsCell_v (v : IV) (b : Int) (w : World) : Calls Try.prog 70 #[plA v.c v.t v.f v.k (kd v) (xx v) b] w fun e w' => e = .returned (.bool (isLd v)) ∧ Below w.heap.size w w' := loadsCell_any _ _ _ _ _ _ _ _
theorem cell_v (v : IV) (hk : v.k < 16) (b : Int) (w : World) : Calls Try.prog 71 #[plA v.c v.t v.f v.k (kd v) (xx v) b] w fun e w' => e = .returned (.int .u16 ((2 ^ v.k : Nat) : Int)) ∧ Below w.heap.size w w' := by
  have h := cell_any v.c v.t v.f v.k (kd v) b (xx v) w (by omega) (by omega)
  rwa [Int.toNat_natCast] at h
theorem leads_v (v : IV) (hv : v.ok) (b : Int) (w : World) : Calls Try.prog 96 #[plA v.c v.t v.f v.k (kd v) (xx v) b] w fun e w' => ∃ A n, e = .returned (.slice A n n) ∧ U32s w' A n (fars v) ∧ Below w.heap.size w w' := by
  rw [← fars_eq]
  exact leads_any _ _ _ _ _ _ _ _ hv.2.1 hv.2.2.1
theorem lead_v (b : Nat) (C : Nat → Nat) (to on : Nat) (w : World) (h : Arr w b C) (hto : to < 4096) (hon : on < 65536) (hC : C to < 65536) (to' on' : Int) (e1 : to' = to) (e2 : on' = on) :
    Calls Try.prog 94 #[.int .i64 to', .int .u16 on', .pointer (some ⟨b, 0, none⟩)] w fun e w' => e = .returned (.tuple #[]) ∧ w' = w.setCell ⟨b, to, none⟩ (.int .u16 ((C to &&& on : Nat) : Int)) := by
  subst e1 e2
  exact lead_any b C to on w h hto hon hC
end Go.Proofs.Ytfanapnhdhoppaa
