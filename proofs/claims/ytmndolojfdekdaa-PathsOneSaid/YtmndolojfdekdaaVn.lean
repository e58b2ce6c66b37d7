/-
  Words and contracts for the laws of layer 6: a run's bounds; the laws' own all, same and awake.
-/
import Derived.Test.YtmndolojfdekdaaVm
import Derived.Test.YtmndolojfdekdaaKl
import Derived.Deep.RegionHeld3
import Derived.Lib.AppendZerosOnto
namespace Go.Proofs.Ytmndolojfdekdaa
open Go.RowKit

theorem doK_stop (f : Nat → Nat) (j : Nat) (v : IV) (s : VS) (o : Nat) (n : Nat) (s' : VS) (h : doK f j v s o = .stop n s') : s' = s := by
  unfold doK at h
  split at h
  case h_19 =>
    split at h
    · injection h with h1 h2; exact h2.symm
    · cases h
  all_goals first
    | cases h; rfl
    | (injection h with h1 h2; exact h2.symm)
    | cases h
/-- What is known of a run's end. -/
theorem run_bounds (f : Nat → Nat) (g : Nat → IV) (n : Nat) (hal : ∀ i, i < n → alone (g i) (n - 1 - i) = 0) (hlast : isRet (g (n - 1)) = true) :
    ∀ (fuel : Nat) (s : VS) (val : Nat) (sF : VS), s.nx < n → runF g f fuel s = some (val, sF) → s.ld.length ≤ s.st → (∀ k ∈ s.ld, k % 4 = 0 ∧ k < 64) →
      sF.ld.length < sF.st ∧ s.st < sF.st ∧ sF.st ≤ s.st + fuel ∧ ∀ k ∈ sF.ld, k % 4 = 0 ∧ k < 64 := by
  intro fuel
  induction fuel with
  | zero => intro s val sF _ h; cases h
  | succ m ih =>
    intro s val sF hnx h hl hk
    unfold runF at h
    rcases hd : step f (g s.nx) s with s' | ⟨v, s'⟩
    · rw [hd] at h
      obtain ⟨q1, q2, q3, q4⟩ := step_next f g n hal hlast s s' hnx hd
      have hl' : s'.ld.length ≤ s'.st := by
        rcases q4 with e | ⟨_, e⟩
        · rw [e]; omega
        · rw [e, List.length_append, List.length_singleton]; omega
      have hk' : ∀ k ∈ s'.ld, k % 4 = 0 ∧ k < 64 := fun k hm => by
        rcases q4 with e | ⟨e1, e⟩
        · rw [e] at hm; exact hk k hm
        · rw [e] at hm
          rcases List.mem_append.1 hm with hm | hm
          · exact hk k hm
          · rw [List.mem_singleton.1 hm]
            exact (alone_facts _ _ (hal _ hnx)).2.1 e1
      obtain ⟨a1, a2, a3, a4⟩ := ih s' val sF q2 h hl' hk'
      exact ⟨a1, by omega, by omega, a4⟩
    · rw [hd] at h
      have e := doK_stop _ _ _ _ _ _ _ hd
      injection h with h
      injection h with h1 h2
      subst h2
      subst e
      exact ⟨by show s.ld.length < s.st + 1; omega, by show s.st < s.st + 1; omega, by show s.st + 1 ≤ _; omega, hk⟩

/-- A run's end in numbers alone. -/
def runV (g : Nat → IV) (f : Nat → Nat) (n : Nat) : Option (Nat × Nat × List Nat) := (runF g f n zst).map fun p => (p.1, p.2.st, p.2.ld)
theorem runV_some {g : Nat → IV} {f : Nat → Nat} {n a b : Nat} {l : List Nat} (h : runV g f n = some (a, b, l)) : ∃ sF, runF g f n zst = some (a, sF) ∧ sF.st = b ∧ sF.ld = l := by
  unfold runV at h
  rcases hr : runF g f n zst with _ | ⟨v, s⟩
  · rw [hr] at h; cases h
  · rw [hr] at h
    simp at h
    obtain ⟨rfl, rfl, rfl⟩ := h
    exact ⟨s, rfl, rfl, rfl⟩

def gA (i : Nat) : IV := if i = 0 then ⟨32, 0, 0, 0⟩ else ⟨22, 0, 0, 0⟩
def fA (i : Nat) : Nat := if i = 0 then 7 else 0
theorem litA (w : World) (E : TypeId) : Ins (w.alloc (.cells #[.int .u16 32, .int .u8 0, .int .u8 0, .int .u32 0, .int .u16 22, .int .u8 0, .int .u8 0, .int .u32 0] E)) (w.heap.size + 1) (some ⟨w.heap.size, 0, none⟩) 2 2 gA := by
  refine ⟨Cel.mk_ (by omega) (by decide) (by decide) (fun i hi => ?_), fun i _ => ?_⟩
  · match i, hi with
    | 0, _ => simp [icell, gA]
    | 1, _ => simp [icell, gA]
    | 2, _ => simp [icell, gA]
    | 3, _ => simp [icell, gA]
    | 4, _ => simp [icell, gA]
    | 5, _ => simp [icell, gA]
    | 6, _ => simp [icell, gA]
    | 7, _ => simp [icell, gA]
  · unfold gA IV.ok
    split <;> decide
theorem tail_bytes (C : Nat) (i : Nat) (hi : i < 64) : (#[Value.int .u8 7] ++ (Builtin.zeroCells #[.int .u8 0] 63 ++ Builtin.zeroCells #[.int .u8 0] C) : Array Value)[i]? = some (bv (fA i)) := by
  have hz : (Builtin.zeroCells #[Value.int .u8 0] 63).size = 63 := by simp [Builtin.zeroCells]
  by_cases h : i = 0
  · subst h; rw [Array.getElem?_append_left (by simp)]; rfl
  · rw [Array.getElem?_append_right (by simp; omega), Array.getElem?_append_left (by simp [Builtin.zeroCells]; omega)]
    have : i - 1 < 63 := by omega
    simp [Builtin.zeroCells, fA, h, this]
    rw [Nat.mod_one]; rfl
theorem runA : runV gA fA 2 = some (7, 2, [0]) := by decide +kernel
theorem checkA : (checkF gA 2).2 = 0 := by decide +kernel
/-- What lay is read as before. -/
theorem bcell {W w1 : World} (hb : Below W.heap.size W w1) : (∀ b o, b < W.heap.size → w1.cell? ⟨b, o, none⟩ = W.cell? ⟨b, o, none⟩) ∧ (∀ b o, b < W.heap.size → w1.frozen? ⟨b, o, none⟩ = W.frozen? ⟨b, o, none⟩) :=
  ⟨fun b o h => hb.cell (p := ⟨b, o, none⟩) h, fun b o h => hb.frozen (p := ⟨b, o, none⟩) h⟩
/-- The bytes of a record, those behind its end 0. -/
def lim (f : Nat → Nat) (i : Nat) : Nat := if i < 64 then f i else 0
theorem lim_lt (f : Nat → Nat) (h : ∀ i, i < 64 → f i < 256) (i : Nat) : lim f i < 256 := by unfold lim; split; exact h i (by assumption); decide
theorem byt_lim {w : World} {B c : Nat} {A : Option Addr} {f : Nat → Nat} (h : Byt w B A 64 c f) : Byt w B A 64 c (lim f) := h.congr fun i hi => by unfold lim; rw [if_pos hi]
end Go.Proofs.Ytmndolojfdekdaa
