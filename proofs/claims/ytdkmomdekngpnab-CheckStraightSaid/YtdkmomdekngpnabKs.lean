/-
  Words for CheckAhead: a program with an instruction more ahead; if it may run, so may this one.
-/
import Derived.Test.YtdkmomdekngpnabKr
import Derived.Test.YtdkmomdekngpnabIf
import Derived.Test.YtdkmomdekngpnabRows
import Derived.Below
import Derived.ChangeOld
import Derived.ShutString
import Derived.Lib.SmallJoins
import Derived.OpenShut
import Derived.ProofKit
import Derived.WalkKit
namespace Go.Proofs.Ytdkmomdekngpnab
open Go.RowKit

/-- A program with an instruction more ahead. -/
def consG (v : IV) (g : Nat → IV) (i : Nat) : IV := if i = 0 then v else g (i - 1)
theorem cons_ok {v : IV} {g : Nat → IV} {n : Nat} (hv : v.ok) (hg : ∀ i, i < n → (g i).ok) (i : Nat) (hi : i < 1 + n) : (consG v g i).ok := by
  unfold consG
  split
  · exact hv
  · exact hg _ (by omega)
theorem cons_cells (v : IV) (g : Nat → IV) (i : Nat) : catC (1 * 4) (icell fun _ => v) (icell g) i = icell (consG v g) i := by
  unfold catC icell
  by_cases h : i < 1 * 4
  · rw [if_pos h]
    have : i / 4 = 0 := by omega
    simp only [consG, this, if_true]
  · rw [if_neg h]
    have h1 : (i - 1 * 4) % 4 = i % 4 := by omega
    have h2 : (i - 1 * 4) / 4 = i / 4 - 1 := by omega
    have h3 : ¬ i / 4 = 0 := by omega
    simp only [consG, h1, h2, h3, if_false]
theorem lit_own (w : World) (v : IV) (E : TypeId) : OwnC (w.alloc (.cells #[.int .u16 v.c, .int .u8 v.t, .int .u8 v.f, .int .u32 v.k] E)) w.heap.size E 4 (some ⟨w.heap.size, 0, none⟩) 1 1 (icell fun _ => v) :=
  World.ownsRow_lit (base := w.heap.size) (e := E) (size := 4) w #[.int .u16 v.c, .int .u8 v.t, .int .u8 v.f, .int .u32 v.k] 1 (Nat.le_refl _) (by decide) rfl
theorem infoR : (Try.prog.info? 40).map (fun i => (i.zero, i.size, i.bytes)) = some (some (.agg #[.int .u16 0, .int .u8 0, .int .u8 0, .int .u32 0]), 4, 8) := by kernel_rfl
theorem cons_reach (v : IV) (g : Nat → IV) (c : Nat) (hf : fars v = [0]) : ∀ t i, reach (consG v g) c (t + 1) (i + 1) = true → reach g c t i = true
  | 0, i, h => by
    have e0 : consG v g 0 = v := rfl
    simp only [reach, e0, hf] at h ⊢
    simp at h
    simp
    omega
  | t + 1, i, h => by
    have e1 : consG v g (t + 1) = g t := by unfold consG; rw [if_neg (by omega), Nat.add_sub_cancel]
    have h' : (reach (consG v g) c (t + 1) (i + 1) || (reach (consG v g) c (t + 1) (t + 1) && !(isSt (consG v g (t + 1)) && (consG v g (t + 1)).k == c) && (fars (consG v g (t + 1))).any (fun f => i + 1 == t + 1 + 1 + f))) = true := h
    show (reach g c t i || (reach g c t t && !(isSt (g t) && (g t).k == c) && (fars (g t)).any (fun f => i == t + 1 + f))) = true
    rw [e1] at h'
    rcases Bool.or_eq_true _ _ ▸ h' with h1 | h1
    · rw [cons_reach v g c hf t i h1]; rfl
    · rw [Bool.and_eq_true, Bool.and_eq_true] at h1
      obtain ⟨⟨a1, a2⟩, a3⟩ := h1
      rw [cons_reach v g c hf t t a1, a2]
      have : (fars (g t)).any (fun f => i == t + 1 + f) = true := by
        rw [List.any_eq_true] at a3 ⊢
        obtain ⟨f, hf1, hf2⟩ := a3
        refine ⟨f, hf1, ?_⟩
        have : i + 1 = t + 1 + 1 + f := by simpa using hf2
        simp; omega
      rw [this]; simp
theorem cons_check (v : IV) (g : Nat → IV) (n : Nat) (hn : 1 + n ≤ 4096) (hc : (checkF g n).2 = 0) (ha : alone v n = 0) (hk : isLd v = false ∧ isRet v = false ∧ isBr v = false ∧ ¬ kd v = 13) : (checkF (consG v g) (1 + n)).2 = 0 := by
  obtain ⟨k1, k2, k3, k4⟩ := hk
  have hq : (formedF g n).2 = 0 := by
    by_cases hq : (formedF g n).2 = 0
    · exact hq
    · unfold checkF at hc; rw [if_neg hq] at hc; exact hc
  obtain ⟨h0, _, hal, hlast, _⟩ := formedF_ok hq
  have hfars : fars v = [0] := by unfold fars; rw [k2, k3, if_neg (by decide), if_neg k4, if_neg (by decide)]
  have e0 : consG v g 0 = v := rfl
  have es : ∀ i, consG v g (i + 1) = g i := fun i => by unfold consG; rw [if_neg (by omega), Nat.add_sub_cancel]
  have hf2 : (formedF (consG v g) (1 + n)).2 = 0 := by
    unfold formedF
    rw [if_neg (by omega), if_neg (by omega), pick_none]
    · have : consG v g (1 + n - 1) = g (n - 1) := by
        have := es (n - 1)
        rwa [show n - 1 + 1 = 1 + n - 1 from by omega] at this
      rw [this, hlast]; rfl
    · intro i hi
      cases i with
      | zero => rw [e0, show 1 + n - 1 - 0 = n from by omega]; exact ha
      | succ i => rw [es, show 1 + n - 1 - (i + 1) = n - 1 - i from by omega]; exact hal i (by omega)
  rw [checkF_ok hf2, pick_none]
  intro i hi
  cases i with
  | zero => exact initE_no _ _ _ (by rw [e0]; exact k1)
  | succ i =>
    rcases initE_or (consG v g) (1 + n) (i + 1) with h | h
    · exact h
    · exfalso
      have hx : isLd (g i) = true ∧ reach (consG v g) (g i).k (1 + n) (i + 1) = true := by
        unfold initE at h
        rw [es] at h
        by_cases hh : isLd (g i) = true ∧ reach (consG v g) (g i).k (1 + n) (i + 1) = true
        · exact hh
        · rw [if_neg hh] at h; cases h
      have hr : reach g (g i).k n i = true := cons_reach v g _ hfars n i (by rw [Nat.add_comm n 1]; exact hx.2)
      have h12 : initE g n i = 12 := by unfold initE; rw [if_pos ⟨hx.1, hr⟩]
      rw [checkF_ok hq] at hc
      rcases pick_cases (initE g n) n (0, 0) with ⟨hp, _⟩ | ⟨k, _, hk0, _, he⟩
      · rw [hp i (by omega)] at h12; cases h12
      · rw [he] at hc; exact hk0 hc

end Go.Proofs.Ytdkmomdekngpnab
