/-
  Words and contracts for the laws of layer 6: a run's bounds; the laws' own all, same and awake.
-/
import Derived.Test.YtgojhmknmaaodaaVm
import Derived.Test.YtgojhmknmaaodaaKl
import Derived.Deep.RegionHeld3
import Derived.Lib.AppendZerosOnto
namespace Go.Proofs.Ytgojhmknmaaodaa
open Go.RowKit

theorem doK_stop (f : Nat → Nat) (j : Nat) (v : IV) (s : VS) (o : Nat) (n : Nat) (s' : VS) (h : doK f j v s o = .stop n s') : s' = s := by
  unfold doK at h
  split at h
  case h_19 =>
    split at h
    · injection h with h1 h2; exact h2.symm
    · cases h
  all_goals first
    | cases h; rfl
    | (injection h with h1 h2; exact h2.symm)
    | cases h
/-- What is known of a run's end. -/
theorem run_bounds (f : Nat → Nat) (g : Nat → IV) (n : Nat) (hal : ∀ i, i < n → alone (g i) (n - 1 - i) = 0) (hlast : isRet (g (n - 1)) = true) :
    ∀ (fuel : Nat) (s : VS) (val : Nat) (sF : VS), s.nx < n → runF g f fuel s = some (val, sF) → s.ld.length ≤ s.st → (∀ k ∈ s.ld, k % 4 = 0 ∧ k < 64) →
      sF.ld.length < sF.st ∧ s.st < sF.st ∧ sF.st ≤ s.st + fuel ∧ ∀ k ∈ sF.ld, k % 4 = 0 ∧ k < 64 := by
  intro fuel
  induction fuel with
  | zero => intro s val sF _ h; cases h
  | succ m ih =>
    intro s val sF hnx h hl hk
    unfold runF at h
    rcases hd : step f (g s.nx) s with s' | ⟨v, s'⟩
    · rw [hd] at h
      obtain ⟨q1, q2, q3, q4⟩ := step_next f g n hal hlast s s' hnx hd
      have hl' : s'.ld.length ≤ s'.st := by
        rcases q4 with e | ⟨_, e⟩
        · rw [e]; omega
        · rw [e, List.length_append, List.length_singleton]; omega
      have hk' : ∀ k ∈ s'.ld, k % 4 = 0 ∧ k < 64 := fun k hm => by
        rcases q4 with e | ⟨e1, e⟩
        · rw [e] at hm; exact hk k hm
        · rw [e] at hm
          rcases List.mem_append.1 hm with hm | hm
          · exact hk k hm
          · rw [List.mem_singleton.1 hm]
            exact (alone_facts _ _ (hal _ hnx)).2.1 e1
      obtain ⟨a1, a2, a3, a4⟩ := ih s' val sF q2 h hl' hk'
      exact ⟨a1, by omega, by omega, a4⟩
    · rw [hd] at h
      have e := doK_stop _ _ _ _ _ _ _ hd
      injection h with h
      injection h with h1 h2
      subst h2
      subst e
      exact ⟨by show s.ld.length < s.st + 1; omega, by show s.st < s.st + 1; omega, by show s.st + 1 ≤ _; omega, hk⟩

/-- A run's end in numbers alone. -/
def runV (g : Nat → IV) (f : Nat → Nat) (n : Nat) : Option (Nat × Nat × List Nat) := (runF g f n zst).map fun p => (p.1, p.2.st, p.2.ld)
theorem runV_some {g : Nat → IV} {f : Nat → Nat} {n a b : Nat} {l : List Nat} (h : runV g f n = some (a, b, l)) : ∃ sF, runF g f n zst = some (a, sF) ∧ sF.st = b ∧ sF.ld = l := by
  unfold runV at h
  rcases hr : runF g f n zst with _ | ⟨v, s⟩
  · rw [hr] at h; cases h
  · rw [hr] at h
    simp at h
    obtain ⟨rfl, rfl, rfl⟩ := h
    exact ⟨s, rfl, rfl, rfl⟩

set_option maxRecDepth 100000 in
set_option maxHeartbeats 4000000 in
theorem all6_any (A : Option Addr) (n c : Nat) (g : Nat → IV) (w : World) (hn : n ≤ 1000000) (hr : Ins w w.heap.size A n c g) :
    Calls Try.prog 5 #[.slice A n c] w fun e w' => ∃ A' c', e = .returned (.slice A' n c') ∧ OwnC w' w.heap.size 47 4 A' n c' (icell g) ∧ Below w.heap.size w w' := by
  go_enter Try.func5, Try.ntmps5
  go_wp2
  go_loopw [3, 4] (fun v i wr => ∃ (k : Nat) (A' : Option Addr) (c' : Nat), k ≤ n ∧ i = .int .i64 k ∧ v = .slice A' k c' ∧ OwnC wr w.heap.size 47 4 A' k c' (icell g) ∧ Below w.heap.size w wr)
    (fun _ i _ => n - (intOf i).toNat)
  case atStart => exact ⟨0, none, 0, Nat.zero_le _, rfl, rfl, OwnC.nil_, Below.refl _ _⟩
  case round =>
    obtain ⟨k, A', c', hk, rfl, rfl, hown, hB⟩ := hrel
    by_cases hlt : k < n
    · obtain ⟨b, off, rfl, hb, hc⟩ := (hr.below hB).at_ (by omega)
      obtain ⟨q0, q1, q2, q3⟩ := hc k hlt
      have HW := Lib.hid (icell_cat g k)
      generalize g k = v at *
      have i1 : (0 : Int) ≤ (k : Int) := by omega
      have i2 : (k : Int) < (n : Int) := by omega
      clear hc
      go_wp2
      go_region_held3 (fun w' => w'.cell? ⟨b, off + k * 4, none⟩ = some (.int .u16 v.c) ∧ w'.cell? ⟨b, off + k * 4 + 1, none⟩ = some (.int .u8 v.t) ∧ w'.cell? ⟨b, off + k * 4 + 2, none⟩ = some (.int .u8 v.f) ∧ w'.cell? ⟨b, off + k * 4 + 3, none⟩ = some (.int .u32 v.k))
        (first
          | go_keep
          | exact ⟨(hK.cell (p := ⟨b, off + k * 4, none⟩) hb).trans q0, (hK.cell (p := ⟨b, off + k * 4 + 1, none⟩) hb).trans q1, (hK.cell (p := ⟨b, off + k * 4 + 2, none⟩) hb).trans q2, (hK.cell (p := ⟨b, off + k * 4 + 3, none⟩) hb).trans q3⟩)
        (first | (refine step_cells2 (by rfl) _ _ _ 47 (by rfl) Try.underlying31 infoI (by rfl) (by decide) (by rfl) (hown.alloc _).drew (by rfl) (one_inst wr v 47) (fun i _ => icell_one _ i) (by unfold maxLen; omega) (by omega) (by have := hB.size; simp; omega) (k + 1) rfl (icell g) HW.out ?_; rintro A2 c2 w2 hown2 hB2; have hK : Below w.heap.size wr w2 := ((Below.refl _ _).alloc hB.size _).drew.trans hB2))
      go_wp2
      exact ⟨⟨k + 1, A2, c2, by omega, by go_num, rfl, hown2, hB.trans hK⟩, by simp [intOf]; omega⟩
    · obtain rfl : k = n := by omega
      go_wp2
      go_ret
      exact ⟨_, _, rfl, hown, hB⟩


def gA (i : Nat) : IV := if i = 0 then ⟨32, 0, 0, 0⟩ else ⟨22, 0, 0, 0⟩
def fA (i : Nat) : Nat := if i = 0 then 7 else 0
theorem litA (w : World) (E : TypeId) : Ins (w.alloc (.cells #[.int .u16 32, .int .u8 0, .int .u8 0, .int .u32 0, .int .u16 22, .int .u8 0, .int .u8 0, .int .u32 0] E)) (w.heap.size + 1) (some ⟨w.heap.size, 0, none⟩) 2 2 gA := by
  refine ⟨Cel.mk_ (by omega) (by decide) (by decide) (fun i hi => ?_), fun i _ => ?_⟩
  · match i, hi with
    | 0, _ => simp [icell, gA]
    | 1, _ => simp [icell, gA]
    | 2, _ => simp [icell, gA]
    | 3, _ => simp [icell, gA]
    | 4, _ => simp [icell, gA]
    | 5, _ => simp [icell, gA]
    | 6, _ => simp [icell, gA]
    | 7, _ => simp [icell, gA]
  · unfold gA IV.ok
    split <;> decide
theorem tail_bytes (C : Nat) (i : Nat) (hi : i < 64) : (#[Value.int .u8 7] ++ (Builtin.zeroCells #[.int .u8 0] 63 ++ Builtin.zeroCells #[.int .u8 0] C) : Array Value)[i]? = some (bv (fA i)) := by
  have hz : (Builtin.zeroCells #[Value.int .u8 0] 63).size = 63 := by simp [Builtin.zeroCells]
  by_cases h : i = 0
  · subst h; rw [Array.getElem?_append_left (by simp)]; rfl
  · rw [Array.getElem?_append_right (by simp; omega), Array.getElem?_append_left (by simp [Builtin.zeroCells]; omega)]
    have : i - 1 < 63 := by omega
    simp [Builtin.zeroCells, fA, h, this]
    rw [Nat.mod_one]; rfl
theorem runA : runV gA fA 2 = some (7, 2, [0]) := by decide +kernel
theorem checkA : (checkF gA 2).2 = 0 := by decide +kernel
set_option maxRecDepth 100000 in
set_option maxHeartbeats 4000000 in
theorem awake6_any (w : World) : Calls Try.prog 9 #[] w fun e w' => e = .returned (.bool true) ∧ Below w.heap.size w w' := by
  go_enter Try.func9, Try.ntmps9
  have hcap := fun W : World => And.intro (grownCap_ge W 64 1 5) (grownCap_le_maxLen W 64 1 5 (by decide))
  have HCAP := Lib.hid hcap
  clear hcap
  go_wp2_with fail
  obtain ⟨g1, g2⟩ := HCAP.out w
  unfold grownCap at g1 g2
  generalize (Question.appendCap 64 1 5).cut (w.tape w.drawn (Question.appendCap 64 1 5)) = C at *
  have hin := (litA w 47)
  have hb0 : Below w.heap.size w ((((w.alloc (.cells #[.int .u16 32, .int .u8 0, .int .u8 0, .int .u32 0, .int .u16 22, .int .u8 0, .int .u8 0, .int .u32 0] 47)).alloc (.cells #[.int .u8 7] 5)).alloc (.cells (#[.int .u8 7] ++ (Builtin.zeroCells #[.int .u8 0] 63 ++ Builtin.zeroCells #[.int .u8 0] (C - 64))) 5)).drew) := ((((Below.refl _ _).alloc (Nat.le_refl _) _).alloc (by simp) _).alloc (by simp; omega) _).drew
  have hin2 : Ins ((((w.alloc (.cells #[.int .u16 32, .int .u8 0, .int .u8 0, .int .u32 0, .int .u16 22, .int .u8 0, .int .u8 0, .int .u32 0] 47)).alloc (.cells #[.int .u8 7] 5)).alloc (.cells (#[.int .u8 7] ++ (Builtin.zeroCells #[.int .u8 0] 63 ++ Builtin.zeroCells #[.int .u8 0] (C - 64))) 5)).drew) (w.heap.size + 1) (some ⟨w.heap.size, 0, none⟩) 2 2 gA :=
    hin.below ((((Below.refl (w.heap.size + 1) _).alloc (by simp) _).alloc (by simp) _).drew)
  have hby : Byt ((((w.alloc (.cells #[.int .u16 32, .int .u8 0, .int .u8 0, .int .u32 0, .int .u16 22, .int .u8 0, .int .u8 0, .int .u32 0] 47)).alloc (.cells #[.int .u8 7] 5)).alloc (.cells (#[.int .u8 7] ++ (Builtin.zeroCells #[.int .u8 0] 63 ++ Builtin.zeroCells #[.int .u8 0] (C - 64))) 5)).drew) (w.heap.size + 3) (some ⟨w.heap.size + 1 + 1, 0, none⟩) 64 C fA := by
    refine Byt.mk_ (by omega) g1 g2 fun i hi => ⟨?_, by unfold fA; split <;> decide⟩
    have hh := heap_alloc_last ((w.alloc (.cells #[.int .u16 32, .int .u8 0, .int .u8 0, .int .u32 0, .int .u16 22, .int .u8 0, .int .u8 0, .int .u32 0] 47)).alloc (.cells #[.int .u8 7] 5)) (.cells (#[.int .u8 7] ++ (Builtin.zeroCells #[.int .u8 0] 63 ++ Builtin.zeroCells #[.int .u8 0] (C - 64))) 5)
    simp only [World.size_alloc] at hh
    rw [Nat.zero_add]
    show World.cell? (World.alloc _ _) _ = _
    rw [cell_of_row _ _ i _ _ (0, 0) hh]
    exact tail_bytes _ i hi
  obtain ⟨sF, hr1, hr2, hr3⟩ := runV_some runA
  refine (vrun_ok _ _ _ gA _ C fA _ 7 sF (hin2.more (by show _ ≤ (World.alloc _ _).heap.size; simp)) checkA (hby.more (by show _ ≤ (World.alloc _ _).heap.size; simp)) (fun i => by unfold fA; split <;> decide) hr1).mono ?_
  rw [hr2, hr3]
  rintro e w1 ⟨A1, c1, rfl, hown, hB1⟩
  have hb1 := hb0.trans (hB1.mono hb0.size)
  obtain ⟨lb, lo, rfl, hlb, hlc⟩ := hown.cel.at_ (by decide)
  have q0 := hlc 0 (by decide)
  unfold lcell at q0
  simp only [List.getD_cons_zero, Nat.add_zero] at q0
  unfold outA
  clear hlc hown hr1 hr2 hr3 hin hin2 hby hB1 hb0 g1 g2
  go_wp2
  go_ret
  exact ⟨rfl, hb1.alloc hb1.size _⟩
/-- What lay is read as before. -/
theorem bcell {W w1 : World} (hb : Below W.heap.size W w1) : (∀ b o, b < W.heap.size → w1.cell? ⟨b, o, none⟩ = W.cell? ⟨b, o, none⟩) ∧ (∀ b o, b < W.heap.size → w1.frozen? ⟨b, o, none⟩ = W.frozen? ⟨b, o, none⟩) :=
  ⟨fun b o h => hb.cell (p := ⟨b, o, none⟩) h, fun b o h => hb.frozen (p := ⟨b, o, none⟩) h⟩
/-- The bytes of a record, those behind its end 0. -/
def lim (f : Nat → Nat) (i : Nat) : Nat := if i < 64 then f i else 0
theorem lim_lt (f : Nat → Nat) (h : ∀ i, i < 64 → f i < 256) (i : Nat) : lim f i < 256 := by unfold lim; split; exact h i (by assumption); decide
theorem byt_lim {w : World} {B c : Nat} {A : Option Addr} {f : Nat → Nat} (h : Byt w B A 64 c f) : Byt w B A 64 c (lim f) := h.congr fun i hi => by unfold lim; rw [if_pos hi]
end Go.Proofs.Ytgojhmknmaaodaa
