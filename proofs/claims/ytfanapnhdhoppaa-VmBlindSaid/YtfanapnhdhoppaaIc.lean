/-
  The contract of inst.Write: for every instructions within the bounds that are named it hands back new bytes, eight an instruction, as the document says; what was there stays.
-/
import Derived.Test.YtfanapnhdhoppaaIb
namespace Go.Proofs.Ytfanapnhdhoppaa
open Go.RowKit

/-- The cells of instructions. -/
def icell (g : Nat → IV) (j : Nat) : Value :=
  if j % 4 = 0 then .int .u16 (g (j / 4)).c else if j % 4 = 1 then .int .u8 (g (j / 4)).t else if j % 4 = 2 then .int .u8 (g (j / 4)).f else .int .u32 (g (j / 4)).k
theorem icell0 (g : Nat → IV) (i : Nat) : icell g (i * 4) = .int .u16 (g i).c := by unfold icell; rw [if_pos (by omega), Nat.mul_div_cancel _ (by decide)]
theorem icell1 (g : Nat → IV) (i : Nat) : icell g (i * 4 + 1) = .int .u8 (g i).t := by unfold icell; rw [if_neg (by omega), if_pos (by omega), show (i * 4 + 1) / 4 = i from by omega]
theorem icell2 (g : Nat → IV) (i : Nat) : icell g (i * 4 + 2) = .int .u8 (g i).f := by unfold icell; rw [if_neg (by omega), if_neg (by omega), if_pos (by omega), show (i * 4 + 2) / 4 = i from by omega]
theorem icell3 (g : Nat → IV) (i : Nat) : icell g (i * 4 + 3) = .int .u32 (g i).k := by unfold icell; rw [if_neg (by omega), if_neg (by omega), if_neg (by omega), show (i * 4 + 3) / 4 = i from by omega]
theorem icell_one (g : Nat → IV) (j : Nat) : (icell g j).oneCell' = true := by unfold icell; split; rfl; split; rfl; split <;> rfl
/-- The slice with these parts reads as the instructions g 0, g 1, .. -/
def Ins (w : World) (B : Nat) (A : Option Addr) (n c : Nat) (g : Nat → IV) : Prop := Cel w B 4 A n c (icell g) ∧ ∀ i, i < n → (g i).ok
theorem Ins.below {w w' : World} {B n c : Nat} {A : Option Addr} {g : Nat → IV} (h : Ins w B A n c g) (hb : Below B w w') : Ins w' B A n c g := ⟨h.1.below hb, h.2⟩
theorem Ins.more {w : World} {B B' n c : Nat} {A : Option Addr} {g : Nat → IV} (h : Ins w B A n c g) (hb : B ≤ B') : Ins w B' A n c g := ⟨h.1.more hb, h.2⟩
theorem Ins.at_ {w : World} {B n c : Nat} {A : Option Addr} {g : Nat → IV} (h : Ins w B A n c g) (hn : 0 < n) : ∃ b off, A = some ⟨b, off, none⟩ ∧ b < B ∧ ∀ i, i < n →
    (w.cell? ⟨b, off + i * 4, none⟩ = some (.int .u16 (g i).c) ∧ w.cell? ⟨b, off + i * 4 + 1, none⟩ = some (.int .u8 (g i).t) ∧ w.cell? ⟨b, off + i * 4 + 2, none⟩ = some (.int .u8 (g i).f) ∧ w.cell? ⟨b, off + i * 4 + 3, none⟩ = some (.int .u32 (g i).k)) := by
  obtain ⟨b, off, rfl, hb, hc⟩ := h.1.at_ (by omega)
  refine ⟨b, off, rfl, hb, fun i hi => ⟨?_, ?_, ?_, ?_⟩⟩
  · rw [hc (i * 4) (by omega), icell0]
  · rw [Nat.add_assoc, hc (i * 4 + 1) (by omega), icell1]
  · rw [Nat.add_assoc, hc (i * 4 + 2) (by omega), icell2]
  · rw [Nat.add_assoc, hc (i * 4 + 3) (by omega), icell3]
/-- Their bytes. -/
def wbytes (g : Nat → IV) (j : Nat) : Nat := ibytes (g (j / 8)) (j % 8)
theorem wbytes_cat (g : Nat → IV) (k : Nat) : ∀ i, i < 8 * k + 8 → cat (8 * k) (wbytes g) (ibytes (g k)) i = wbytes g i := fun i hi => by
  unfold cat; split
  · rfl
  · unfold wbytes; rw [show i / 8 = k from by omega, show i % 8 = i - 8 * k from by omega]

set_option maxRecDepth 100000 in
set_option maxHeartbeats 4000000 in
theorem write_any (A : Option Addr) (n c : Nat) (g : Nat → IV) (w : World) (hn : n ≤ 1000000) (hr : Ins w w.heap.size A n c g) :
    Calls Try.prog 14 #[.slice A n c] w fun e w' => ∃ A' c', e = .returned (.slice A' (8 * n) c') ∧ Own_ w' w.heap.size 5 A' (8 * n) c' (wbytes g) ∧ Below w.heap.size w w' := by
  obtain ⟨i0, hi0, hz0, hz1, hz2⟩ := info_parts infoB
  go_enter Try.func14, Try.ntmps14
  go_wp2_with (at_make; go_must (refine wpList_make_own _ rfl _ _ 23 rfl w.heap.size 5 i0 _ 1 Try.underlying23 hi0 hz0 hz1 _ _ _ (8 * n) rfl rfl (by omega) (by rw [hz2]; omega) (by unfold maxLen; omega) (Nat.le_refl _) ?_; intro w1 hown1 hgrow1))
  have hB1 : Below w.heap.size w w1 := (Below.refl _ _).grown hgrow1 (Nat.le_refl _) (by simp)
  have ho1 : Own_ w1 w.heap.size 5 (some ⟨w.heap.size, 0, none⟩) 0 (8 * n) (wbytes g) := ⟨hown1, fun i h => by omega⟩
  clear hown1 hgrow1 hi0 hz0 hz1 hz2
  go_loopw [3, 12] (fun v i wr => ∃ (k : Nat) (A' : Option Addr) (c' : Nat), k ≤ n ∧ i = .int .i64 k ∧ v = .slice A' (8 * k) c' ∧ Own_ wr w.heap.size 5 A' (8 * k) c' (wbytes g) ∧ Below w.heap.size w wr)
    (fun _ i _ => n - (intOf i).toNat)
  case atStart => exact ⟨0, _, _, Nat.zero_le _, rfl, rfl, ho1, hB1⟩
  case round =>
    obtain ⟨k, A', c', hk, rfl, rfl, hown, hB⟩ := hrel
    by_cases hlt : k < n
    · obtain ⟨b, off, rfl, hb, hc⟩ := (hr.below hB).at_ (by omega)
      obtain ⟨q0, q1, q2, q3⟩ := hc k hlt
      have hok := hr.2 k hlt
      have HW := Lib.hid (wbytes_cat g k)
      generalize g k = v at *
      have HO := Lib.hid hok
      clear hc hok
      go_wp2_with fail
      refine (bytesOf_any v HO.out _).mono ?_
      rintro e w2 ⟨A2, c2, rfl, hown2, hB2⟩
      have hown3 := (hown.alloc (.cells #[.int .u16 v.c, .int .u8 v.t, .int .u8 v.f, .int .u32 v.k] 59)).below hB2 (Nat.le_refl _)
      have hb2 := (hB.alloc hB.size (.cells #[.int .u16 v.c, .int .u8 v.t, .int .u8 v.f, .int .u32 v.k] 59)).trans (hB2.mono (by have := hB.size; simp; omega))
      have hs2 := hb2.size
      go_wp2_with (at_builtin; go_must (refine app_bytes _ rfl _ _ _ 5 rfl Try.underlying23 infoB rfl hown3 rfl hown2.byt (by omega) hs2 ?_; rintro A3 c3 w3 hown4 hg4 hB4))
      refine ⟨⟨k + 1, A3, c3, by omega, by go_num, rfl, hown4.congr HW.out, hb2.trans hB4⟩, by simp [intOf]; omega⟩
    · obtain rfl : k = n := by omega
      go_wp2
      go_ret
      exact ⟨_, _, rfl, hown, hB⟩
end Go.Proofs.Ytfanapnhdhoppaa
