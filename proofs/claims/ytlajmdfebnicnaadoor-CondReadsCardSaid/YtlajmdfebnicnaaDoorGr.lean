/-
  strconv.ParseUint at base 16, of a text that is a number's figures.
-/
import Derived.Test.YtlajmdfebnicnaaDoorGp
import Derived.Lib.Strings
import Derived.Lib.ConvBytes
import Derived.Lib.AtoiAllMem
import Derived.Lib.Hide
import Derived.Laws.Strings3
import Derived.Laws.Closers25
import Derived.Laws.Closers25b
namespace Go.Proofs.YtlajmdfebnicnaaDoor
open Go.RowKit
set_option linter.unusedVariables false

/-- A figure's value. -/
def hv (c : UInt8) : Nat := if c.toNat ≤ 57 then c.toNat - 48 else c.toNat - 87
/-- c is a figure. -/
def IsFig (c : UInt8) : Prop := (48 ≤ c.toNat ∧ c.toNat ≤ 57) ∨ (97 ≤ c.toNat ∧ c.toNat ≤ 102)
theorem hv_lt {c : UInt8} (h : IsFig c) : hv c < 16 := by unfold hv; rcases h with h | h <;> split <;> omega
/-- The number that figures mean, behind others. -/
def pv (a : Nat) : List UInt8 → Nat
  | [] => a
  | c :: cs => pv (a * 16 + hv c) cs
theorem pv_app (a : Nat) (l : List UInt8) (c : UInt8) : pv a (l ++ [c]) = pv a l * 16 + hv c := by
  revert a
  induction l with
  | nil => intro a; rfl
  | cons d l ih => intro a; exact ih _
theorem pv_le (a : Nat) (l : List UInt8) : a ≤ pv a l := by
  revert a
  induction l with
  | nil => intro a; exact Nat.le_refl _
  | cons d l ih => intro a; exact Nat.le_trans (by omega) (ih (a * 16 + hv d))
theorem hv_hexC (d : Nat) (h : d < 16) : hv (hexC d) = d ∧ IsFig (hexC d) := by
  have h : d = 0 ∨ d = 1 ∨ d = 2 ∨ d = 3 ∨ d = 4 ∨ d = 5 ∨ d = 6 ∨ d = 7 ∨ d = 8 ∨ d = 9 ∨ d = 10 ∨ d = 11 ∨ d = 12 ∨ d = 13 ∨ d = 14 ∨ d = 15 := by omega
  unfold IsFig
  rcases h with rfl | rfl | rfl | rfl | rfl | rfl | rfl | rfl | rfl | rfl | rfl | rfl | rfl | rfl | rfl | rfl <;> decide +kernel
theorem pv_hexL (u : Nat) : pv 0 (hexL u) = u := by
  induction u using Nat.strongRecOn with
  | ind u ih =>
    by_cases hu : u < 16
    · rw [hexL_small hu]
      show 0 * 16 + hv (hexC u) = u
      rw [(hv_hexC u hu).1]; omega
    · rw [hexL_more hu, pv_app, ih (u / 16) (by omega), (hv_hexC (u % 16) (by omega)).1]; omega
theorem figs_hexL (u : Nat) : ∀ c ∈ hexL u, IsFig c := by
  induction u using Nat.strongRecOn with
  | ind u ih =>
    intro c hc
    by_cases hu : u < 16
    · rw [hexL_small hu] at hc
      rw [List.mem_singleton.1 hc]
      exact (hv_hexC u hu).2
    · rw [hexL_more hu] at hc
      rcases List.mem_append.1 hc with h | h
      · exact ih (u / 16) (by omega) c h
      · rw [List.mem_singleton.1 h]
        exact (hv_hexC (u % 16) (by omega)).2
set_option maxHeartbeats 1000000 in
theorem lower_any (c : Int) (w : World) : Calls Tryd.prog 42 #[.int .u8 c] w fun e w' => e = .returned (.int .u8 (bits .or .u8 c 32)) ∧ w = w' := by
  go_enter Tryd.func42, Tryd.ntmps42
  go_wp2
  go_ret
  exact ⟨rfl, rfl⟩
theorem below_bytesG (w : World) (e : TypeId) (s : ByteArray) : Below w.heap.size w (Lib.bytesWorld w e s) := ⟨rfl, rfl, rfl, by rw [Lib.bytesWorld_size]; omega, fun j hj => Lib.bytesWorld_at_old w e s j hj⟩
set_option maxHeartbeats 8000000 in
set_option maxRecDepth 100000 in
theorem iparse16_any (t : ByteArray) (hne : t.size ≠ 0) (hmax : t.size ≤ 9223372036854775806) (hf : ∀ c ∈ t.data.toList, IsFig c) (u : Nat) (hu : pv 0 t.data.toList = u) (hu64 : u < 18446744073709551616) (w : World) :
    Calls Tryd.prog 23 #[.string t, .int .i64 16, .int .i64 64] w fun e w' => e = .returned (.tuple #[.int .u64 u, .nilIface]) ∧ Below w.heap.size w w' := by
  have hemp : t.toList.isEmpty = false := by
    rw [← decide_eq_emptyBytes]
    exact decide_eq_false (fun h => hne (by rw [h]; rfl))
  have hcv := Lib.run_convert_string_bytes (P := Tryd.prog) w 9 74 5 t (u := .string) Tryd.underlying9 Tryd.underlying74 Tryd.underlying5
  have hB : ∀ j, j < t.size → (Lib.bytesWorld w 5 t).cell? ⟨w.heap.size, j, none⟩ = some (.int .u8 (t.data.toList.getD j 0).toNat) := fun j hj => Lib.bytesWorld_cell w 5 t j hj
  have HL := Lib.hid (below_bytesG w 5 t)
  obtain ⟨W1, hW1⟩ : ∃ W1, W1 = Lib.bytesWorld w 5 t := ⟨_, rfl⟩
  rw [← hW1] at hcv hB HL
  clear hW1
  obtain ⟨bs, hL⟩ : ∃ bs, bs = t.data.toList := ⟨_, rfl⟩
  have hLn : bs.length = t.size := by rw [hL, Lib.size_eq]
  rw [← hL] at hB hf hu
  clear hL
  have HU := Lib.hid hu
  have hmv : IntKind.u64.wrap (IntKind.u64.wrap 18446744073709551616 - 1) = 18446744073709551615 := by
    rw [IntKind.wrap_u64, IntKind.wrap_u64]
    decide
  clear hu
  go_enter Tryd.func23, Tryd.ntmps23
  go_wp2
  go_loop [12, 13, 101] (fun vu vn vi => ∃ (k acc : Nat) (a : Int), vu = .bool false ∧ vn = .int .u64 a ∧ vi = .int .i64 k ∧ k ≤ t.size ∧ Hid (a = (acc : Int) ∧ pv acc (bs.drop k) = u))
    (fun _ _ vi => t.size - (intOf vi).toNat)
  case atStart => exact ⟨0, 0, 0, rfl, rfl, rfl, by omega, rfl, HU.out⟩
  case round =>
    obtain ⟨k, acc, a, rfl, rfl, rfl, hk, hh⟩ := hrel
    obtain ⟨ha, hdec⟩ := hh.out
    clear hh
    have a0 : 0 ≤ a := by omega
    by_cases hkn : k < t.size
    · have hc := hB k hkn
      have hdrop : bs.drop k = bs[k]'(by omega) :: bs.drop (k + 1) := List.drop_eq_getElem_cons (by omega)
      have hget : bs.getD k 0 = bs[k]'(by omega) := by simp [List.getD, List.getElem?_eq_getElem (show k < bs.length by omega)]
      have hfig := hf _ (List.getElem_mem (show k < bs.length by omega))
      rw [hdrop] at hdec
      rw [hget] at hc
      generalize bs[k]'(by omega) = c at hc hdec hfig
      have hc256 : c.toNat < 256 := c.toNat_lt
      have hd16 := hv_lt hfig
      have hle : acc * 16 + hv c ≤ u := by rw [← hdec]; exact pv_le _ _
      have hnx : pv (acc * 16 + hv c) (bs.drop (k + 1)) = u := hdec
      have icut : a < 1152921504606846976 := by omega
      have iov : a * 16 + ((hv c : Nat) : Int) < 18446744073709551616 := by omega
      have HN : Hid (a * 16 + ((hv c : Nat) : Int) = ((acc * 16 + hv c : Nat) : Int) ∧ pv (acc * 16 + hv c) (bs.drop (k + 1)) = u) := Lib.hid ⟨by omega, hnx⟩
      clear hB hdrop hget hf hdec hnx hle ha HU
      by_cases hdig : c.toNat ≤ 57
      · have hd0 : 48 ≤ c.toNat := by unfold IsFig at hfig; omega
        have hvc : hv c = c.toNat - 48 := by unfold hv; rw [if_pos hdig]
        have hvi : ((hv c : Nat) : Int) = (c.toNat : Int) - 48 := by omega
        rw [hvi] at iov HN
        clear hvc hvi hd16 hfig
        go_wp2
        exact ⟨⟨k + 1, acc * 16 + hv c, a * 16 + ((c.toNat : Int) - 48), rfl, rfl, by go_num, by omega, HN⟩, by simp [intOf]; omega⟩
      · have hd0 : 97 ≤ c.toNat ∧ c.toNat ≤ 102 := by unfold IsFig at hfig; omega
        obtain ⟨hd0, hd1⟩ := hd0
        have hvc : hv c = c.toNat - 87 := by unfold hv; rw [if_neg hdig]
        have hvi : ((hv c : Nat) : Int) = (c.toNat : Int) - 87 := by omega
        rw [hvi] at iov HN
        have hor : bits .or .u8 (c.toNat : Int) 32 = (c.toNat : Int) := by
          have h : c.toNat = 97 ∨ c.toNat = 98 ∨ c.toNat = 99 ∨ c.toNat = 100 ∨ c.toNat = 101 ∨ c.toNat = 102 := by omega
          rcases h with h | h | h | h | h | h <;> (rw [h]; decide +kernel)
        clear hvc hvi hd16 hfig
        go_wp2_with (go_at_call 42; refine (lower_any _ _).mono ?_; rw [hor]; rintro e w' ⟨rfl, rfl⟩)
        exact ⟨⟨k + 1, acc * 16 + hv c, a * 16 + ((c.toNat : Int) - 87), rfl, by congr 1; omega, by go_num, by omega, HN⟩, by simp [intOf]; omega⟩
    · have hkk : k = t.size := by omega
      subst hkk
      rw [List.drop_eq_nil_of_le (by omega)] at hdec
      have hau : a = (u : Int) := by rw [ha, ← hdec]; rfl
      subst hau
      clear ha hdec hf hB HU
      go_wp2
      go_ret2
      exact ⟨rfl, HL.out⟩
end Go.Proofs.YtlajmdfebnicnaaDoor
