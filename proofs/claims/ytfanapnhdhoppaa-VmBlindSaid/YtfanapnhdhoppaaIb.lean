/-
  Contracts of inst.put, inst.get, inst.bytesOf and inst.instAt: a part of an instruction in its bytes; an instruction's eight bytes; the instruction that eight bytes say.
-/
import Derived.Test.YtfanapnhdhoppaaWe
import Derived.Test.YtfanapnhdhoppaaIa
import Derived.Test.YtfanapnhdhoppaaCel
namespace Go.Proofs.Ytfanapnhdhoppaa
open Go.RowKit

theorem iput_any (A : Option Addr) (m c p wd n : Nat) (f : Nat → Nat) (w : World) (hm : m ≤ 140737488355328) (hw : wd = 1 ∨ wd = 2 ∨ wd = 4 ∨ wd = 8) (hp : p + wd ≤ m) (hn : n < 18446744073709551616) (hb : Byt w w.heap.size A m c f) (p' wd' n' : Int) (ep : p' = p) (ew : wd' = wd) (en : n' = n) :
    Calls Try.prog 73 #[.slice A m c, .int .i64 p', .int .i64 wd', .int .u64 n'] w fun e w' =>
      ∃ A' c', e = .returned (.slice A' m c') ∧ Own_ w' w.heap.size 5 A' m c' (putF false p wd n f) ∧ Below w.heap.size w w' := by
  subst ep ew en
  have HP := Lib.hid (put_ok false A m c p wd n f w hm hw hp hn hb)
  clear hw hb
  go_enter Try.func73, Try.ntmps73
  go_wp2_with fail
  refine (HP.out).mono ?_
  rintro e w1 ⟨A1, c1, rfl, hown, hB⟩
  go_wp2
  go_ret
  exact ⟨_, _, rfl, hown, hB⟩
/-- An instruction as numbers. -/
structure IV where
  c : Nat
  t : Nat
  f : Nat
  k : Nat
def IV.ok (v : IV) : Prop := v.c < 65536 ∧ v.t < 256 ∧ v.f < 256 ∧ v.k < 4294967296
/-- Its bytes. -/
def ibytes (v : IV) (i : Nat) : Nat :=
  if i < 2 then v.c / 256 ^ i % 256 else if i = 2 then v.t else if i = 3 then v.f else v.k / 256 ^ (i - 4) % 256
theorem ibytes_put (v : IV) (h : v.ok) (i : Nat) (hi : i < 8) : putF false 4 4 v.k (putF false 3 1 v.f (putF false 2 1 v.t (putF false 0 2 v.c (fun _ => 0)))) i = ibytes v i := by
  obtain ⟨h1, h2, h3, h4⟩ := h
  match i, hi with
  | 0, _ => simp [putF, idx, ibytes]
  | 1, _ => simp [putF, idx, ibytes]
  | 2, _ => simp [putF, idx, ibytes]; omega
  | 3, _ => simp [putF, idx, ibytes]; omega
  | 4, _ => simp [putF, idx, ibytes]
  | 5, _ => simp [putF, idx, ibytes]
  | 6, _ => simp [putF, idx, ibytes]
  | 7, _ => simp [putF, idx, ibytes]
theorem zero_row (w : World) (E : TypeId) (H : Nat) (hH : w.heap.size = H) : Own_ (w.alloc (.cells #[.int .u8 0, .int .u8 0, .int .u8 0, .int .u8 0, .int .u8 0, .int .u8 0, .int .u8 0, .int .u8 0] E)) H E (some ⟨H, 0, none⟩) 8 8 (fun _ => 0) := by
  subst hH
  exact ⟨World.ownsRow_lit (base := w.heap.size) (e := E) (size := 1) w #[.int .u8 0, .int .u8 0, .int .u8 0, .int .u8 0, .int .u8 0, .int .u8 0, .int .u8 0, .int .u8 0] 8 (Nat.le_refl _) (by decide) rfl, fun i _ => (by show 0 < 256; decide)⟩

set_option maxRecDepth 100000 in
set_option maxHeartbeats 4000000 in
theorem bytesOf_any (v : IV) (hv : v.ok) (w : World) :
    Calls Try.prog 42 #[.agg #[.int .u16 v.c, .int .u8 v.t, .int .u8 v.f, .int .u32 v.k]] w fun e w' =>
      ∃ A' c', e = .returned (.slice A' 8 c') ∧ Own_ w' w.heap.size 5 A' 8 c' (ibytes v) ∧ Below w.heap.size w w' := by
  have hmk : ∀ w : World, (Instr.makeSlice 23 (.int .i64 8) (.int .i64 8)).run Try.prog w = .ok (.slice (some ⟨w.heap.size, 0, none⟩) 8 8) (w.alloc (.cells #[.int .u8 0, .int .u8 0, .int .u8 0, .int .u8 0, .int .u8 0, .int .u8 0, .int .u8 0, .int .u8 0] 5)) := fun _ => by kernel_rfl
  have HB := Lib.hid (ibytes_put v hv)
  obtain ⟨vc, vt, vf, vk⟩ := v
  obtain ⟨h1, h2, h3, h4⟩ := hv
  dsimp only at h1 h2 h3 h4 ⊢
  go_enter Try.func42, Try.ntmps42
  go_wp2_with fail
  have hz := zero_row (w.alloc (.cells #[.int .u16 (vc : Int), .int .u8 (vt : Int), .int .u8 (vf : Int), .int .u32 (vk : Int)] 59)) 5 (w.heap.size + 1) (by simp)
  refine (iput_any _ 8 8 0 2 vc _ _ (by decide) (by decide) (by decide) (by omega) (hz.byt.more (by simp)) _ _ _ (by rfl) (by rfl) (by rfl)).mono ?_
  rintro e w1 ⟨A1, c1, rfl, hown1, hB1⟩
  have hs1 : w.heap.size + 2 ≤ w1.heap.size := by have := hB1.size; simp at this; omega
  have hb1 : Below w.heap.size w w1 := (((Below.refl _ w).alloc (Nat.le_refl _) _).alloc (by simp) _).trans (hB1.mono (by simp; omega))
  have x1 : w1.cell? ⟨w.heap.size, 1, none⟩ = some (.int .u8 vt) := (hB1.cell (p := ⟨w.heap.size, 1, none⟩) (by show w.heap.size < _; simp; omega)).trans (by simp)
  have x2 : w1.cell? ⟨w.heap.size, 2, none⟩ = some (.int .u8 vf) := (hB1.cell (p := ⟨w.heap.size, 2, none⟩) (by show w.heap.size < _; simp; omega)).trans (by simp)
  have x3 : w1.cell? ⟨w.heap.size, 3, none⟩ = some (.int .u32 vk) := (hB1.cell (p := ⟨w.heap.size, 3, none⟩) (by show w.heap.size < _; simp; omega)).trans (by simp)
  have hby1 := hown1.byt
  clear hown1 hB1 hz
  go_wp2_with fail
  refine (iput_any _ 8 _ 2 1 vt _ _ (by decide) (by decide) (by decide) (by omega) hby1 _ _ _ (by rfl) (by rfl) (by rfl)).mono ?_
  rintro e w2 ⟨A2, c2, rfl, hown2, hB2⟩
  have hs2 := hB2.size
  have hb2 := hb1.trans (hB2.mono hb1.size)
  have y2 := (hB2.cell (p := ⟨w.heap.size, 2, none⟩) (by show w.heap.size < _; omega)).trans x2
  have y3 := (hB2.cell (p := ⟨w.heap.size, 3, none⟩) (by show w.heap.size < _; omega)).trans x3
  have hby2 := hown2.byt
  clear hown2 x1 x2 x3
  go_wp2_with fail
  refine (iput_any _ 8 _ 3 1 vf _ _ (by decide) (by decide) (by decide) (by omega) hby2 _ _ _ (by rfl) (by rfl) (by rfl)).mono ?_
  rintro e w3 ⟨A3, c3, rfl, hown3, hB3⟩
  have hs3 := hB3.size
  have hb3 := hb2.trans (hB3.mono hb2.size)
  have z3 := (hB3.cell (p := ⟨w.heap.size, 3, none⟩) (by show w.heap.size < _; omega)).trans y3
  have hby3 := hown3.byt
  clear hown3 y2 y3
  go_wp2_with fail
  refine (iput_any _ 8 _ 4 4 vk _ _ (by decide) (by decide) (by decide) (by omega) hby3 _ _ _ (by rfl) (by rfl) (by rfl)).mono ?_
  rintro e w4 ⟨A4, c4, rfl, hown4, hB4⟩
  go_wp2
  go_ret
  exact ⟨_, _, rfl, (hown4.lower hb3.size).congr HB.out, hb3.trans (hB4.mono hb3.size)⟩

/-- The instruction that eight bytes say. -/
def ival (f : Nat → Nat) : IV := ⟨f 0 + f 1 * 256, f 2, f 3, f 4 + f 5 * 256 + f 6 * 65536 + f 7 * 16777216⟩
theorem ival_ok (f : Nat → Nat) (h : ∀ i, i < 8 → f i < 256) : (ival f).ok := by
  have h0 := h 0 (by decide); have h1 := h 1 (by decide); have h2 := h 2 (by decide); have h3 := h 3 (by decide); have h4 := h 4 (by decide); have h5 := h 5 (by decide); have h6 := h 6 (by decide); have h7 := h 7 (by decide)
  unfold IV.ok ival
  dsimp only
  omega
end Go.Proofs.Ytfanapnhdhoppaa
