/-
  Contracts of inst.put, inst.get, inst.bytesOf and inst.instAt: a part of an instruction in its bytes; an instruction's eight bytes; the instruction that eight bytes say.
-/
import Derived.Test.YtilelhhnbbjaaaaGreatDoorWd
import Derived.Test.YtilelhhnbbjaaaaGreatDoorIa
import Derived.Test.YtilelhhnbbjaaaaGreatDoorMem
namespace Go.Proofs.YtilelhhnbbjaaaaGreatDoor
open Go.RowKit

theorem iput_any (A : Option Addr) (m c p wd n : Nat) (f : Nat → Nat) (w : World) (hm : m ≤ 140737488355328) (hw : wd = 1 ∨ wd = 2 ∨ wd = 4 ∨ wd = 8) (hp : p + wd ≤ m) (hn : n < 18446744073709551616) (hb : Byt w w.heap.size A m c f) (p' wd' n' : Int) (ep : p' = p) (ew : wd' = wd) (en : n' = n) :
    Calls Tryz.prog 28 #[.slice A m c, .int .i64 p', .int .i64 wd', .int .u64 n'] w fun e w' =>
      ∃ A' c', e = .returned (.slice A' m c') ∧ Own_ w' w.heap.size 5 A' m c' (putF false p wd n f) ∧ Below w.heap.size w w' := by
  subst ep ew en
  have HP := Lib.hid (put_ok false A m c p wd n f w hm hw hp hn hb)
  clear hw hb
  go_enter Tryz.func28, Tryz.ntmps28
  go_wp2_with fail
  refine (HP.out).mono ?_
  rintro e w1 ⟨A1, c1, rfl, hown, hB⟩
  go_wp2
  go_ret
  exact ⟨_, _, rfl, hown, hB⟩
theorem iget_any (A : Option Addr) (m c p wd : Nat) (f : Nat → Nat) (w : World) (hm : m ≤ 140737488355328) (hw : wd = 1 ∨ wd = 2 ∨ wd = 4 ∨ wd = 8) (hp : p + wd ≤ m) (hb : Byt w w.heap.size A m c f) (p' wd' : Int) (ep : p' = p) (ew : wd' = wd) :
    Calls Tryz.prog 27 #[.slice A m c, .int .i64 p', .int .i64 wd'] w fun e w' =>
      e = .returned (.int .u64 (num (fun i => f (p + i)) wd : Nat)) ∧ Below w.heap.size w w' := by
  subst ep ew
  have HP := Lib.hid (get_ok false A m c p wd f w (by omega) hw hp hb)
  clear hw hb
  go_enter Tryz.func27, Tryz.ntmps27
  go_wp2_with fail
  refine (HP.out).mono ?_
  rintro e w1 ⟨rfl, hB⟩
  go_wp2
  go_ret
  exact ⟨rfl, hB⟩

/-- An instruction as numbers. -/
structure IV where
  c : Nat
  t : Nat
  f : Nat
  k : Nat
def IV.ok (v : IV) : Prop := v.c < 65536 ∧ v.t < 256 ∧ v.f < 256 ∧ v.k < 4294967296
/-- Its bytes. -/
def ibytes (v : IV) (i : Nat) : Nat :=
  if i < 2 then v.c / 256 ^ i % 256 else if i = 2 then v.t else if i = 3 then v.f else v.k / 256 ^ (i - 4) % 256
theorem ibytes_put (v : IV) (h : v.ok) (i : Nat) (hi : i < 8) : putF false 4 4 v.k (putF false 3 1 v.f (putF false 2 1 v.t (putF false 0 2 v.c (fun _ => 0)))) i = ibytes v i := by
  obtain ⟨h1, h2, h3, h4⟩ := h
  match i, hi with
  | 0, _ => simp [putF, idx, ibytes]
  | 1, _ => simp [putF, idx, ibytes]
  | 2, _ => simp [putF, idx, ibytes]; omega
  | 3, _ => simp [putF, idx, ibytes]; omega
  | 4, _ => simp [putF, idx, ibytes]
  | 5, _ => simp [putF, idx, ibytes]
  | 6, _ => simp [putF, idx, ibytes]
  | 7, _ => simp [putF, idx, ibytes]
theorem zero_row (w : World) (E : TypeId) (H : Nat) (hH : w.heap.size = H) : Own_ (w.alloc (.cells #[.int .u8 0, .int .u8 0, .int .u8 0, .int .u8 0, .int .u8 0, .int .u8 0, .int .u8 0, .int .u8 0] E)) H E (some ⟨H, 0, none⟩) 8 8 (fun _ => 0) := by
  subst hH
  exact ⟨World.ownsRow_lit (base := w.heap.size) (e := E) (size := 1) w #[.int .u8 0, .int .u8 0, .int .u8 0, .int .u8 0, .int .u8 0, .int .u8 0, .int .u8 0, .int .u8 0] 8 (Nat.le_refl _) (by decide) rfl, fun i _ => (by show 0 < 256; decide)⟩

set_option maxRecDepth 100000 in
set_option maxHeartbeats 4000000 in
theorem bytesOf_any (v : IV) (hv : v.ok) (w : World) :
    Calls Tryz.prog 13 #[.agg #[.int .u16 v.c, .int .u8 v.t, .int .u8 v.f, .int .u32 v.k]] w fun e w' =>
      ∃ A' c', e = .returned (.slice A' 8 c') ∧ Own_ w' w.heap.size 5 A' 8 c' (ibytes v) ∧ Below w.heap.size w w' := by
  have hmk : ∀ w : World, (Instr.makeSlice 29 (.int .i64 8) (.int .i64 8)).run Tryz.prog w = .ok (.slice (some ⟨w.heap.size, 0, none⟩) 8 8) (w.alloc (.cells #[.int .u8 0, .int .u8 0, .int .u8 0, .int .u8 0, .int .u8 0, .int .u8 0, .int .u8 0, .int .u8 0] 5)) := fun _ => by kernel_rfl
  have HB := Lib.hid (ibytes_put v hv)
  obtain ⟨vc, vt, vf, vk⟩ := v
  obtain ⟨h1, h2, h3, h4⟩ := hv
  dsimp only at h1 h2 h3 h4 ⊢
  go_enter Tryz.func13, Tryz.ntmps13
  go_wp2_with fail
  have hz := zero_row (w.alloc (.cells #[.int .u16 (vc : Int), .int .u8 (vt : Int), .int .u8 (vf : Int), .int .u32 (vk : Int)] 47)) 5 (w.heap.size + 1) (by simp)
  refine (iput_any _ 8 8 0 2 vc _ _ (by decide) (by decide) (by decide) (by omega) (hz.byt.more (by simp)) _ _ _ (by rfl) (by rfl) (by rfl)).mono ?_
  rintro e w1 ⟨A1, c1, rfl, hown1, hB1⟩
  have hs1 : w.heap.size + 2 ≤ w1.heap.size := by have := hB1.size; simp at this; omega
  have hb1 : Below w.heap.size w w1 := (((Below.refl _ w).alloc (Nat.le_refl _) _).alloc (by simp) _).trans (hB1.mono (by simp; omega))
  have x1 : w1.cell? ⟨w.heap.size, 1, none⟩ = some (.int .u8 vt) := (hB1.cell (p := ⟨w.heap.size, 1, none⟩) (by show w.heap.size < _; simp; omega)).trans (by simp)
  have x2 : w1.cell? ⟨w.heap.size, 2, none⟩ = some (.int .u8 vf) := (hB1.cell (p := ⟨w.heap.size, 2, none⟩) (by show w.heap.size < _; simp; omega)).trans (by simp)
  have x3 : w1.cell? ⟨w.heap.size, 3, none⟩ = some (.int .u32 vk) := (hB1.cell (p := ⟨w.heap.size, 3, none⟩) (by show w.heap.size < _; simp; omega)).trans (by simp)
  have hby1 := hown1.byt
  clear hown1 hB1 hz
  go_wp2_with fail
  refine (iput_any _ 8 _ 2 1 vt _ _ (by decide) (by decide) (by decide) (by omega) hby1 _ _ _ (by rfl) (by rfl) (by rfl)).mono ?_
  rintro e w2 ⟨A2, c2, rfl, hown2, hB2⟩
  have hs2 := hB2.size
  have hb2 := hb1.trans (hB2.mono hb1.size)
  have y2 := (hB2.cell (p := ⟨w.heap.size, 2, none⟩) (by show w.heap.size < _; omega)).trans x2
  have y3 := (hB2.cell (p := ⟨w.heap.size, 3, none⟩) (by show w.heap.size < _; omega)).trans x3
  have hby2 := hown2.byt
  clear hown2 x1 x2 x3
  go_wp2_with fail
  refine (iput_any _ 8 _ 3 1 vf _ _ (by decide) (by decide) (by decide) (by omega) hby2 _ _ _ (by rfl) (by rfl) (by rfl)).mono ?_
  rintro e w3 ⟨A3, c3, rfl, hown3, hB3⟩
  have hs3 := hB3.size
  have hb3 := hb2.trans (hB3.mono hb2.size)
  have z3 := (hB3.cell (p := ⟨w.heap.size, 3, none⟩) (by show w.heap.size < _; omega)).trans y3
  have hby3 := hown3.byt
  clear hown3 y2 y3
  go_wp2_with fail
  refine (iput_any _ 8 _ 4 4 vk _ _ (by decide) (by decide) (by decide) (by omega) hby3 _ _ _ (by rfl) (by rfl) (by rfl)).mono ?_
  rintro e w4 ⟨A4, c4, rfl, hown4, hB4⟩
  go_wp2
  go_ret
  exact ⟨_, _, rfl, (hown4.lower hb3.size).congr HB.out, hb3.trans (hB4.mono hb3.size)⟩

/-- The instruction that eight bytes say. -/
def ival (f : Nat → Nat) : IV := ⟨f 0 + f 1 * 256, f 2, f 3, f 4 + f 5 * 256 + f 6 * 65536 + f 7 * 16777216⟩
theorem ival_ok (f : Nat → Nat) (h : ∀ i, i < 8 → f i < 256) : (ival f).ok := by
  have h0 := h 0 (by decide); have h1 := h 1 (by decide); have h2 := h 2 (by decide); have h3 := h 3 (by decide); have h4 := h 4 (by decide); have h5 := h 5 (by decide); have h6 := h 6 (by decide); have h7 := h 7 (by decide)
  unfold IV.ok ival
  dsimp only
  omega
set_option maxRecDepth 100000 in
set_option maxHeartbeats 4000000 in
theorem instAt_any (A : Option Addr) (m c p : Nat) (f : Nat → Nat) (w : World) (hm : m ≤ 1099511627776) (hp : p + 8 ≤ m) (hb : Byt w w.heap.size A m c f) (p' : Int) (ep : p' = p) :
    Calls Tryz.prog 12 #[.slice A m c, .int .i64 p'] w fun e w' =>
      e = .returned (.agg #[.int .u16 (ival (fun i => f (p + i))).c, .int .u8 (ival (fun i => f (p + i))).t, .int .u8 (ival (fun i => f (p + i))).f, .int .u32 (ival (fun i => f (p + i))).k]) ∧ Below w.heap.size w w' := by
  subst ep
  have hok := ival_ok (fun i => f (p + i)) (fun i hi => hb.lt (by omega))
  have e0 : num (fun i => f (p + i)) 2 = (ival (fun i => f (p + i))).c := by simp [num, ival]
  have e1 : num (fun i => f (p + 2 + i)) 1 = (ival (fun i => f (p + i))).t := by simp [num, ival]
  have e2 : num (fun i => f (p + 3 + i)) 1 = (ival (fun i => f (p + i))).f := by simp [num, ival]
  have e3 : num (fun i => f (p + 4 + i)) 4 = (ival (fun i => f (p + i))).k := by simp [num, ival]
  have H0 : Hid (∀ (W : World) (hB : Below w.heap.size w W) (p' : Int), p' = p → Calls Tryz.prog 27 #[.slice A m c, .int .i64 p', .int .i64 2] W fun e w' => e = .returned (.int .u64 (ival (fun i => f (p + i))).c) ∧ Below W.heap.size W w') :=
    fun W hB p' ep => e0 ▸ iget_any A m c p 2 f W (by omega) (by decide) (by omega) ((hb.below hB).more hB.size) p' 2 ep rfl
  have H1 : Hid (∀ (W : World) (hB : Below w.heap.size w W) (p' : Int), p' = ((p + 2 : Nat) : Int) → Calls Tryz.prog 27 #[.slice A m c, .int .i64 p', .int .i64 1] W fun e w' => e = .returned (.int .u64 (ival (fun i => f (p + i))).t) ∧ Below W.heap.size W w') :=
    fun W hB p' ep => e1 ▸ iget_any A m c (p + 2) 1 f W (by omega) (by decide) (by omega) ((hb.below hB).more hB.size) p' 1 ep rfl
  have H2 : Hid (∀ (W : World) (hB : Below w.heap.size w W) (p' : Int), p' = ((p + 3 : Nat) : Int) → Calls Tryz.prog 27 #[.slice A m c, .int .i64 p', .int .i64 1] W fun e w' => e = .returned (.int .u64 (ival (fun i => f (p + i))).f) ∧ Below W.heap.size W w') :=
    fun W hB p' ep => e2 ▸ iget_any A m c (p + 3) 1 f W (by omega) (by decide) (by omega) ((hb.below hB).more hB.size) p' 1 ep rfl
  have H3 : Hid (∀ (W : World) (hB : Below w.heap.size w W) (p' : Int), p' = ((p + 4 : Nat) : Int) → Calls Tryz.prog 27 #[.slice A m c, .int .i64 p', .int .i64 4] W fun e w' => e = .returned (.int .u64 (ival (fun i => f (p + i))).k) ∧ Below W.heap.size W w') :=
    fun W hB p' ep => e3 ▸ iget_any A m c (p + 4) 4 f W (by omega) (by decide) (by omega) ((hb.below hB).more hB.size) p' 4 ep rfl
  clear e0 e1 e2 e3
  generalize ival (fun i => f (p + i)) = v at *
  obtain ⟨vc, vt, vf, vk⟩ := v
  obtain ⟨h1, h2, h3, h4⟩ := hok
  dsimp only at h1 h2 h3 h4 H0 H1 H2 H3 ⊢
  go_enter Tryz.func12, Tryz.ntmps12
  go_wp2_with fail
  have hb0 : Below w.heap.size w (w.alloc (.cells #[.int .u16 0, .int .u8 0, .int .u8 0, .int .u32 0] 47)) := (Below.refl _ _).alloc (Nat.le_refl _) _
  refine (H0.out _ hb0 _ (by omega)).mono ?_
  rintro e w1 ⟨rfl, hB1⟩
  have hb1 := hb0.trans (hB1.mono hb0.size)
  rw [World.size_alloc] at hB1
  have hq1 : w.heap.size + 1 ≤ w1.heap.size := by have := hB1.size; simp at this; omega
  go_wp2_with fail
  refine (H1.out _ hb1 _ (by omega)).mono ?_
  rintro e w2 ⟨rfl, hB2⟩
  have hb2 := hb1.trans (hB2.mono hb1.size)
  have hB2' := hB1.trans (hB2.mono hq1)
  have hq2 : w.heap.size + 1 ≤ w2.heap.size := by have := hB2.size; omega
  go_wp2_with fail
  refine (H2.out _ hb2 _ (by omega)).mono ?_
  rintro e w3 ⟨rfl, hB3⟩
  have hb3 := hb2.trans (hB3.mono hb2.size)
  have hB3' := hB2'.trans (hB3.mono hq2)
  have hq3 : w.heap.size + 1 ≤ w3.heap.size := by have := hB3.size; omega
  go_wp2_with fail
  refine (H3.out _ hb3 _ (by omega)).mono ?_
  rintro e w4 ⟨rfl, hB4⟩
  have hb4 := hb3.trans (hB4.mono hb3.size)
  have hB4' := hB3'.trans (hB4.mono hq3)
  have c0 : w4.cell? ⟨w.heap.size, 0, none⟩ = some (.int .u16 0) := (hB4'.cell (p := ⟨w.heap.size, 0, none⟩) (by show w.heap.size < _; omega)).trans (by simp)
  have c1 : w4.cell? ⟨w.heap.size, 1, none⟩ = some (.int .u8 0) := (hB4'.cell (p := ⟨w.heap.size, 1, none⟩) (by show w.heap.size < _; omega)).trans (by simp)
  have c2 : w4.cell? ⟨w.heap.size, 2, none⟩ = some (.int .u8 0) := (hB4'.cell (p := ⟨w.heap.size, 2, none⟩) (by show w.heap.size < _; omega)).trans (by simp)
  have c3 : w4.cell? ⟨w.heap.size, 3, none⟩ = some (.int .u32 0) := (hB4'.cell (p := ⟨w.heap.size, 3, none⟩) (by show w.heap.size < _; omega)).trans (by simp)
  have f0 : w4.frozen? ⟨w.heap.size, 0, none⟩ = false := (hB4'.frozen (p := ⟨w.heap.size, 0, none⟩) (by show w.heap.size < _; omega)).trans (by simp)
  have f1 : w4.frozen? ⟨w.heap.size, 1, none⟩ = false := (hB4'.frozen (p := ⟨w.heap.size, 1, none⟩) (by show w.heap.size < _; omega)).trans (by simp)
  have f2 : w4.frozen? ⟨w.heap.size, 2, none⟩ = false := (hB4'.frozen (p := ⟨w.heap.size, 2, none⟩) (by show w.heap.size < _; omega)).trans (by simp)
  have f3 : w4.frozen? ⟨w.heap.size, 3, none⟩ = false := (hB4'.frozen (p := ⟨w.heap.size, 3, none⟩) (by show w.heap.size < _; omega)).trans (by simp)
  clear hB1 hB2 hB2' hB3 hB3' hB4 hB4' H0 H1 H2 H3 hb0 hb1 hb2 hb3 hb
  go_wp2
  refine bodyPost_ret (v := .agg #[.int .u16 vc, .int .u8 vt, .int .u8 vf, .int .u32 vk]) (by simp [results, Tryz.results12, go_sem, c0, c1, c2, c3]) rfl ⟨rfl, ?_⟩
  exact (((hb4.setCell (p := ⟨w.heap.size, 0, none⟩) (Nat.le_refl _) _).setCell (p := ⟨w.heap.size, 1, none⟩) (Nat.le_refl _) _).setCell (p := ⟨w.heap.size, 2, none⟩) (Nat.le_refl _) _).setCell (p := ⟨w.heap.size, 3, none⟩) (Nat.le_refl _) _
end Go.Proofs.YtilelhhnbbjaaaaGreatDoor

/-
  The contract of inst.Write: for every instructions within the bounds that are named it hands back new bytes, eight an instruction, as the document says; what was there stays.
-/
namespace Go.Proofs.YtilelhhnbbjaaaaGreatDoor
open Go.RowKit

/-- The cells of instructions. -/
def icell (g : Nat → IV) (j : Nat) : Value :=
  if j % 4 = 0 then .int .u16 (g (j / 4)).c else if j % 4 = 1 then .int .u8 (g (j / 4)).t else if j % 4 = 2 then .int .u8 (g (j / 4)).f else .int .u32 (g (j / 4)).k
theorem icell0 (g : Nat → IV) (i : Nat) : icell g (i * 4) = .int .u16 (g i).c := by unfold icell; rw [if_pos (by omega), Nat.mul_div_cancel _ (by decide)]
theorem icell1 (g : Nat → IV) (i : Nat) : icell g (i * 4 + 1) = .int .u8 (g i).t := by unfold icell; rw [if_neg (by omega), if_pos (by omega), show (i * 4 + 1) / 4 = i from by omega]
theorem icell2 (g : Nat → IV) (i : Nat) : icell g (i * 4 + 2) = .int .u8 (g i).f := by unfold icell; rw [if_neg (by omega), if_neg (by omega), if_pos (by omega), show (i * 4 + 2) / 4 = i from by omega]
theorem icell3 (g : Nat → IV) (i : Nat) : icell g (i * 4 + 3) = .int .u32 (g i).k := by unfold icell; rw [if_neg (by omega), if_neg (by omega), if_neg (by omega), show (i * 4 + 3) / 4 = i from by omega]
theorem icell_one (g : Nat → IV) (j : Nat) : (icell g j).oneCell' = true := by unfold icell; split; rfl; split; rfl; split <;> rfl
/-- The slice with these parts reads as the instructions g 0, g 1, .. -/
def Ins (w : World) (B : Nat) (A : Option Addr) (n c : Nat) (g : Nat → IV) : Prop := Cel w B 4 A n c (icell g) ∧ ∀ i, i < n → (g i).ok
theorem Ins.below {w w' : World} {B n c : Nat} {A : Option Addr} {g : Nat → IV} (h : Ins w B A n c g) (hb : Below B w w') : Ins w' B A n c g := ⟨h.1.below hb, h.2⟩
theorem Ins.more {w : World} {B B' n c : Nat} {A : Option Addr} {g : Nat → IV} (h : Ins w B A n c g) (hb : B ≤ B') : Ins w B' A n c g := ⟨h.1.more hb, h.2⟩
theorem Ins.at_ {w : World} {B n c : Nat} {A : Option Addr} {g : Nat → IV} (h : Ins w B A n c g) (hn : 0 < n) : ∃ b off, A = some ⟨b, off, none⟩ ∧ b < B ∧ ∀ i, i < n →
    (w.cell? ⟨b, off + i * 4, none⟩ = some (.int .u16 (g i).c) ∧ w.cell? ⟨b, off + i * 4 + 1, none⟩ = some (.int .u8 (g i).t) ∧ w.cell? ⟨b, off + i * 4 + 2, none⟩ = some (.int .u8 (g i).f) ∧ w.cell? ⟨b, off + i * 4 + 3, none⟩ = some (.int .u32 (g i).k)) := by
  obtain ⟨b, off, rfl, hb, hc⟩ := h.1.at_ (by omega)
  refine ⟨b, off, rfl, hb, fun i hi => ⟨?_, ?_, ?_, ?_⟩⟩
  · rw [hc (i * 4) (by omega), icell0]
  · rw [Nat.add_assoc, hc (i * 4 + 1) (by omega), icell1]
  · rw [Nat.add_assoc, hc (i * 4 + 2) (by omega), icell2]
  · rw [Nat.add_assoc, hc (i * 4 + 3) (by omega), icell3]
/-- Their bytes. -/
def wbytes (g : Nat → IV) (j : Nat) : Nat := ibytes (g (j / 8)) (j % 8)
theorem wbytes_cat (g : Nat → IV) (k : Nat) : ∀ i, i < 8 * k + 8 → cat (8 * k) (wbytes g) (ibytes (g k)) i = wbytes g i := fun i hi => by
  unfold cat; split
  · rfl
  · unfold wbytes; rw [show i / 8 = k from by omega, show i % 8 = i - 8 * k from by omega]

set_option maxRecDepth 100000 in
set_option maxHeartbeats 4000000 in
theorem write_any (A : Option Addr) (n c : Nat) (g : Nat → IV) (w : World) (hn : n ≤ 1000000) (hr : Ins w w.heap.size A n c g) :
    Calls Tryz.prog 6 #[.slice A n c] w fun e w' => ∃ A' c', e = .returned (.slice A' (8 * n) c') ∧ Own_ w' w.heap.size 5 A' (8 * n) c' (wbytes g) ∧ Below w.heap.size w w' := by
  obtain ⟨i0, hi0, hz0, hz1, hz2⟩ := info_parts infoB
  go_enter Tryz.func6, Tryz.ntmps6
  go_wp2_with (at_make; go_must (refine wpList_make_own _ rfl _ _ 29 rfl w.heap.size 5 i0 _ 1 Tryz.underlying29 hi0 hz0 hz1 _ _ _ (8 * n) rfl rfl (by omega) (by rw [hz2]; omega) (by unfold maxLen; omega) (Nat.le_refl _) ?_; intro w1 hown1 hgrow1))
  have hB1 : Below w.heap.size w w1 := (Below.refl _ _).grown hgrow1 (Nat.le_refl _) (by simp)
  have ho1 : Own_ w1 w.heap.size 5 (some ⟨w.heap.size, 0, none⟩) 0 (8 * n) (wbytes g) := ⟨hown1, fun i h => by omega⟩
  clear hown1 hgrow1 hi0 hz0 hz1 hz2
  go_loopw [3, 12] (fun v i wr => ∃ (k : Nat) (A' : Option Addr) (c' : Nat), k ≤ n ∧ i = .int .i64 k ∧ v = .slice A' (8 * k) c' ∧ Own_ wr w.heap.size 5 A' (8 * k) c' (wbytes g) ∧ Below w.heap.size w wr)
    (fun _ i _ => n - (intOf i).toNat)
  case atStart => exact ⟨0, _, _, Nat.zero_le _, rfl, rfl, ho1, hB1⟩
  case round =>
    obtain ⟨k, A', c', hk, rfl, rfl, hown, hB⟩ := hrel
    by_cases hlt : k < n
    · obtain ⟨b, off, rfl, hb, hc⟩ := (hr.below hB).at_ (by omega)
      obtain ⟨q0, q1, q2, q3⟩ := hc k hlt
      have hok := hr.2 k hlt
      have HW := Lib.hid (wbytes_cat g k)
      generalize g k = v at *
      have HO := Lib.hid hok
      clear hc hok
      go_wp2_with fail
      refine (bytesOf_any v HO.out _).mono ?_
      rintro e w2 ⟨A2, c2, rfl, hown2, hB2⟩
      have hown3 := (hown.alloc (.cells #[.int .u16 v.c, .int .u8 v.t, .int .u8 v.f, .int .u32 v.k] 47)).below hB2 (Nat.le_refl _)
      have hb2 := (hB.alloc hB.size (.cells #[.int .u16 v.c, .int .u8 v.t, .int .u8 v.f, .int .u32 v.k] 47)).trans (hB2.mono (by have := hB.size; simp; omega))
      have hs2 := hb2.size
      go_wp2_with (at_builtin; go_must (refine app_bytes _ rfl _ _ _ 5 rfl Tryz.underlying29 infoB rfl hown3 rfl hown2.byt (by omega) hs2 ?_; rintro A3 c3 w3 hown4 hg4 hB4))
      refine ⟨⟨k + 1, A3, c3, by omega, by go_num, rfl, hown4.congr HW.out, hb2.trans hB4⟩, by simp [intOf]; omega⟩
    · obtain rfl : k = n := by omega
      go_wp2
      go_ret
      exact ⟨_, _, rfl, hown, hB⟩
end Go.Proofs.YtilelhhnbbjaaaaGreatDoor

/-
  The contract of the law's own awake of layer 2: it returns true, whatever lies in memory; and what bytes are as a string.
-/
namespace Go.Proofs.YtilelhhnbbjaaaaGreatDoor
open Go.RowKit

/-- n bytes as a string. -/
def sbytes (n : Nat) (f : Nat → Nat) : ByteArray := ((List.range n).map f).foldl (fun r x => r.push (UInt8.ofNat x)) ByteArray.empty
theorem sbytes_congr (n : Nat) (f g : Nat → Nat) (h : ∀ i, i < n → f i = g i) : sbytes n f = sbytes n g := by
  unfold sbytes
  rw [List.map_congr_left (fun i hi => h i (List.mem_range.1 hi))]
theorem str_of_byt {P : Program} {w : World} {src dst e : TypeId} (hs : P.underlying src = some (.slice e)) (he : P.underlying e = some (.int .u8)) (hd : P.underlying dst = some .string)
    {B n c : Nat} {A : Option Addr} {f : Nat → Nat} (h : Byt w B A n c f) : (convert src dst (.slice A n c)).run P w = .ok (.string (sbytes n f)) w := by
  rw [run_convert_bytes_string w src dst e A n c hs he hd]
  rcases h with ⟨rfl, rfl, rfl⟩ | ⟨ad, rfl, h1, h2, hc⟩
  · simp [Conv.bytesToString, sbytes, Sem.run_pure]
  · have hl := run_loadCells (P := P) w ad n (fun i => bv (f i)) (fun j hj => (hc j hj).2.1)
    have e1 : ((List.range n).map fun i => bv (f i)) = ((List.range n).map fun i => (f i : Int)).map (Value.int .u8) := by simp [bv]
    rw [e1] at hl
    rw [run_bytesToString w ad n c _ hl]
    congr 2
    unfold sbytes
    rw [List.foldl_map, List.foldl_map]
    simp

theorem lit_ins (w : World) (E : TypeId) : Ins (w.alloc (.cells #[.int .u16 21, .int .u8 1, .int .u8 2, .int .u32 3] E)) (w.heap.size + 1) (some ⟨w.heap.size, 0, none⟩) 1 1 (fun _ => ⟨21, 1, 2, 3⟩) := by
  refine ⟨Cel.mk_ (by omega) (by decide) (by decide) (fun i hi => ?_), fun i _ => ⟨by show 21 < 65536; decide, by show 1 < 256; decide, by show 2 < 256; decide, by show 3 < 4294967296; decide⟩⟩
  match i, hi with
  | 0, _ => simp [icell]
  | 1, _ => simp [icell]
  | 2, _ => simp [icell]
  | 3, _ => simp [icell]

end Go.Proofs.YtilelhhnbbjaaaaGreatDoor
