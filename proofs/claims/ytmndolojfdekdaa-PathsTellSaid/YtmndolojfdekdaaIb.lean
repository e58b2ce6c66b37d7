/-
  Contracts of inst.put, inst.get, inst.bytesOf and inst.instAt: a part of an instruction in its bytes; an instruction's eight bytes; the instruction that eight bytes say.
-/
import Derived.Test.YtmndolojfdekdaaWd
import Derived.Test.YtmndolojfdekdaaIa
import Derived.Test.YtmndolojfdekdaaMem
namespace Go.Proofs.Ytmndolojfdekdaa
open Go.RowKit

/-- An instruction as numbers. -/
structure IV where
  c : Nat
  t : Nat
  f : Nat
  k : Nat
def IV.ok (v : IV) : Prop := v.c < 65536 ∧ v.t < 256 ∧ v.f < 256 ∧ v.k < 4294967296
/-- Its bytes. -/
def ibytes (v : IV) (i : Nat) : Nat :=
  if i < 2 then v.c / 256 ^ i % 256 else if i = 2 then v.t else if i = 3 then v.f else v.k / 256 ^ (i - 4) % 256
theorem ibytes_put (v : IV) (h : v.ok) (i : Nat) (hi : i < 8) : putF false 4 4 v.k (putF false 3 1 v.f (putF false 2 1 v.t (putF false 0 2 v.c (fun _ => 0)))) i = ibytes v i := by
  obtain ⟨h1, h2, h3, h4⟩ := h
  match i, hi with
  | 0, _ => simp [putF, idx, ibytes]
  | 1, _ => simp [putF, idx, ibytes]
  | 2, _ => simp [putF, idx, ibytes]; omega
  | 3, _ => simp [putF, idx, ibytes]; omega
  | 4, _ => simp [putF, idx, ibytes]
  | 5, _ => simp [putF, idx, ibytes]
  | 6, _ => simp [putF, idx, ibytes]
  | 7, _ => simp [putF, idx, ibytes]
theorem zero_row (w : World) (E : TypeId) (H : Nat) (hH : w.heap.size = H) : Own_ (w.alloc (.cells #[.int .u8 0, .int .u8 0, .int .u8 0, .int .u8 0, .int .u8 0, .int .u8 0, .int .u8 0, .int .u8 0] E)) H E (some ⟨H, 0, none⟩) 8 8 (fun _ => 0) := by
  subst hH
  exact ⟨World.ownsRow_lit (base := w.heap.size) (e := E) (size := 1) w #[.int .u8 0, .int .u8 0, .int .u8 0, .int .u8 0, .int .u8 0, .int .u8 0, .int .u8 0, .int .u8 0] 8 (Nat.le_refl _) (by decide) rfl, fun i _ => (by show 0 < 256; decide)⟩

/-- The instruction that eight bytes say. -/
def ival (f : Nat → Nat) : IV := ⟨f 0 + f 1 * 256, f 2, f 3, f 4 + f 5 * 256 + f 6 * 65536 + f 7 * 16777216⟩
theorem ival_ok (f : Nat → Nat) (h : ∀ i, i < 8 → f i < 256) : (ival f).ok := by
  have h0 := h 0 (by decide); have h1 := h 1 (by decide); have h2 := h 2 (by decide); have h3 := h 3 (by decide); have h4 := h 4 (by decide); have h5 := h 5 (by decide); have h6 := h 6 (by decide); have h7 := h 7 (by decide)
  unfold IV.ok ival
  dsimp only
  omega
end Go.Proofs.Ytmndolojfdekdaa

/-
  The contract of inst.Write: for every instructions within the bounds that are named it hands back new bytes, eight an instruction, as the document says; what was there stays.
-/
namespace Go.Proofs.Ytmndolojfdekdaa
open Go.RowKit

/-- The cells of instructions. -/
def icell (g : Nat → IV) (j : Nat) : Value :=
  if j % 4 = 0 then .int .u16 (g (j / 4)).c else if j % 4 = 1 then .int .u8 (g (j / 4)).t else if j % 4 = 2 then .int .u8 (g (j / 4)).f else .int .u32 (g (j / 4)).k
theorem icell0 (g : Nat → IV) (i : Nat) : icell g (i * 4) = .int .u16 (g i).c := by unfold icell; rw [if_pos (by omega), Nat.mul_div_cancel _ (by decide)]
theorem icell1 (g : Nat → IV) (i : Nat) : icell g (i * 4 + 1) = .int .u8 (g i).t := by unfold icell; rw [if_neg (by omega), if_pos (by omega), show (i * 4 + 1) / 4 = i from by omega]
theorem icell2 (g : Nat → IV) (i : Nat) : icell g (i * 4 + 2) = .int .u8 (g i).f := by unfold icell; rw [if_neg (by omega), if_neg (by omega), if_pos (by omega), show (i * 4 + 2) / 4 = i from by omega]
theorem icell3 (g : Nat → IV) (i : Nat) : icell g (i * 4 + 3) = .int .u32 (g i).k := by unfold icell; rw [if_neg (by omega), if_neg (by omega), if_neg (by omega), show (i * 4 + 3) / 4 = i from by omega]
theorem icell_one (g : Nat → IV) (j : Nat) : (icell g j).oneCell' = true := by unfold icell; split; rfl; split; rfl; split <;> rfl
/-- The slice with these parts reads as the instructions g 0, g 1, .. -/
def Ins (w : World) (B : Nat) (A : Option Addr) (n c : Nat) (g : Nat → IV) : Prop := Cel w B 4 A n c (icell g) ∧ ∀ i, i < n → (g i).ok
theorem Ins.below {w w' : World} {B n c : Nat} {A : Option Addr} {g : Nat → IV} (h : Ins w B A n c g) (hb : Below B w w') : Ins w' B A n c g := ⟨h.1.below hb, h.2⟩
theorem Ins.more {w : World} {B B' n c : Nat} {A : Option Addr} {g : Nat → IV} (h : Ins w B A n c g) (hb : B ≤ B') : Ins w B' A n c g := ⟨h.1.more hb, h.2⟩
theorem Ins.at_ {w : World} {B n c : Nat} {A : Option Addr} {g : Nat → IV} (h : Ins w B A n c g) (hn : 0 < n) : ∃ b off, A = some ⟨b, off, none⟩ ∧ b < B ∧ ∀ i, i < n →
    (w.cell? ⟨b, off + i * 4, none⟩ = some (.int .u16 (g i).c) ∧ w.cell? ⟨b, off + i * 4 + 1, none⟩ = some (.int .u8 (g i).t) ∧ w.cell? ⟨b, off + i * 4 + 2, none⟩ = some (.int .u8 (g i).f) ∧ w.cell? ⟨b, off + i * 4 + 3, none⟩ = some (.int .u32 (g i).k)) := by
  obtain ⟨b, off, rfl, hb, hc⟩ := h.1.at_ (by omega)
  refine ⟨b, off, rfl, hb, fun i hi => ⟨?_, ?_, ?_, ?_⟩⟩
  · rw [hc (i * 4) (by omega), icell0]
  · rw [Nat.add_assoc, hc (i * 4 + 1) (by omega), icell1]
  · rw [Nat.add_assoc, hc (i * 4 + 2) (by omega), icell2]
  · rw [Nat.add_assoc, hc (i * 4 + 3) (by omega), icell3]
/-- Their bytes. -/
def wbytes (g : Nat → IV) (j : Nat) : Nat := ibytes (g (j / 8)) (j % 8)
theorem wbytes_cat (g : Nat → IV) (k : Nat) : ∀ i, i < 8 * k + 8 → cat (8 * k) (wbytes g) (ibytes (g k)) i = wbytes g i := fun i hi => by
  unfold cat; split
  · rfl
  · unfold wbytes; rw [show i / 8 = k from by omega, show i % 8 = i - 8 * k from by omega]

end Go.Proofs.Ytmndolojfdekdaa

/-
  The contract of the law's own awake of layer 2: it returns true, whatever lies in memory; and what bytes are as a string.
-/
namespace Go.Proofs.Ytmndolojfdekdaa
open Go.RowKit

/-- n bytes as a string. -/
def sbytes (n : Nat) (f : Nat → Nat) : ByteArray := ((List.range n).map f).foldl (fun r x => r.push (UInt8.ofNat x)) ByteArray.empty
theorem sbytes_congr (n : Nat) (f g : Nat → Nat) (h : ∀ i, i < n → f i = g i) : sbytes n f = sbytes n g := by
  unfold sbytes
  rw [List.map_congr_left (fun i hi => h i (List.mem_range.1 hi))]
theorem str_of_byt {P : Program} {w : World} {src dst e : TypeId} (hs : P.underlying src = some (.slice e)) (he : P.underlying e = some (.int .u8)) (hd : P.underlying dst = some .string)
    {B n c : Nat} {A : Option Addr} {f : Nat → Nat} (h : Byt w B A n c f) : (convert src dst (.slice A n c)).run P w = .ok (.string (sbytes n f)) w := by
  rw [run_convert_bytes_string w src dst e A n c hs he hd]
  rcases h with ⟨rfl, rfl, rfl⟩ | ⟨ad, rfl, h1, h2, hc⟩
  · simp [Conv.bytesToString, sbytes, Sem.run_pure]
  · have hl := run_loadCells (P := P) w ad n (fun i => bv (f i)) (fun j hj => (hc j hj).2.1)
    have e1 : ((List.range n).map fun i => bv (f i)) = ((List.range n).map fun i => (f i : Int)).map (Value.int .u8) := by simp [bv]
    rw [e1] at hl
    rw [run_bytesToString w ad n c _ hl]
    congr 2
    unfold sbytes
    rw [List.foldl_map, List.foldl_map]
    simp

theorem lit_ins (w : World) (E : TypeId) : Ins (w.alloc (.cells #[.int .u16 21, .int .u8 1, .int .u8 2, .int .u32 3] E)) (w.heap.size + 1) (some ⟨w.heap.size, 0, none⟩) 1 1 (fun _ => ⟨21, 1, 2, 3⟩) := by
  refine ⟨Cel.mk_ (by omega) (by decide) (by decide) (fun i hi => ?_), fun i _ => ⟨by show 21 < 65536; decide, by show 1 < 256; decide, by show 2 < 256; decide, by show 3 < 4294967296; decide⟩⟩
  match i, hi with
  | 0, _ => simp [icell]
  | 1, _ => simp [icell]
  | 2, _ => simp [icell]
  | 3, _ => simp [icell]

end Go.Proofs.Ytmndolojfdekdaa
