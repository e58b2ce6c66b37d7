/-
  The contract of the law's own awake of layer 2: it returns true, whatever lies in memory; and what bytes are as a string.
-/
import Derived.Test.YtfanapnhdhoppaaIc
namespace Go.Proofs.Ytfanapnhdhoppaa
open Go.RowKit

/-- n bytes as a string. -/
def sbytes (n : Nat) (f : Nat → Nat) : ByteArray := ((List.range n).map f).foldl (fun r x => r.push (UInt8.ofNat x)) ByteArray.empty
theorem sbytes_congr (n : Nat) (f g : Nat → Nat) (h : ∀ i, i < n → f i = g i) : sbytes n f = sbytes n g := by
  unfold sbytes
  rw [List.map_congr_left (fun i hi => h i (List.mem_range.1 hi))]
theorem str_of_byt {P : Program} {w : World} {src dst e : TypeId} (hs : P.underlying src = some (.slice e)) (he : P.underlying e = some (.int .u8)) (hd : P.underlying dst = some .string)
    {B n c : Nat} {A : Option Addr} {f : Nat → Nat} (h : Byt w B A n c f) : (convert src dst (.slice A n c)).run P w = .ok (.string (sbytes n f)) w := by
  rw [run_convert_bytes_string w src dst e A n c hs he hd]
  rcases h with ⟨rfl, rfl, rfl⟩ | ⟨ad, rfl, h1, h2, hc⟩
  · simp [Conv.bytesToString, sbytes, Sem.run_pure]
  · have hl := run_loadCells (P := P) w ad n (fun i => bv (f i)) (fun j hj => (hc j hj).2.1)
    have e1 : ((List.range n).map fun i => bv (f i)) = ((List.range n).map fun i => (f i : Int)).map (Value.int .u8) := by simp [bv]
    rw [e1] at hl
    rw [run_bytesToString w ad n c _ hl]
    congr 2
    unfold sbytes
    rw [List.foldl_map, List.foldl_map]
    simp

theorem lit_ins (w : World) (E : TypeId) : Ins (w.alloc (.cells #[.int .u16 21, .int .u8 1, .int .u8 2, .int .u32 3] E)) (w.heap.size + 1) (some ⟨w.heap.size, 0, none⟩) 1 1 (fun _ => ⟨21, 1, 2, 3⟩) := by
  refine ⟨Cel.mk_ (by omega) (by decide) (by decide) (fun i hi => ?_), fun i _ => ⟨by show 21 < 65536; decide, by show 1 < 256; decide, by show 2 < 256; decide, by show 3 < 4294967296; decide⟩⟩
  match i, hi with
  | 0, _ => simp [icell]
  | 1, _ => simp [icell]
  | 2, _ => simp [icell]
  | 3, _ => simp [icell]

set_option maxRecDepth 100000 in
set_option maxHeartbeats 4000000 in
theorem awake2_any (w : World) : Calls Try.prog 16 #[] w fun e w' => e = .returned (.bool true) ∧ Below w.heap.size w w' := by
  go_enter Try.func16, Try.ntmps16
  go_wp2_with fail
  refine (write_any _ _ _ _ _ (by decide) ((lit_ins w 59).more (by simp))).mono ?_
  rintro e w1 ⟨A1, c1, rfl, hown1, hB1⟩
  have hb1 : Below w.heap.size w w1 := ((Below.refl _ _).alloc (Nat.le_refl _) _).trans (hB1.mono (by simp))
  have hby := hown1.byt
  clear hown1
  go_wp2_with fail
  refine (of_any _ _ (by decide) (by decide)).mono ?_
  rintro e w2 ⟨rfl, hB2⟩
  have hb2 := hb1.trans (hB2.mono hb1.size)
  have hstr := str_of_byt (P := Try.prog) Try.underlying23 Try.underlying5 Try.underlying9 (hby.below hB2)
  have e1 : sbytes (8 * 1) (wbytes fun _ => ⟨21, 1, 2, 3⟩) = ⟨#[21, 0, 1, 2, 3, 0, 0, 0]⟩ := by decide +kernel
  have e2 : (ofF 29).1 = 25 := by decide +kernel
  have e3 : (ofF 29).2.1 = true := by decide +kernel
  have e4 : (ofF 29).2.2 = true := by decide +kernel
  rw [e1] at hstr
  rw [e2, e3, e4]
  clear e1 e2 e3 e4 hby
  go_wp2
  go_ret
  exact ⟨rfl, hb2⟩
end Go.Proofs.Ytfanapnhdhoppaa
