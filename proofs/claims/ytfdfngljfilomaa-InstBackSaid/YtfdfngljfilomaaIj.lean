/-
  Small words for the laws of layer 2: the reference's Read where there is an error; an empty row; that what is written is read as it was.
-/
import Derived.Test.YtfdfngljfilomaaIh
namespace Go.Proofs.Ytfdfngljfilomaa
open Go.RowKit

set_option maxHeartbeats 1000000 in
theorem refRead_short (A : Option Addr) (n c : Nat) (w : World) (h1 : n ≤ 32768) (h8 : n % 8 ≠ 0) :
    Calls Try.prog 32 #[.slice A n c] w fun e w' => e = .returned (.tuple #[.slice none 0 0, .int .i64 2]) ∧ w = w' := by
  have t1 : ((n : Int) % 8 != 0) = true := by rw [bne_iff_ne]; omega
  clear h8
  go_enter Try.func32, Try.ntmps32
  go_wp2
  go_ret2
  exact ⟨rfl, rfl⟩
theorem emptyB (w : World) (E : TypeId) (f : Nat → Nat) (H : Nat) (hH : w.heap.size = H) : Own_ (w.alloc (.cells #[] E)) H E (some ⟨H, 0, none⟩) 0 0 f := by
  subst hH
  exact ⟨by simpa using World.ownsRow_lit (base := w.heap.size) (e := E) (size := 1) w #[] 0 (Nat.le_refl _) (by decide) rfl, fun i h => by omega⟩
theorem ival_bytes (v : IV) (h : v.ok) (F : Nat → Nat) (hF : ∀ i, i < 8 → F i = ibytes v i) : ival F = v := by
  obtain ⟨h1, h2, h3, h4⟩ := h
  unfold ival
  rw [hF 0 (by decide), hF 1 (by decide), hF 2 (by decide), hF 3 (by decide), hF 4 (by decide), hF 5 (by decide), hF 6 (by decide), hF 7 (by decide)]
  obtain ⟨c, t, f, k⟩ := v
  simp only [ibytes] at *
  simp
  omega
theorem bytes_ival (F : Nat → Nat) (h : ∀ i, i < 8 → F i < 256) (i : Nat) (hi : i < 8) : ibytes (ival F) i = F i := by
  have h0 := h 0 (by decide); have h1 := h 1 (by decide); have h2 := h 2 (by decide); have h3 := h 3 (by decide); have h4 := h 4 (by decide); have h5 := h 5 (by decide); have h6 := h 6 (by decide); have h7 := h 7 (by decide)
  match i, hi with
  | 0, _ => simp [ibytes, ival]; omega
  | 1, _ => simp [ibytes, ival]; omega
  | 2, _ => simp [ibytes, ival]
  | 3, _ => simp [ibytes, ival]
  | 4, _ => simp [ibytes, ival]; omega
  | 5, _ => simp [ibytes, ival]; omega
  | 6, _ => simp [ibytes, ival]; omega
  | 7, _ => simp [ibytes, ival]; omega
theorem read_write (g : Nat → IV) (n : Nat) (hg : ∀ i, i < n → (g i).ok) (i : Nat) (hi : i < n) : rg (wbytes g) i = g i :=
  ival_bytes (g i) (hg i hi) _ (fun j hj => by unfold wbytes; rw [show (8 * i + j) / 8 = i from by omega, show (8 * i + j) % 8 = j from by omega])
theorem write_read (f : Nat → Nat) (m : Nat) (hf : ∀ j, j < 8 * m → f j < 256) (j : Nat) (hj : j < 8 * m) : wbytes (rg f) j = f j := by
  unfold wbytes rg
  rw [bytes_ival _ (fun i hi => hf _ (by omega)) _ (Nat.mod_lt _ (by decide))]
  congr 1
  omega
theorem icell_congr (g h : Nat → IV) (n : Nat) (e : ∀ i, i < n → g i = h i) : ∀ j, j < n * 4 → icell g j = icell h j := fun j hj => by
  unfold icell
  rw [e (j / 4) (by omega)]
end Go.Proofs.Ytfdfngljfilomaa
