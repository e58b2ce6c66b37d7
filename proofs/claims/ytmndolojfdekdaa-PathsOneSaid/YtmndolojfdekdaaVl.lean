/-
  The contracts of a machine's Run, and of vm.Run.
-/
import Derived.Test.YtmndolojfdekdaaVk
import Derived.Test.YtmndolojfdekdaaDa
namespace Go.Proofs.Ytmndolojfdekdaa
open Go.RowKit

def zOut : Array Value := #[.int .u32 0, .int .i64 0, .slice none 0 0]
def outA (val st : Nat) (A : Option Addr) (n c : Nat) : Array Value := #[.int .u32 val, .int .i64 st, .slice A n c]
theorem size_out (val st : Nat) (A : Option Addr) (n c : Nat) : (Try.prog.info? 62).map (·.size) = some (outA val st A n c).size := by
  show _ = some 3
  kernel_rfl
theorem outA_one (val st : Nat) (A : Option Addr) (n c : Nat) : (outA val st A n c).all (·.oneCell') = true := by simp [outA, Value.oneCell']

set_option maxRecDepth 100000 in
set_option maxHeartbeats 4000000 in
/-- Of more or less than 64 bytes there is no run. -/
theorem mrun_size (M : Option Addr) (A : Option Addr) (n c : Nat) (w : World) (hn : n ≤ 1000000) (h : n ≠ 64) :
    Calls Try.prog 49 #[.pointer M, .slice A n c] w fun e w' => e = .returned (.tuple #[.agg zOut, .int .i64 (if n < 64 then 2 else 3)]) ∧ Below w.heap.size w w' := by
  have hb : Below w.heap.size w (w.alloc (.cells zOut 62)) := (Below.refl _ _).alloc (Nat.le_refl _) _
  unfold zOut at hb ⊢
  by_cases h1 : n < 64
  · rw [if_pos h1]
    go_enter Try.func49, Try.ntmps49
    go_wp2
    refine bodyPost_ret (v := .tuple #[.agg #[.int .u32 0, .int .i64 0, .slice none 0 0], .int .i64 2]) (by simp [results, Try.results49, go_sem]) rfl ⟨rfl, ?_⟩
    exact hb
  · rw [if_neg h1]
    have i2 : 64 < n := by omega
    go_enter Try.func49, Try.ntmps49
    go_wp2
    refine bodyPost_ret (v := .tuple #[.agg #[.int .u32 0, .int .i64 0, .slice none 0 0], .int .i64 3]) (by simp [results, Try.results49, go_sem]) rfl ⟨rfl, ?_⟩
    exact hb
set_option maxRecDepth 100000 in
set_option maxHeartbeats 4000000 in
/-- Of no machine there is no run. -/
theorem mrun_nil (A : Option Addr) (c : Nat) (w : World) :
    Calls Try.prog 49 #[.pointer none, .slice A 64 c] w fun e w' => e = .returned (.tuple #[.agg zOut, .int .i64 18]) ∧ Below w.heap.size w w' := by
  have hb : Below w.heap.size w (w.alloc (.cells zOut 62)) := (Below.refl _ _).alloc (Nat.le_refl _) _
  unfold zOut at hb ⊢
  go_enter Try.func49, Try.ntmps49
  go_wp2
  refine bodyPost_ret (v := .tuple #[.agg #[.int .u32 0, .int .i64 0, .slice none 0 0], .int .i64 18]) (by simp [results, Try.results49, go_sem]) rfl ⟨rfl, ?_⟩
  exact hb

/-- A machine of a program that may run. -/
def Mach (w : World) (B mb : Nat) (n : Nat) (g : Nat → IV) : Prop :=
  ∃ A c, mb < B ∧ RowAt w mb #[.slice A n c] 144 ∧ Cel w B 6 A n c (kcell g) ∧ (∀ i, i < n → (g i).ok) ∧ 0 < n ∧ n ≤ 4096 ∧ (∀ i, i < n → alone (g i) (n - 1 - i) = 0) ∧ isRet (g (n - 1)) = true
theorem Mach.below {w w' : World} {B B' mb n : Nat} {g : Nat → IV} (h : Mach w B mb n g) (hb : Below B w w') (hB : B ≤ B') : Mach w' B' mb n g := by
  obtain ⟨A, c, h0, h1, h2, h3⟩ := h
  exact ⟨A, c, by omega, h1.below hb h0, (h2.below hb).more hB, h3⟩
set_option maxRecDepth 100000 in
set_option maxHeartbeats 4000000 in
theorem mrun_ok (mb n : Nat) (g : Nat → IV) (A2 : Option Addr) (c2 : Nat) (f : Nat → Nat) (w : World) (val : Nat) (sF : VS) (hm : Mach w w.heap.size mb n g)
    (hby : Byt w w.heap.size A2 64 c2 f) (hf : ∀ i, f i < 256) (hrun : runF g f n zst = some (val, sF)) :
    Calls Try.prog 49 #[.pointer (some ⟨mb, 0, none⟩), .slice A2 64 c2] w fun e w' => ∃ A' c', e = .returned (.tuple #[.agg (outA val sF.st A' sF.ld.length c'), .int .i64 0]) ∧
      OwnC w' w.heap.size 3 1 A' sF.ld.length c' (lcell sF.ld) ∧ Below w.heap.size w w' := by
  obtain ⟨A, c, hmb, hrow, hcel, hok, h0, h1, hal, hlast⟩ := hm
  have hb0 : Below w.heap.size w (w.alloc (.cells zOut 62)) := (Below.refl _ _).alloc (Nat.le_refl _) _
  have ho0 : RowAt (w.alloc (.cells zOut 62)) w.heap.size zOut 62 := heap_alloc_last w _
  have hs0 : (w.alloc (.cells zOut 62)).heap.size = w.heap.size + 1 := by simp
  have HRUN := Lib.hid (run_any A n c g A2 c2 f (w.alloc (.cells zOut 62)) val sF ((hcel.below hb0).more (by omega)) hok h1 h0 hal hlast ((hby.below hb0).more (by omega)) hf hrun)
  have q0 : (w.alloc (.cells zOut 62)).cell? ⟨mb, 0, none⟩ = some (.slice A n c) := (hrow.below hb0 hmb).cell 0 _ rfl
  have hn0 : ((n : Int) == 0) = false := by rw [beq_eq_false_iff_ne]; omega
  have HB0 := Lib.hid hb0
  have HO0 := Lib.hid ho0
  have HS0 := Lib.hid hs0
  clear hrow hcel hok hal hlast hby hf hrun hb0 ho0 hs0
  have hzO : zOut = #[.int .u32 0, .int .i64 0, .slice none 0 0] := rfl
  rw [hzO] at q0 HRUN
  clear hzO
  go_enter Try.func49, Try.ntmps49
  go_wp2_with fail
  refine (HRUN.out).mono ?_
  rintro e w1 ⟨A', c', rfl, hown, hB1⟩
  have ho1 : RowAt w1 w.heap.size zOut 62 := HO0.out.below hB1 (by have := HS0.out; unfold zOut at this; omega)
  have hbe : Below w.heap.size w (w1.setRow w.heap.size (outA val sF.st A' sF.ld.length c')) := below_row (HB0.out.trans (hB1.mono (by simp))) (Nat.le_refl _) _
  have hrow : (w1.setRow w.heap.size (outA val sF.st A' sF.ld.length c')).heap[w.heap.size]? = some (.cells (outA val sF.st A' sF.ld.length c') 62) := setRow_heap w1 _ _ _ _ _ ho1
  have hown2 : OwnC (w1.setRow w.heap.size (outA val sF.st A' sF.ld.length c')) w.heap.size 3 1 A' sF.ld.length c' (lcell sF.ld) := by
    obtain ⟨z1, z2⟩ := hown
    refine ⟨z1, ?_⟩
    rcases z2 with z2 | ⟨gg, cap, cur, hv, hgg, hh, r⟩
    · exact Or.inl z2
    · refine Or.inr ⟨gg, cap, cur, hv, ?_, ?_, r⟩
      · have := HS0.out; unfold zOut at this; omega
      · rw [setRow_other w1 w.heap.size gg _ (by have := HS0.out; unfold zOut at this; omega)]; exact hh
  have HO1 := Lib.hid ho1
  have HBE := Lib.hid hbe
  have HROW := Lib.hid hrow
  have HOWN := Lib.hid hown2
  clear ho1 hbe hrow hown2 hown hB1
  go_wp2_with (refine wpList_store_row (by rfl) 62 _ _ (by rfl) w.heap.size (outA val sF.st A' sF.ld.length c') (by rfl) (by rfl) _ zOut HO1.out (size_out _ _ _ _ _) (by rfl) (outA_one _ _ _ _ _) ?_)
  exact bodyPost_ret (results_cell_row2 Try.results49 _ _ w.heap.size _ (outA val sF.st A' sF.ld.length c') (0, 0) _ (.int .i64 0) (by rfl) (by rfl) HROW.out Try.underlying62 (by rfl) (size_out _ _ _ _ _)) rfl ⟨A', c', rfl, HOWN.out, HBE.out⟩
end Go.Proofs.Ytmndolojfdekdaa
