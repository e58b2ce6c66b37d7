/-
  The contract of vm.Run.
-/
import Derived.Test.YtmndolojfdekdaaVl
namespace Go.Proofs.Ytmndolojfdekdaa
open Go.RowKit

theorem OwnC.setRow_ {w : World} {base z n c g : Nat} {E : TypeId} {A : Option Addr} {F : Nat → Value} (h : OwnC w base E z A n c F) (hg : g < base) (cs : Array Value) : OwnC (w.setRow g cs) base E z A n c F := by
  obtain ⟨h1, h2⟩ := h
  refine ⟨h1, ?_⟩
  rcases h2 with h2 | ⟨gg, cap, cur, hv, hgg, hh, r⟩
  · exact Or.inl h2
  · exact Or.inr ⟨gg, cap, cur, hv, hgg, by rw [setRow_other w g gg cs (by omega)]; exact hh, r⟩
theorem outA_zero : outA 0 0 none 0 0 = zOut := rfl

set_option maxRecDepth 100000 in
set_option maxHeartbeats 4000000 in
theorem vrun_err (A : Option Addr) (n c : Nat) (g : Nat → IV) (A2 : Option Addr) (n2 c2 : Nat) (w : World) (hr : Ins w w.heap.size A n c g) (he : (checkF g n).2 ≠ 0) :
    Calls Try.prog 27 #[.slice A n c, .slice A2 n2 c2] w fun e w' => e = .returned (.tuple #[.agg zOut, .int .i64 ((checkF g n).2 : Nat)]) ∧ Below w.heap.size w w' := by
  have hb0 : Below w.heap.size w (w.alloc (.cells zOut 62)) := (Below.refl _ _).alloc (Nat.le_refl _) _
  have ho0 : RowAt (w.alloc (.cells zOut 62)) w.heap.size zOut 62 := heap_alloc_last w _
  have HN := Lib.hid (new_err A n c g (w.alloc (.cells zOut 62)) ((hr.below hb0).more (by simp)) he)
  obtain ⟨y, hy⟩ : ∃ y, (checkF g n).2 = y := ⟨_, rfl⟩
  rw [hy] at HN he ⊢
  have t1 : ((y : Int) != 0) = true := by simpa using he
  have HB0 := Lib.hid hb0
  have HO0 := Lib.hid ho0
  clear hr he hy hb0 ho0
  have hzO : zOut = #[.int .u32 0, .int .i64 0, .slice none 0 0] := rfl
  rw [hzO] at HN
  clear hzO
  go_enter Try.func27, Try.ntmps27
  go_wp2_with (first
    | (go_at_call 48
       refine (HN.out).mono ?_
       rintro e w1 ⟨rfl, hB1⟩
       have ho1 : RowAt w1 w.heap.size zOut 62 := HO0.out.below hB1 (by simp)
       have hbe : Below w.heap.size w (w1.setRow w.heap.size zOut) := below_row (HB0.out.trans (hB1.mono (by simp))) (Nat.le_refl _) _
       have hrow : (w1.setRow w.heap.size zOut).heap[w.heap.size]? = some (.cells zOut 62) := setRow_heap w1 _ _ _ _ _ ho1
       have HO1 := Lib.hid ho1
       have HBE := Lib.hid hbe
       have HROW := Lib.hid hrow
       clear ho1 hbe hrow)
    | (refine wpList_store_row (by rfl) 62 _ _ (by rfl) w.heap.size zOut (by rfl) (by rfl) _ zOut HO1.out (size_out 0 0 none 0 0) (by rfl) (outA_one 0 0 none 0 0) ?_))
  exact bodyPost_ret (results_cell_row2 Try.results27 _ _ w.heap.size _ zOut (0, 0) _ (.int .i64 y) (by rfl) (by rfl) HROW.out Try.underlying62 (by rfl) (size_out 0 0 none 0 0)) rfl ⟨rfl, HBE.out⟩

set_option maxRecDepth 100000 in
set_option maxHeartbeats 4000000 in
theorem vrun_size (A : Option Addr) (n c : Nat) (g : Nat → IV) (A2 : Option Addr) (n2 c2 : Nat) (w : World) (hr : Ins w w.heap.size A n c g) (he : (checkF g n).2 = 0) (hn : n2 ≤ 1000000) (h : n2 ≠ 64) :
    Calls Try.prog 27 #[.slice A n c, .slice A2 n2 c2] w fun e w' => e = .returned (.tuple #[.agg zOut, .int .i64 (if n2 < 64 then 2 else 3)]) ∧ Below w.heap.size w w' := by
  have hb0 : Below w.heap.size w (w.alloc (.cells zOut 62)) := (Below.refl _ _).alloc (Nat.le_refl _) _
  have ho0 : RowAt (w.alloc (.cells zOut 62)) w.heap.size zOut 62 := heap_alloc_last w _
  have HN := Lib.hid (new_ok A n c g (w.alloc (.cells zOut 62)) ((hr.below hb0).more (by simp)) he)
  have HS := Lib.hid (fun M W => mrun_size M A2 n2 c2 W hn h)
  obtain ⟨y, hy⟩ : ∃ y : Int, (if n2 < 64 then (2 : Int) else 3) = y := ⟨_, rfl⟩
  rw [hy] at HS ⊢
  have HB0 := Lib.hid hb0
  have HO0 := Lib.hid ho0
  clear hr he hy hb0 ho0 hn h
  have hzO : zOut = #[.int .u32 0, .int .i64 0, .slice none 0 0] := rfl
  have HN2 := HN
  rw [hzO] at HN
  clear hzO
  go_enter Try.func27, Try.ntmps27
  go_wp2_with (first
    | (go_at_call 48
       refine (HN.out).mono ?_
       rintro e w1 ⟨mb, A', c', rfl, hmb, hmr, hmo, hB1⟩
       have hz1 := hB1.size)
    | (go_at_call 49
       refine (HS.out _ _).mono ?_
       rintro e w2 ⟨rfl, hB2⟩
       have ho1 : RowAt w2 w.heap.size zOut 62 := (HO0.out.below hB1 (by simp)).below hB2 (by simp at hz1; omega)
       have hbe : Below w.heap.size w (w2.setRow w.heap.size zOut) := below_row ((HB0.out.trans (hB1.mono (by simp))).trans (hB2.mono (by simp at hz1; omega))) (Nat.le_refl _) _
       have hrow : (w2.setRow w.heap.size zOut).heap[w.heap.size]? = some (.cells zOut 62) := setRow_heap w2 _ _ _ _ _ ho1
       have HO1 := Lib.hid ho1
       have HBE := Lib.hid hbe
       have HROW := Lib.hid hrow
       clear ho1 hbe hrow)
    | (refine wpList_store_row (by rfl) 62 _ _ (by rfl) w.heap.size zOut (by rfl) (by rfl) _ zOut HO1.out (size_out 0 0 none 0 0) (by rfl) (outA_one 0 0 none 0 0) ?_))
  exact bodyPost_ret (results_cell_row2 Try.results27 _ _ w.heap.size _ zOut (0, 0) _ (.int .i64 y) (by rfl) (by rfl) HROW.out Try.underlying62 (by rfl) (size_out 0 0 none 0 0)) rfl ⟨rfl, HBE.out⟩

set_option maxRecDepth 100000 in
set_option maxHeartbeats 4000000 in
theorem vrun_ok (A : Option Addr) (n c : Nat) (g : Nat → IV) (A2 : Option Addr) (c2 : Nat) (f : Nat → Nat) (w : World) (val : Nat) (sF : VS) (hr : Ins w w.heap.size A n c g) (he : (checkF g n).2 = 0)
    (hby : Byt w w.heap.size A2 64 c2 f) (hf : ∀ i, f i < 256) (hrun : runF g f n zst = some (val, sF)) :
    Calls Try.prog 27 #[.slice A n c, .slice A2 64 c2] w fun e w' => ∃ A' c', e = .returned (.tuple #[.agg (outA val sF.st A' sF.ld.length c'), .int .i64 0]) ∧ OwnC w' w.heap.size 3 1 A' sF.ld.length c' (lcell sF.ld) ∧ Below w.heap.size w w' := by
  have hb0 : Below w.heap.size w (w.alloc (.cells zOut 62)) := (Below.refl _ _).alloc (Nat.le_refl _) _
  have ho0 : RowAt (w.alloc (.cells zOut 62)) w.heap.size zOut 62 := heap_alloc_last w _
  have HN := Lib.hid (new_ok A n c g (w.alloc (.cells zOut 62)) ((hr.below hb0).more (by simp)) he)
  have HCF := Lib.hid (checkF_facts he)
  have HOK := Lib.hid hr.2
  have HY := Lib.hid hby
  have HMR := Lib.hid (fun (mb : Nat) (W : World) hm hb => mrun_ok mb n g A2 c2 f W val sF hm hb hf hrun)
  have HB0 := Lib.hid hb0
  have HO0 := Lib.hid ho0
  clear hr he hby hf hrun hb0 ho0
  have hzO : zOut = #[.int .u32 0, .int .i64 0, .slice none 0 0] := rfl
  rw [hzO] at HN
  clear hzO
  go_enter Try.func27, Try.ntmps27
  go_wp2_with (first
    | (go_at_call 48
       refine (HN.out).mono ?_
       rintro e w1 ⟨mb, A', c', rfl, hmb, hmr, hmo, hB1⟩
       have hz1 := hB1.size
       have hz2 : w.heap.size + 1 ≤ w1.heap.size := by simp at hz1; omega
       have hM : Mach w1 w1.heap.size mb n g := ⟨A', c', hmr.lt, hmr, hmo.cel, HOK.out, HCF.out.1, HCF.out.2.1, HCF.out.2.2.1, HCF.out.2.2.2⟩
       have hy1 : Byt w1 w1.heap.size A2 64 c2 f := (HY.out.below (HB0.out.trans (hB1.mono (by simp)))).more (by omega))
    | (go_at_call 49
       refine (HMR.out _ _ hM hy1).mono ?_
       rintro e w2 ⟨A5, c5, rfl, hown, hB2⟩
       have ho1 : RowAt w2 w.heap.size zOut 62 := (HO0.out.below hB1 (by simp)).below hB2 (by omega)
       have hbe : Below w.heap.size w (w2.setRow w.heap.size (outA val sF.st A5 sF.ld.length c5)) := below_row ((HB0.out.trans (hB1.mono (by simp))).trans (hB2.mono (by omega))) (Nat.le_refl _) _
       have hrow : (w2.setRow w.heap.size (outA val sF.st A5 sF.ld.length c5)).heap[w.heap.size]? = some (.cells (outA val sF.st A5 sF.ld.length c5) 62) := setRow_heap w2 _ _ _ _ _ ho1
       have hown2 := (hown.setRow_ (show w.heap.size < w1.heap.size by omega) (outA val sF.st A5 sF.ld.length c5)).lower (show w.heap.size ≤ w1.heap.size by omega)
       have HO1 := Lib.hid ho1
       have HBE := Lib.hid hbe
       have HROW := Lib.hid hrow
       have HOWN := Lib.hid hown2
       clear ho1 hbe hrow hown hown2)
    | (refine wpList_store_row (by rfl) 62 _ _ (by rfl) w.heap.size (outA val sF.st A5 sF.ld.length c5) (by rfl) (by rfl) _ zOut HO1.out (size_out _ _ _ _ _) (by rfl) (outA_one _ _ _ _ _) ?_))
  exact bodyPost_ret (results_cell_row2 Try.results27 _ _ w.heap.size _ (outA val sF.st A5 sF.ld.length c5) (0, 0) _ (.int .i64 0) (by rfl) (by rfl) HROW.out Try.underlying62 (by rfl) (size_out _ _ _ _ _)) rfl ⟨A5, c5, rfl, HOWN.out, HBE.out⟩
end Go.Proofs.Ytmndolojfdekdaa
