/-
  Layer 16: the laws' own rule: a document's rule as the program's.
-/
import Derived.Test.YtcembcicpmhpkaaGreatDoorRb
import Derived.Test.YtcembcicpmhpkaaGreatDoorOd
import Derived.Test.YtcembcicpmhpkaaGreatDoorMem
import Derived.Deep.RegionHeld3
namespace Go.Proofs.YtcembcicpmhpkaaGreatDoor
open Go.RowKit Go.Shelf
set_option linter.unusedVariables false

theorem bTr {w w' w'' : World} (h : Below w.heap.size w w') (h2 : Below w'.heap.size w' w'') : Below w.heap.size w w'' := h.trans (h2.mono h.size)
theorem OwnC.set_low {w : World} {base z n c g : Nat} {E : TypeId} {A : Option Addr} {F : Nat → Value} (h : OwnC w base E z A n c F) (hg : g < base) (i : Nat) (v : Value) : OwnC (w.setCell ⟨g, i, none⟩ v) base E z A n c F := by
  obtain ⟨h1, h2⟩ := h
  refine ⟨h1, ?_⟩
  rcases h2 with h2 | ⟨gg, cap, cur, hv, hgg, hh, r⟩
  · exact Or.inl h2
  · exact Or.inr ⟨gg, cap, cur, hv, hgg, (Below.heap_setCell w ⟨g, i, none⟩ v gg (by show gg ≠ g; omega)).trans hh, r⟩
theorem step_cellsR {P : Program} {w : World} {ops : Array Oper} {o : Oper} {a : Act} {K : Act → World → Prop} {Q : Exit → Act → World → Prop} {R : Prop} (hgd : o.guard = none) (s x : Operand) (t E : TypeId)
    (ho : o.op = .call { callee := .builtin .append, args := #[s, x], argTypes := #[t, t] })
    (ht : P.underlying t = some (.slice E)) {zv : Value} {z by_ : Nat} (hinfo : (P.info? E).map (fun i => (i.zero, i.size, i.bytes)) = some (some zv, z, by_)) (hzs : zv.cells.size = z) (hz : 0 < z)
    {base n c m d : Nat} {A C : Option Addr} {F G : Nat → Value} (hs : a.eval s = .slice A n c) (hown : OwnC w base E z A n c F) (hx : a.eval x = .slice C m d) {B : Nat} (hr : Cel w B z C m d G) (h1c : ∀ i, i < m * z → (G i).oneCell' = true)
    (hn : n + m ≤ maxLen) (hby : (n + m) * by_ ≤ 140737488355328) (hbase : base ≤ w.heap.size) (N : Nat) (hN : n + m = N) (H : Nat → Value) (hH : ∀ i, i < N * z → catC (n * z) F G i = H i)
    (h : ∀ A' c' w', OwnC w' base E z A' N c' H → Below base w w' → K (a.put o.dst (.slice A' N c')) w') :
    if Region.wanted o (yielded ops a.tmps) = true then Oper.wp P o a w K Q else R := by
  subst hN
  have hw : Region.wanted o (yielded ops a.tmps) = true := by simp [Region.wanted, hgd]
  rw [if_pos hw]
  exact wp_cells w s x t E ho ht hinfo hzs hz hs hown hx hr h1c hn hby hbase fun A' c' w' h1 _ h3 => h A' c' w' (h1.congr hH) h3
theorem infoC2 : (Tryz.prog.info? 62).map (fun i => (i.zero, i.size, i.bytes)) = some (some (.agg zN), 4, 32) := by kernel_rfl
/-- The cells of a row of conditions. -/
def crow (c : CD) : List Value := [.int .i64 c.a, .int .i64 c.o, .int .u64 c.m, .int .u64 c.v]
def ccell (C : Nat → CD) (q : Nat) : Value := (crow (C (q / 4))).getD (q % 4) undef
theorem ccell_at (C : Nat → CD) (i c : Nat) (hc : c < 4) : ccell C (i * 4 + c) = (crow (C i)).getD c undef := by
  unfold ccell
  rw [show (i * 4 + c) / 4 = i by omega, show (i * 4 + c) % 4 = c by omega]
theorem crow_one (r : CD) (c : Nat) (hc : c < 1 * 4) : ((crow r).getD c undef).oneCell' = true := by
  have h : c = 0 ∨ c = 1 ∨ c = 2 ∨ c = 3 := by omega
  rcases h with rfl | rfl | rfl | rfl <;> rfl
theorem one_cond (w : World) (r : CD) (E : TypeId) : Cel (w.alloc (.cells #[.int .i64 r.a, .int .i64 r.o, .int .u64 r.m, .int .u64 r.v] E)) (w.heap.size + 1) 4 (some ⟨w.heap.size, 0, none⟩) 1 1 (fun c => (crow r).getD c undef) :=
  Cel.mk_ (by omega) (by decide) (by decide) (fun c hc => by
    rw [Nat.zero_add]
    have rr := RowC.new w #[.int .i64 r.a, .int .i64 r.o, .int .u64 r.m, .int .u64 r.v] E _ rfl
    have h : c = 0 ∨ c = 1 ∨ c = 2 ∨ c = 3 := by omega
    rcases h with rfl | rfl | rfl | rfl
    all_goals exact rr.cell _ _ rfl)
theorem ccell_cat (C : Nat → CD) (k : Nat) (r : CD) (hr : C k = r) : ∀ i, i < (k + 1) * 4 → catC (k * 4) (ccell C) (fun c => (crow r).getD c undef) i = ccell C i := fun i hi => by
  unfold catC
  by_cases h : i < k * 4
  · rw [if_pos h]
  · rw [if_neg h]
    obtain ⟨c, rfl⟩ : ∃ c, i = k * 4 + c := ⟨i - k * 4, by omega⟩
    rw [Nat.add_sub_cancel_left, ccell_at C k c (by omega), hr]
theorem set4U {w : World} {b : Nat} {t : TypeId} {x0 x1 x2 x3 y0 y1 y2 y3 : Value} (h : RowC w b #[x0, x1, x2, x3] t) : RowC ((((w.setCell ⟨b, 0, none⟩ y0).setCell ⟨b, 1, none⟩ y1).setCell ⟨b, 2, none⟩ y2).setCell ⟨b, 3, none⟩ y3) b #[y0, y1, y2, y3] t := (((h.set 0 y0).set 1 y1).set 2 y2).set 3 y3
abbrev rulA (nm : ByteArray) (k u : Int) (A : Option Addr) (n c : Nat) : Array Value := #[.string nm, .int .i64 k, .int .i64 u, .slice A n c]
set_option maxRecDepth 100000 in
set_option maxHeartbeats 8000000 in
theorem rule16_any (nm : ByteArray) (k u : Int) (A : Option Addr) (n c : Nat) (C : Nat → CD) (w : World) (hn : n ≤ 12) (hC : ConA w A n C) :
    Calls Tryz.prog 23 #[.agg (rulA nm k u A n c)] w fun e w' => ∃ A' c', e = .returned (.agg (rulA nm k u A' n c')) ∧ OwnC w' w.heap.size 62 4 A' n c' (ccell C) ∧ Below w.heap.size w w' := by
  obtain ⟨B, hBs⟩ : ∃ B, w.heap.size = B := ⟨_, rfl⟩
  obtain ⟨W0, hW0⟩ : ∃ W, (w.alloc (.cells (rulA nm k u A n c) 47)).alloc (.cells (rulA ⟨#[]⟩ 0 0 none 0 0) 52) = W := ⟨_, rfl⟩
  obtain ⟨W1, hW1⟩ : ∃ W, W0.alloc (.cells (rulA nm k u none 0 0) 52) = W := ⟨_, rfl⟩
  have hs0 : W0.heap.size = B + 2 := by rw [← hW0, ← hBs]; simp
  have hs1 : W1.heap.size = B + 3 := by rw [← hW1]; simp; omega
  have HB := Lib.hid (show Below B w W1 by rw [← hW1, ← hW0, ← hBs]; exact (((Below.refl _ _).alloc (Nat.le_refl _) _).alloc (by simp) _).alloc (by simp; omega) _)
  have HP := Lib.hid (show RowC W1 B (rulA nm k u A n c) 47 by rw [← hW1, ← hW0, ← hBs]; exact ((RowC.new _ _ _ _ rfl).alloc _).alloc _)
  have HP0 := Lib.hid (show RowC W0 B (rulA nm k u A n c) 47 by rw [← hW0, ← hBs]; exact (RowC.new _ _ _ _ rfl).alloc _)
  have HR := Lib.hid (show RowC W1 (B + 1) (rulA ⟨#[]⟩ 0 0 none 0 0) 52 by rw [← hW1, ← hW0, ← hBs]; exact (RowC.new _ _ _ _ (by simp)).alloc _)
  have HX := Lib.hid (show RowC W1 (B + 2) (rulA nm k u none 0 0) 52 by rw [← hW1]; exact RowC.new _ _ _ _ hs0.symm)
  have HC := Lib.hid hC
  have HW0 := Lib.hid hW0
  have HW1 := Lib.hid hW1
  have HS := Lib.hid (And.intro hs0 hs1)
  have HBS := Lib.hid hBs
  clear hW0 hW1 hC
  have z0 := HP0.out.cell 0 (.string nm) rfl
  have z1 := HP0.out.cell 1 (.int .i64 k) rfl
  have z2 := HP0.out.cell 2 (.int .i64 u) rfl
  have z3 := HP0.out.cell 3 (.slice A n c) rfl
  clear hs1
  go_enter Tryz.func23, Tryz.ntmps23
  go_upto_region 1 with fail
  rw [HW0.out]
  go_upto_region 2 with fail
  rw [HW1.out]
  clear z0 z1 z2 z3
  go_wp2
  go_loopw [4] (fun i wr => ∃ (q : Nat) (A' : Option Addr) (c' : Nat), q ≤ n ∧ i = .int .i64 q ∧ Hid (OwnC wr (B + 3) 62 4 A' q c' (ccell C) ∧ RowC wr (B + 2) (rulA nm k u A' q c') 52 ∧ RowC wr B (rulA nm k u A n c) 47 ∧ RowC wr (B + 1) (rulA ⟨#[]⟩ 0 0 none 0 0) 52 ∧ Below B w wr ∧ B + 3 ≤ wr.heap.size))
    (fun i _ => n - (intOf i).toNat)
  case atStart => exact ⟨0, none, 0, Nat.zero_le _, rfl, Lib.hid ⟨OwnC.nil_, HX.out, HP.out, HR.out, HB.out, by rw [HS.out.2]; exact Nat.le_refl _⟩⟩
  case round =>
    obtain ⟨q, A', c', hq, rfl, HI⟩ := hrel
    by_cases hlt : q < n
    · have hcb := HC.out.below HI.out.2.2.2.2.1 (by rw [HBS.out]; exact Nat.le_refl _)
      rcases HC.out with h0 | ⟨bb, o, rfl, hbl, _⟩
      · omega
      rcases hcb with h0 | ⟨bb', o', he, hbl', hcs⟩
      · omega
      obtain ⟨rfl, rfl⟩ : bb = bb' ∧ o = o' := by simpa using he
      obtain ⟨q0, q1, q2, q3, _, _⟩ := hcs q hlt
      obtain ⟨r, hr⟩ : ∃ r, C q = r := ⟨_, rfl⟩
      have HCat := Lib.hid (ccell_cat C q r hr)
      rw [hr] at q0 q1 q2 q3
      rw [Nat.add_zero] at q0
      have i1 : (0 : Int) ≤ (q : Int) := by omega
      have i2 : (q : Int) < (n : Int) := by omega
      have x3 := HI.out.2.1.cell 3 (.slice A' q c') rfl
      have p3 := HI.out.2.2.1.cell 3 (.slice (some ⟨bb, o, none⟩) n c) rfl
      have hk0 : Below wr.heap.size wr wr.drew := (Below.refl _ wr).drew
      have hbb : bb < B := by rw [← HBS.out]; exact hbl
      have hk00 : Below (B + 3) wr wr.drew := (Below.refl _ wr).drew
      have HS0 : Hid (∀ X, Below (B + 3) wr X → X.cell? ⟨B + 2, 3, none⟩ = some (.slice A' q c') ∧ X.cell? ⟨B, 3, none⟩ = some (.slice (some ⟨bb, o, none⟩) n c) ∧ X.cell? ⟨bb, o + q * 4, none⟩ = some (.int .i64 r.a) ∧ X.cell? ⟨bb, o + q * 4 + 1, none⟩ = some (.int .i64 r.o) ∧ X.cell? ⟨bb, o + q * 4 + 2, none⟩ = some (.int .u64 r.m) ∧ X.cell? ⟨bb, o + q * 4 + 3, none⟩ = some (.int .u64 r.v)) :=
        Lib.hid fun X hX => ⟨(HI.out.2.1.below hX (by omega)).cell 3 _ rfl, (HI.out.2.2.1.below hX (by omega)).cell 3 _ rfl, (hX.cell (p := ⟨bb, o + q * 4, none⟩) (Nat.lt_of_lt_of_le hbb (by omega))).trans q0, (hX.cell (p := ⟨bb, o + q * 4 + 1, none⟩) (Nat.lt_of_lt_of_le hbb (by omega))).trans q1, (hX.cell (p := ⟨bb, o + q * 4 + 2, none⟩) (Nat.lt_of_lt_of_le hbb (by omega))).trans q2, (hX.cell (p := ⟨bb, o + q * 4 + 3, none⟩) (Nat.lt_of_lt_of_le hbb (by omega))).trans q3⟩
      clear hcs hr he q0 q1 q2 q3 hs0 hBs
      go_wp2_with fail
      obtain ⟨d0, d1, d2, d3, d4, d5⟩ := HS0.out wr (Below.refl _ _)
      clear HP0 HW0 HW1 HP HR HX
      go_region_law
        (first
          | (go_simp
             refine (conds16_any _ _ _ _ _).mono ?_
             rintro e w7 ⟨rfl, hB7⟩
             have hk1 : Below wr.heap.size wr w7 := by first | exact hB7 | exact bTr hk0 hB7
             have hk11 := hk1.mono HI.out.2.2.2.2.2
             have d0 := (HS0.out w7 hk11).1
             have d1 := (HS0.out w7 hk11).2.1
             have d0' : ∀ ob, (w7.alloc ob).cell? ⟨B + 2, 3, none⟩ = some (.slice A' q c') := fun ob => ((HI.out.2.1.below hk11 (by omega)).alloc ob).cell 3 _ rfl)
          | (refine step_cellsR (by rfl) _ _ _ 62 (by rfl) Tryz.underlying50 infoC2 (by rfl) (by decide) (by rfl) ((HI.out.1.below hk1 (Nat.le_refl _)).alloc _) (by rfl) (one_cond w7 r 62) (crow_one r) (by unfold maxLen; omega) (by omega) (by have := hk1.size; have := HI.out.2.2.2.2.2; simp; omega) (q + 1) rfl (ccell C) HCat.out ?_
             rintro A2 c2 w2 hown2 hB2
             have hk2 : Below (B + 3) wr w2 := (hk1.mono HI.out.2.2.2.2.2).trans (((Below.refl _ w7).alloc (by have := hk1.size; have := HI.out.2.2.2.2.2; omega) _).trans hB2)
             have hx2 := HI.out.2.1.below hk2 (by omega)
             have x3 := hx2.cell 3 (.slice A' q c') rfl
             have y3 := hx2.frozen 3
             skip)
          | (refine step_cellsR (by rfl) _ _ _ 62 (by rfl) Tryz.underlying50 infoC2 (by rfl) (by decide) (by rfl) (((HI.out.1.below hk1 (Nat.le_refl _)).alloc _).drew) (by rfl) (one_cond w7 r 62) (crow_one r) (by unfold maxLen; omega) (by omega) (by have := hk1.size; have := HI.out.2.2.2.2.2; simp; omega) (q + 1) rfl (ccell C) HCat.out ?_
             rintro A2 c2 w2 hown2 hB2
             have hk2 : Below (B + 3) wr w2 := (hk1.mono HI.out.2.2.2.2.2).trans (((Below.refl _ w7).alloc (by have := hk1.size; have := HI.out.2.2.2.2.2; omega) _).trans hB2)
             have hx2 := HI.out.2.1.below hk2 (by omega)
             have x3 := hx2.cell 3 (.slice A' q c') rfl
             have y3 := hx2.frozen 3))
      all_goals go_wp2
      all_goals exact ⟨⟨q + 1, A2, c2, by omega, by go_num, Lib.hid ⟨hown2.set_low (by omega) 3 _, hx2.set 3 (.slice A2 (q + 1) c2), (HI.out.2.2.1.below hk2 (by omega)).setOther 3 _ (by omega), (HI.out.2.2.2.1.below hk2 (by omega)).setOther 3 _ (by omega), (HI.out.2.2.2.2.1.trans (hk2.mono (by omega))).setCell (by show B ≤ B + 2; omega) _, by have := hk2.size; have := HI.out.2.2.2.2.2; simp; omega⟩⟩, by simp [intOf]; omega⟩
    · obtain rfl : q = n := by omega
      have x0 := HI.out.2.1.cell 0 (.string nm) rfl
      have x1 := HI.out.2.1.cell 1 (.int .i64 k) rfl
      have x2 := HI.out.2.1.cell 2 (.int .i64 u) rfl
      have x3 := HI.out.2.1.cell 3 (.slice A' q c') rfl
      have p3 := HI.out.2.2.1.cell 3 (.slice A q c) rfl
      have z0 := HI.out.2.2.2.1.cell 0 (.string ⟨#[]⟩) rfl
      have z1 := HI.out.2.2.2.1.cell 1 (.int .i64 0) rfl
      have z2 := HI.out.2.2.2.1.cell 2 (.int .i64 0) rfl
      have z3 := HI.out.2.2.2.1.cell 3 (.slice none 0 0) rfl
      have y0 := HI.out.2.2.2.1.frozen 0
      have y1 := HI.out.2.2.2.1.frozen 1
      have y2 := HI.out.2.2.2.1.frozen 2
      have y3 := HI.out.2.2.2.1.frozen 3
      go_wp2
      exact bodyPost_ret (results_cN Tryz.results23 _ _ (B + 1) _ (rulA nm k u A' q c') (0, 0) _ (by rfl) (set4U HI.out.2.2.2.1) Tryz.underlying52 (by rfl) infoRu) rfl
        ⟨A', c', rfl, ((((HI.out.1.set_low (by omega) 0 _).set_low (by omega) 1 _).set_low (by omega) 2 _).set_low (by omega) 3 _).lower (by rw [HBS.out]; omega), by rw [HBS.out]; exact below4N HI.out.2.2.2.2.1 (by omega) _ _ _ _⟩
end Go.Proofs.YtcembcicpmhpkaaGreatDoor
