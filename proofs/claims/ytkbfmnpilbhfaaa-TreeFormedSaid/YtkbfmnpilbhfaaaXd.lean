/-
  Layer 19 (tree): the closure of tree.halved, which calls itself, by induction on how many numbers it is given; tree.halved; tree.Build.
-/
import Derived.Test.YtkbfmnpilbhfaaaXc
namespace Go.Proofs.Ytkbfmnpilbhfaaa
open Go.RowKit

abbrev growV (WS : Nat) : Value := .func (.func 17) #[] #[.pointer (some ⟨WS + 2, 0, none⟩), .pointer (some ⟨WS + 1, 0, none⟩)]

set_option maxRecDepth 100000 in
set_option maxHeartbeats 8000000 in
theorem grow_any (WS N : Nat) (T : Nat → Nd) (D g : Nat → Nat) (hN : N ≤ 8191) : ∀ (m : Nat) (n : Nat), n ≤ m → ∀ (s lo pb po c : Nat) (w : World), Sub T D g s lo n → GS WS N T s w → s + (2 * n - 1) ≤ N → lo + n ≤ 4096 → pb < WS → n ≤ c → c ≤ maxLen →
    (∀ i, i < n → w.cell? ⟨pb, po + i, none⟩ = some (.int .u32 (g (lo + i) : Nat))) →
    Calls Try.prog 17 #[.slice (some ⟨pb, po, none⟩) n c, .int .i64 lo, .pointer (some ⟨WS + 2, 0, none⟩), .pointer (some ⟨WS + 1, 0, none⟩)] w fun e w' =>
      e = .returned (.int .i64 ((s + (2 * n - 2) : Nat) : Int)) ∧ GS WS N T (s + (2 * n - 1)) w' ∧ Below WS w w' ∧ Only2 WS w w'
  | 0, n, hm, s, lo, pb, po, c, w, hsub, _, _, _, _, _, _, _ => absurd hsub.pos (by omega)
  | m + 1, n, hm, s, lo, pb, po, c, w, hsub, hgs, hsN, hlo, hpb, hnc, hcm, hc => by
    have ih := grow_any WS N T D g hN m
    have hpos := hsub.pos
    have hq0 := hc 0 (by omega)
    simp only [Nat.add_zero] at hq0
    have h0n : (0 : Int) < (n : Int) := by omega
    have hwlt := hgs.gv.lt
    have HG := Lib.hid hgs
    obtain ⟨X, hX⟩ : ∃ X, w.heap.size = X := ⟨_, rfl⟩
    have HX := Lib.hid hX
    obtain ⟨W0, hW0⟩ : ∃ W, w.alloc (.cells #[.bool true, .int .u32 (g lo), .int .i64 lo, .int .i64 0, .int .i64 0] 35) = W := ⟨_, rfl⟩
    have hb0 : Below w.heap.size w W0 := by rw [← hW0]; exact (Below.refl _ _).alloc (Nat.le_refl _) _
    have hrx : RowC W0 X (ndA ⟨true, g lo, lo, 0, 0⟩) 35 := by rw [← hW0, ← hX]; exact RowC.new _ _ _ _ rfl
    have hs0 : W0.heap.size = X + 1 := by rw [← hW0, ← hX]; simp
    have HW0 := Lib.hid hW0
    have HB0 := Lib.hid hb0
    have HRX := Lib.hid hrx
    have HS0 := Lib.hid hs0
    have hgs0 := hgs.below hb0
    have hc0 : ∀ i, i < n → W0.cell? ⟨pb, po + i, none⟩ = some (.int .u32 (g (lo + i) : Nat)) := fun i hi => (hb0.cell (show pb < w.heap.size by omega)).trans (hc i hi)
    have HC0 := Lib.hid hc0
    have HG0 := Lib.hid hgs0
    cases hsub with
    | leaf _ _ hT hD =>
      have t0 := hgs0.tv.cell 0 _ rfl
      have x0 := hrx.cell 0 (.bool true) rfl
      have x1 := hrx.cell 1 (.int .u32 (g lo)) rfl
      have x2 := hrx.cell 2 (.int .i64 lo) rfl
      have x3 := hrx.cell 3 (.int .i64 0) rfl
      have x4 := hrx.cell 4 (.int .i64 0) rfl
      have HT := Lib.hid hT
      clear hX hW0 hb0 hrx hs0 hgs0 hgs hc hc0 ih hT
      go_enter Try.func17, Try.ntmps17
      go_upto_region 2 with fail
      (try rw [HX.out])
      (try rw [HW0.out])
      go_wp2_with (first
        | (at_builtin
           refine app_node rfl _ _ rfl ⟨true, g lo, lo, 0, 0⟩ rfl (HG0.out.own.below ((Below.refl _ _).alloc (Nat.le_refl _) _) (Nat.le_refl _)) rfl (RowC.new _ _ _ _ rfl) HT.out (by omega) ?_
           intro w2 hown2 hgr2
           have hst := HG0.out.step ((Below.refl _ _).alloc (Nat.le_refl _) _) hown2 hgr2
           have tv2 := hst.1.tv.cell 0 (.slice (some ⟨WS, 0, none⟩) (s + 1) N) rfl
           have tc2 := hst.2.2.2.cell 0 (.slice (some ⟨WS, 0, none⟩) s N) rfl
           have tf2 := hst.2.2.2.frozen 0
           have HST := Lib.hid hst
           clear hst hown2 hgr2))
      go_ret
      refine ⟨ret_int ?_, ?_, ?_, ?_⟩
      · omega
      · exact HST.out.1
      · exact (HB0.out.mono (by omega)).trans HST.out.2.1
      · exact (Only2.below HB0.out).trans HST.out.2.2.1
    | node _ _ _ h2 hl hh hT hD =>
      have hg0 := hgs0.gv.cell 0 (growV WS) rfl
      have i1 : (n : Int) > 1 := by omega
      obtain ⟨H, hH⟩ : ∃ H, n / 2 = H := ⟨_, rfl⟩
      have hq : (n : Int).tdiv 2 = (H : Int) := by rw [← hH, Int.tdiv_eq_ediv_of_nonneg (by omega)]; omega
      have hHn : 1 ≤ H ∧ H < n := by omega
      have HH := Lib.hid hH
      have HHN := Lib.hid hHn
      rw [hH] at hl hh hT hD
      have IH1 := Lib.hid (fun (w : World) => ih H (by omega) s lo pb po H w hl)
      have IH2 := Lib.hid (fun (w : World) => ih (n - H) (by omega) (s + (2 * H - 1)) (lo + H) pb (po + H) (n - H) w hh)
      have HT := Lib.hid hT
      have hHn1 := hHn.1
      have hHn2 := hHn.2
      clear hX hW0 hb0 hrx hs0 hgs0 hgs hc hc0 ih hT hH hl hh hD hHn
      go_enter Try.func17, Try.ntmps17
      go_upto_region 2 with fail
      (try rw [HX.out])
      (try rw [HW0.out])
      have j0 : (0 : Int) ≤ (H : Int) := by omega
      have j1 : (H : Int) ≤ (n : Int) := by omega
      have j2 : (H : Int) ≤ (c : Int) := by omega
      have j3 : (n : Int) ≤ (c : Int) := by omega
      have j4 : ¬ n = H := by omega
      have v1 : IntKind.i64.wrap ((lo : Int) + (H : Int)) = (lo : Int) + (H : Int) := by rw [IntKind.wrap_i64]; omega
      go_upto_region 5 with fail
      go_still_tail 6, (by kernel_rfl)
      change wpList _ _ _ _ _ W0.drew
      have hg0d : GS WS N T s W0.drew := HG0.out.below (Below.refl _ _).drew
      have hc0d : ∀ i, i < H → W0.drew.cell? ⟨pb, po + i, none⟩ = some (.int .u32 (g (lo + i) : Nat)) := fun i hi => HC0.out i (by omega)
      have K1 := Lib.hid (IH1.out W0.drew hg0d (by omega) (by omega) hpb (Nat.le_refl _) (by omega) hc0d)
      clear hg0d hc0d hg0
      obtain ⟨W1, hW1⟩ : ∃ W, W0.drew = W := ⟨_, rfl⟩
      rw [hW1] at K1 ⊢
      have HW1 := Lib.hid hW1
      clear hW1
      go_wp2_with (go_at_call 17; refine K1.out.mono ?_; rintro e w2 ⟨rfl, hgs2, hB2, hO2⟩)
      have HB2 := Lib.hid hB2
      have HO2 := Lib.hid hO2
      have hc2 : ∀ i, i < n → w2.cell? ⟨pb, po + i, none⟩ = some (.int .u32 (g (lo + i) : Nat)) := fun i hi => by rw [hB2.cell (show pb < WS from hpb), ← HW1.out]; exact HC0.out i hi
      have HC2 := Lib.hid hc2
      have HG2 := Lib.hid hgs2
      have hg2 := hgs2.gv.cell 0 (growV WS) rfl
      clear hc2 hgs2 hB2 hO2 K1
      go_still_tail 9, (by kernel_rfl)
      change wpList _ _ _ _ _ w2.drew
      have hg2d : GS WS N T (s + (2 * H - 1)) w2.drew := HG2.out.below (Below.refl _ _).drew
      have hc2d : ∀ i, i < n - H → w2.drew.cell? ⟨pb, po + H + i, none⟩ = some (.int .u32 (g (lo + H + i) : Nat)) := fun i hi => by
        rw [Nat.add_assoc, Nat.add_assoc]; exact HC2.out (H + i) (by omega)
      have K2 := Lib.hid (IH2.out w2.drew hg2d (by omega) (by omega) hpb (Nat.le_refl _) (by omega) hc2d)
      clear hg2d hc2d hg2
      obtain ⟨W3, hW3⟩ : ∃ W, w2.drew = W := ⟨_, rfl⟩
      rw [hW3] at K2 ⊢
      have HW3 := Lib.hid hW3
      clear hW3
      go_wp2_with fail
      refine K2.out.mono ?_
      rintro e w4 ⟨rfl, hgs4, hB4, hO4⟩
      have hx4 : RowC w4 X (ndA ⟨true, g lo, lo, 0, 0⟩) 35 := by
        have hXW : WS + 2 < X := by rw [← HX.out]; exact hwlt
        have r0 : RowC W1 X (ndA ⟨true, g lo, lo, 0, 0⟩) 35 := by rw [← HW1.out]; exact HRX.out
        have r2 : RowC w2 X (ndA ⟨true, g lo, lo, 0, 0⟩) 35 := (HO2.out.2 X r0.lt (by omega) (by omega)).trans r0
        have r3 : RowC W3 X (ndA ⟨true, g lo, lo, 0, 0⟩) 35 := by rw [← HW3.out]; exact r2
        exact (hO4.2 X r3.lt (by omega) (by omega)).trans r3
      have q4 : w4.cell? ⟨pb, po + H, none⟩ = some (.int .u32 (g (lo + H) : Nat)) := by rw [hB4.cell (show pb < WS from hpb), ← HW3.out]; exact HC2.out H hHn2
      have HX4 := Lib.hid hx4
      have HG4 := Lib.hid hgs4
      have HB4 := Lib.hid hB4
      have HO4 := Lib.hid hO4
      have x0 := hx4.cell 0 (.bool true) rfl
      have x1 := hx4.cell 1 (.int .u32 (g lo)) rfl
      have x2 := hx4.cell 2 (.int .i64 lo) rfl
      have x3 := hx4.cell 3 (.int .i64 0) rfl
      have x4 := hx4.cell 4 (.int .i64 0) rfl
      have y0 := hx4.frozen 0
      have y1 := hx4.frozen 1
      have y2 := hx4.frozen 2
      have y3 := hx4.frozen 3
      have y4 := hx4.frozen 4
      have j5 : (H : Int) < (n : Int) := by omega
      clear hx4 hgs4 hB4 hO4 K2
      go_upto_region 8 with fail
      have hXW : WS + 3 ≤ X := by rw [← HX.out]; exact hwlt
      obtain ⟨f1, f2, f3⟩ := HG4.out.five HX4.out rfl hXW (.bool false) (.int .u32 (g (lo + H))) (.int .i64 0) (.int .i64 ((s : Int) + ((2 * H - 2 : Nat) : Int))) (.int .i64 ((s : Int) + ((2 * H - 1 : Nat) : Int) + ((2 * (n - H) - 2 : Nat) : Int)))
      obtain ⟨W5, hW5⟩ : ∃ W, (((((w4.setCell ⟨X, 0, none⟩ (.bool false)).setCell ⟨X, 1, none⟩ (.int .u32 (g (lo + H)))).setCell ⟨X, 2, none⟩ (.int .i64 0)).setCell ⟨X, 3, none⟩ (.int .i64 ((s : Int) + ((2 * H - 2 : Nat) : Int)))).setCell ⟨X, 4, none⟩ (.int .i64 ((s : Int) + ((2 * H - 1 : Nat) : Int) + ((2 * (n - H) - 2 : Nat) : Int)))) = W := ⟨_, rfl⟩
      rw [hW5] at f1 f2 f3
      rw [hW5]
      have e1 : s + (2 * H - 1) + (2 * (n - H) - 1) = s + (2 * n - 2) := by omega
      rw [e1] at f1
      have e3 : (s : Int) + ((2 * H - 1 : Nat) : Int) + ((2 * (n - H) - 2 : Nat) : Int) = ((s + (2 * n - 3) : Nat) : Int) := by omega
      have e4 : (s : Int) + ((2 * H - 2 : Nat) : Int) = ((s + (2 * H - 2) : Nat) : Int) := by omega
      obtain ⟨hi, hhi⟩ : ∃ hi, (s : Int) + ((2 * H - 1 : Nat) : Int) + ((2 * (n - H) - 2 : Nat) : Int) = hi := ⟨_, rfl⟩
      obtain ⟨lw, hlw⟩ : ∃ lw, (s : Int) + ((2 * H - 2 : Nat) : Int) = lw := ⟨_, rfl⟩
      rw [hhi] at f2 e3
      rw [hlw] at f2 e4
      rw [hhi, hlw]
      have HE := Lib.hid (And.intro e3 e4)
      have HF1 := Lib.hid f1
      have HF2 := Lib.hid f2
      have HF3 := Lib.hid f3
      have t0 := f1.tv.cell 0 (.slice (some ⟨WS, 0, none⟩) (s + (2 * n - 2)) N) rfl
      have x0 := f2.cell 0 (.bool false) rfl
      have x1 := f2.cell 1 (.int .u32 (g (lo + H))) rfl
      have x2 := f2.cell 2 (.int .i64 0) rfl
      have x3 := f2.cell 3 (.int .i64 lw) rfl
      have x4 := f2.cell 4 (.int .i64 hi) rfl
      clear f1 f2 f3 hW5 e1 e3 e4 hhi hlw
      go_wp2_with (first
        | (at_builtin
           refine app_node rfl _ _ rfl ⟨false, g (lo + H), 0, s + (2 * H - 2), s + (2 * n - 3)⟩ rfl (HF1.out.own.below ((Below.refl _ _).alloc (Nat.le_refl _) _) (Nat.le_refl _)) rfl (by rw [HE.out.1, HE.out.2]; exact RowC.new _ _ _ _ rfl) HT.out (by omega) ?_
           intro w6 hown6 hgr6
           have hst := HF1.out.step ((Below.refl _ _).alloc (Nat.le_refl _) _) hown6 hgr6
           have tv2 := hst.1.tv.cell 0 (.slice (some ⟨WS, 0, none⟩) (s + (2 * n - 2) + 1) N) rfl
           have tc2 := hst.2.2.2.cell 0 (.slice (some ⟨WS, 0, none⟩) (s + (2 * n - 2)) N) rfl
           have tf2 := hst.2.2.2.frozen 0
           have HST := Lib.hid hst
           clear hst hown6 hgr6))
      go_ret
      have e7 : s + (2 * n - 2) + 1 = s + (2 * n - 1) := by omega
      obtain ⟨g1, g2, g3, _⟩ := HST.out
      rw [e7] at g1 g2 g3
      have b0 : Below WS w W0 := HB0.out.mono (by omega)
      have b1 : Below WS W0 W1 := by rw [← HW1.out]; exact (Below.refl _ _).drew
      have b3 : Below WS w2 W3 := by rw [← HW3.out]; exact (Below.refl _ _).drew
      have b5 : Below WS w4 W5 := HF3.out.mono (by omega)
      have o0 : Only2 WS w W0 := Only2.below HB0.out
      have o1 : Only2 WS W0 W1 := by rw [← HW1.out]; exact Only2.below (Below.refl _ _).drew
      have o3 : Only2 WS w2 W3 := by rw [← HW3.out]; exact Only2.below (Below.refl _ _).drew
      refine ⟨ret_int ?_, by rw [e7]; exact g1, ?_, ?_⟩
      · omega
      · rw [e7]; exact ((((((b0.trans b1).trans HB2.out).trans b3).trans HB4.out).trans b5).trans g2)
      · rw [e7]
        refine ((((o0.trans o1).trans HO2.out).trans o3).trans HO4.out) |> fun (hq : Only2 WS w w4) => ⟨Nat.le_trans hq.1 (Nat.le_trans HF3.out.size g3.1), fun b hb1 hb2 hb3 => ?_⟩
        have hbX : b < X := by rw [← HX.out]; exact hb1
        exact (g3.2 b (Nat.lt_of_lt_of_le (Nat.lt_of_lt_of_le hb1 hq.1) HF3.out.size) hb2 hb3).trans ((HF3.out.block b hbX).trans (hq.2 b hb1 hb2 hb3))

theorem mk_nodes (m : Nat) (hm : m ≤ 8191) (W : World) : ∃ W', (Instr.makeSlice 23 (.int .i64 0) (.int .i64 (m : Int))).run Try.prog W = .ok (.slice (some ⟨W.heap.size, 0, none⟩) 0 m) W' ∧
    (∀ T, OwnC W' W.heap.size 35 5 (some ⟨W.heap.size, 0, none⟩) 0 m (ndC T)) ∧ Below W.heap.size W W' ∧ W'.heap.size = W.heap.size + 1 := by
  obtain ⟨i0, hi0, hz0, hz1, hz2⟩ := info_parts infoN
  have hr := run_make (P := Try.prog) W 23 35 i0 _ Try.underlying23 hi0 hz0 .i64 .i64 0 m (by omega) (by omega) (by rw [hz2]; omega) (by omega)
  rw [hz1] at hr
  simp only [Int.toNat_natCast] at hr
  refine ⟨_, hr, fun T => ?_, (Below.refl _ _).alloc (Nat.le_refl _) _, by simp⟩
  refine ⟨by simp, .inr ⟨W.heap.size, m, _, rfl, Nat.le_refl _, heap_alloc_last W _, Nat.zero_le _, by unfold maxLen; omega, by simp [madeCells], by simp⟩⟩

set_option maxRecDepth 100000 in
set_option maxHeartbeats 8000000 in
theorem halved_any (A : Option Addr) (n c : Nat) (g : Nat → Nat) (w : World) (hU : U32a w A n c g) (hn : 1 ≤ n) (hn4 : n ≤ 4096) :
    Calls Try.prog 15 #[.slice A n c] w fun e w' => (∃ A' c' T D, e = .returned (.slice A' (2 * n - 1) c') ∧ OwnC w' w.heap.size 35 5 A' (2 * n - 1) c' (ndC T) ∧ Sub T D g 0 0 n) ∧ Below w.heap.size w w' := by
  obtain ⟨T, D, hsub, _⟩ := sub_ex g n n (Nat.le_refl _) hn 0 0 (fun _ => ⟨true, 0, 0, 0, 0⟩) (fun _ => 0)
  obtain ⟨b, off, rfl, hb, hnc, hcm, hc⟩ := hU.at_ (by omega)
  obtain ⟨M, hM⟩ : ∃ M, 2 * n - 1 = M := ⟨_, rfl⟩
  obtain ⟨WS, hWS⟩ : ∃ B, w.heap.size = B := ⟨_, rfl⟩
  obtain ⟨W1, hmk, hown, hB1, hz1⟩ := mk_nodes M (by omega) w
  have v1 : IntKind.i64.wrap (2 * (n : Int)) = 2 * (n : Int) := by rw [IntKind.wrap_i64]; omega
  have v2 : IntKind.i64.wrap (2 * (n : Int) - 1) = (M : Int) := by rw [IntKind.wrap_i64]; omega
  have v3 : 2 * (n : Int) - 1 = (M : Int) := by omega
  have hmf : ∀ (fn : Fn) (first cap : Array Value) (w : World), (Instr.makeFunc fn first cap).run Try.prog w = .ok (.func fn first cap) w := fun _ _ _ _ => rfl
  go_enter Try.func15, Try.ntmps15
  go_upto_region 4 with fail
  obtain ⟨W3, hW3⟩ : ∃ W, ((W1.alloc (.cells #[.slice (some ⟨WS, 0, none⟩) 0 M] 23)).alloc (.cells #[growV WS] 43)) = W := ⟨_, rfl⟩
  have hB3 : Below WS w W3 := by rw [← hW3, ← hWS]; exact (hB1.alloc (by omega) _).alloc (by simp; omega) _
  have hgs : GS WS M T 0 W3 := by
    rw [← hW3]
    have hz : W1.heap.size = WS + 1 := by rw [hz1, hWS]
    have ho := hown T
    rw [hWS] at ho
    exact ⟨(ho.alloc _).alloc _, (RowC.new _ _ _ _ hz.symm).alloc _, RowC.new _ _ _ _ (by simp; omega)⟩
  have hc3 : ∀ i, i < n → W3.cell? ⟨b, off + i, none⟩ = some (.int .u32 (g (0 + i) : Nat)) := fun i hi => by
    rw [Nat.zero_add, hB3.cell (show b < WS by omega)]; exact hc i hi
  have hW3' : ((W1.alloc (.cells #[.slice (some ⟨WS, 0, none⟩) 0 M] 23)).alloc (.cells #[.func (.func 17) #[] #[.pointer (some ⟨WS + 1 + 1, 0, none⟩), .pointer (some ⟨WS + 1, 0, none⟩)]] 43)) = W3 := hW3
  rw [hW3']
  have K := Lib.hid (grow_any WS M T D g (by omega) n n (Nat.le_refl _) 0 0 b off c W3 hsub hgs (by omega) (by omega) (by omega) hnc hcm hc3)
  have hg3 := hgs.gv.cell 0 (growV WS) rfl
  have HB3 := Lib.hid hB3
  have HM := Lib.hid hM
  have HWS := Lib.hid hWS
  clear hgs hc3 hW3 hW3' hB3 hmk hown hB1 hz1 hc hM hWS
  go_wp2_with fail
  refine K.out.mono ?_
  rintro e w4 ⟨rfl, hgs4, hB4, _⟩
  have t4 := hgs4.tv.cell 0 (.slice (some ⟨WS, 0, none⟩) (0 + (2 * n - 1)) M) rfl
  have HG4 := Lib.hid hgs4
  have HB4 := Lib.hid hB4
  clear hgs4 hB4
  go_wp2
  go_ret
  have e5 : 0 + (2 * n - 1) = M := by rw [HM.out]; omega
  refine ⟨⟨some ⟨WS, 0, none⟩, M, T, D, ?_, ?_, hsub⟩, ?_⟩
  · rw [HM.out]; simp
  · have h := HG4.out.own
    rw [e5] at h
    rw [HM.out, HWS.out]
    exact h
  · rw [HWS.out]; exact HB3.out.trans HB4.out

/-- What tree.Build answers. -/
def BuildA (g : Nat → Nat) (n : Nat) (w w' : World) (e : Ending) : Prop :=
  (risB g n = false ∧ e = .returned (.tuple #[.slice none 0 0, .int .i64 15])) ∨
  (risB g n = true ∧ 4096 < n ∧ e = .returned (.tuple #[.slice none 0 0, .int .i64 3])) ∨
  (risB g n = true ∧ n ≤ 4096 ∧ ∃ A' N c' T D, e = .returned (.tuple #[.slice A' N c', .int .i64 0]) ∧ OwnC w' w.heap.size 35 5 A' N c' (ndC T) ∧ IsTree g n T D N)
set_option maxRecDepth 100000 in
set_option maxHeartbeats 8000000 in
theorem build_any (A : Option Addr) (n c : Nat) (g : Nat → Nat) (w : World) (hU : U32a w A n c g) :
    Calls Try.prog 7 #[.slice A n c] w fun e w' => BuildA g n w w' e ∧ Below w.heap.size w w' := by
  have HU := Lib.hid hU
  clear hU
  cases hr : risB g n with
  | false =>
    have HR := Lib.hid hr
    have K := Lib.hid (rises_any A n c g w HU.out)
    rw [hr] at K
    clear hr
    go_enter Try.func7, Try.ntmps7
    go_wp2_with (go_at_call 14; refine K.out.mono ?_; rintro e w1 ⟨rfl, hB1⟩)
    go_ret2
    exact ⟨.inl ⟨HR.out, rfl⟩, hB1⟩
  | true =>
    have HR := Lib.hid hr
    have K := Lib.hid (rises_any A n c g w HU.out)
    rw [hr] at K
    clear hr
    by_cases h4 : 4096 < n
    · have i1 : (n : Int) > 4096 := by omega
      go_enter Try.func7, Try.ntmps7
      go_wp2_with (go_at_call 14; refine K.out.mono ?_; rintro e w1 ⟨rfl, hB1⟩)
      go_ret2
      exact ⟨.inr (.inl ⟨HR.out, h4, rfl⟩), hB1⟩
    · have i1 : ¬ (n : Int) > 4096 := by omega
      by_cases h0 : n = 0
      · subst h0
        go_enter Try.func7, Try.ntmps7
        go_wp2_with (go_at_call 14; refine K.out.mono ?_; rintro e w1 ⟨rfl, hB1⟩)
        go_ret2
        refine ⟨.inr (.inr ⟨HR.out, by omega, some ⟨w1.heap.size, 0, none⟩, 1, 1, fun _ => ⟨true, 0, -1, 0, 0⟩, fun _ => 0, rfl, ?_, ⟨fun _ => ⟨rfl, rfl, rfl⟩, fun h => by omega⟩⟩), hB1.alloc hB1.size _⟩
        refine ⟨by simp, .inr ⟨w1.heap.size, 1, _, rfl, hB1.size, heap_alloc_last w1 _, Nat.le_refl _, by unfold maxLen; omega, by rfl, by rfl⟩⟩
      · have i2 : ((n : Int) == 0) = false := by simp; omega
        have K2 := Lib.hid (fun (w1 : World) (h : Below w.heap.size w w1) => halved_any A n c g w1 (HU.out.below h) (by omega) (by omega))
        go_enter Try.func7, Try.ntmps7
        go_wp2_with (first
          | (go_at_call 14; refine K.out.mono ?_; rintro e w1 ⟨rfl, hB1⟩)
          | (go_at_call 15; refine (K2.out _ hB1).mono ?_; rintro e w2 ⟨⟨A', c', T, D, rfl, hO2, hS2⟩, hB2⟩))
        go_ret2
        exact ⟨.inr (.inr ⟨HR.out, by omega, A', 2 * n - 1, c', T, D, rfl, hO2.lower hB1.size, ⟨fun h => absurd h h0, fun _ => ⟨rfl, hS2⟩⟩⟩), hB1.trans (hB2.mono hB1.size)⟩
end Go.Proofs.Ytkbfmnpilbhfaaa
