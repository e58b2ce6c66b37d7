/-
  Layer 27: the closure that gathers paths: at a return. Made by gen_wyg.py.
-/
import Derived.Test.YtgndfcjfajnemaaWyf
import Derived.Test.YtgndfcjfajnemaaAsE
namespace Go.Proofs.Ytgndfcjfajnemaa
open Go.RowKit Go.Shelf
set_option linter.unusedVariables false
theorem wp_region_E {P : Program} {ops : Array Oper} {S : World → Prop} {id : Nat} {a : Act} {w : World} {Q : Exit → Act → World → Prop} (z : Nat) (hm : P.follows .mixedOrders = true)
    (h : wpAnyE P .any ops Q S z ops.size (Array.replicate ops.size false) a w.drew) : (Code.region id ops true).wp P Q a w :=
  wp_region_any hm (wpAny_of_E _ _ _ _ h)
theorem one_pv (w : World) (y : PV) (C : Option Addr) (cC : Nat) (E : TypeId) (b : Nat) (hb : b = w.heap.size) (z : Int) (hz : z = (y.st : Nat)) : Cel (w.alloc (.cells #[.slice C y.ts.length cC, .int .i64 z, .int .u32 (y.v : Nat)] E)) (w.heap.size + 1) 3 (some ⟨b, 0, none⟩) 1 1 (pvcell (fun _ => y) fun _ => (C, cC)) := by
  subst hb hz
  refine Cel.mk_ (Nat.lt_succ_self _) (Nat.le_refl _) (by decide) fun i hi => ?_
  have hi' : i < 3 := by omega
  rw [Nat.zero_add, cell_of_row _ _ _ _ _ _ (heap_alloc_last w _)]
  match i, hi' with
  | 0, _ | 1, _ | 2, _ => rfl
set_option maxRecDepth 100000 in
set_option maxHeartbeats 16000000 in
theorem fol_ret (x : Bxs) (ho : x.ok) (g : Nat → IV) (n : Nat) (hF : Fmd g n) (hv : ∀ i, i < n → (g i).ok) (hk : ∀ i, i < n → okI (g i) = true) (m : Nat) (i : Nat) (hi : i < n) (p q : Nat) (d : Int) (kk : Nat) (b : Bool) (s : Nat) (w : World) (L : List PV) (ts : List TV) (A : Option Addr) (cA : Nat) (T : Option Addr) (cT : Nat) (S : Nat → Option Addr × Nat) (h : FM x g n w L ts A cA T cT S) (hp : p < 4294967296) (hq : q < 4294967296) (hkk : kk < 4294967296) (hs : s + (n - i) ≤ 100000) (hts : ts.length + (n - i) ≤ 10000) (hKi : kd (g i) = 14) (hL : L.length + 1 ≤ 100000) :
    Calls Try.prog 36 #[.int .i64 i, .int .i64 s, .agg #[.int .i64 p, .int .u32 q, .int .i64 d, .int .u32 kk, .bool b], .pointer (some ⟨x.P, 0, none⟩), .pointer (some ⟨x.Al, 0, none⟩), .pointer (some ⟨x.Te, 0, none⟩), .pointer (some ⟨x.Fo, 0, none⟩)] w fun e w' => e = .returned (.tuple #[]) ∧ ∃ A' cA' T' cT' S', GS x g n w L A T S w' (L ++ [⟨ts, s + 1, (g i).k⟩]) ts A' cA' T' cT' S' := by
  obtain ⟨v, hgv⟩ : ∃ v, g i = v := ⟨_, rfl⟩
  have hvo : v.ok := by rw [← hgv]; exact hv i hi
  have hle := hF.le
  have hin : n - i ≥ 1 := by omega
  have hb1 : Below w.heap.size w (w.alloc (.cells #[.int .i64 (p : Int), .int .u32 (q : Int), .int .i64 d, .int .u32 (kk : Int), .bool b] 49)) := (Below.refl _ _).alloc (Nat.le_refl _) _
  have hfm1 := h.below ho hb1
  have e0 := hfm1.pl.cell 0 _ rfl
  have hpc : ∀ j, j < 6 → (w.alloc (.cells #[.int .i64 (p : Int), .int .u32 (q : Int), .int .i64 d, .int .u32 (kk : Int), .bool b] 49)).cell? ⟨x.pb, i * 6 + j, none⟩ = some ((flA v i).getD j undef) := fun j hj => by
    rw [hfm1.pc _ (by omega), fcell_at g i j hj, hgv]
  have q0 : (w.alloc (.cells #[.int .i64 (p : Int), .int .u32 (q : Int), .int .i64 d, .int .u32 (kk : Int), .bool b] 49)).cell? ⟨x.pb, i * 6, none⟩ = some (.int .u16 v.c) := hpc 0 (by decide)
  have q1 : (w.alloc (.cells #[.int .i64 (p : Int), .int .u32 (q : Int), .int .i64 d, .int .u32 (kk : Int), .bool b] 49)).cell? ⟨x.pb, i * 6 + 1, none⟩ = some (.int .u8 v.t) := hpc 1 (by decide)
  have q2 : (w.alloc (.cells #[.int .i64 (p : Int), .int .u32 (q : Int), .int .i64 d, .int .u32 (kk : Int), .bool b] 49)).cell? ⟨x.pb, i * 6 + 2, none⟩ = some (.int .u8 v.f) := hpc 2 (by decide)
  have q3 : (w.alloc (.cells #[.int .i64 (p : Int), .int .u32 (q : Int), .int .i64 d, .int .u32 (kk : Int), .bool b] 49)).cell? ⟨x.pb, i * 6 + 3, none⟩ = some (.int .u32 v.k) := hpc 3 (by decide)
  have q4 : (w.alloc (.cells #[.int .i64 (p : Int), .int .u32 (q : Int), .int .i64 d, .int .u32 (kk : Int), .bool b] 49)).cell? ⟨x.pb, i * 6 + 4, none⟩ = some (.int .i64 14) := by have h4 := hpc 4 (by decide); rw [h4]; show some (Value.int .i64 (kd v)) = _; rw [← hgv, hKi]
  have q5 : (w.alloc (.cells #[.int .i64 (p : Int), .int .u32 (q : Int), .int .i64 d, .int .u32 (kk : Int), .bool b] 49)).cell? ⟨x.pb, i * 6 + 5, none⟩ = some (.int .i64 i) := hpc 5 (by decide)
  have i1 : (0 : Int) ≤ (i : Int) := by omega
  have i2 : (i : Int) < (n : Int) := by omega
  have hb2 : Below w.heap.size w ((w.alloc (.cells #[.int .i64 (p : Int), .int .u32 (q : Int), .int .i64 d, .int .u32 (kk : Int), .bool b] 49)).alloc (.cells #[.int .u16 v.c, .int .u8 v.t, .int .u8 v.f, .int .u32 v.k, .int .i64 14, .int .i64 (i : Int)] 88)) := hb1.alloc hb1.size _
  have HG2 := Lib.hid ((GS.of h).below ho hb2)
  have hra : RowC ((w.alloc (.cells #[.int .i64 (p : Int), .int .u32 (q : Int), .int .i64 d, .int .u32 (kk : Int), .bool b] 49)).alloc (.cells #[.int .u16 v.c, .int .u8 v.t, .int .u8 v.f, .int .u32 v.k, .int .i64 14, .int .i64 (i : Int)] 88)) w.heap.size #[.int .i64 (p : Int), .int .u32 (q : Int), .int .i64 d, .int .u32 (kk : Int), .bool b] 49 := (RowC.new _ _ _ _ rfl).alloc _
  have hrx : RowC ((w.alloc (.cells #[.int .i64 (p : Int), .int .u32 (q : Int), .int .i64 d, .int .u32 (kk : Int), .bool b] 49)).alloc (.cells #[.int .u16 v.c, .int .u8 v.t, .int .u8 v.f, .int .u32 v.k, .int .i64 14, .int .i64 (i : Int)] 88)) (w.heap.size + 1) #[.int .u16 v.c, .int .u8 v.t, .int .u8 v.f, .int .u32 v.k, .int .i64 14, .int .i64 (i : Int)] 88 := RowC.new _ _ _ _ (by simp)
  have HRA := Lib.hid hra
  have HRX := Lib.hid hrx
  have hsz2 : ((w.alloc (.cells #[.int .i64 (p : Int), .int .u32 (q : Int), .int .i64 d, .int .u32 (kk : Int), .bool b] 49)).alloc (.cells #[.int .u16 v.c, .int .u8 v.t, .int .u8 v.f, .int .u32 v.k, .int .i64 14, .int .i64 (i : Int)] 88)).heap.size = w.heap.size + 2 := by simp
  have HSZ := Lib.hid hsz2
  have hlo := h.lo
  have d4 := hrx.cell 4 _ rfl
  have d3 := hrx.cell 3 _ rfl
  clear hra hrx hb1 hb2 hfm1 hpc hsz2
  rw [hgv]
  have HL : Hid (∀ W, Calls Try.prog 35 #[.agg #[.int .u16 v.c, .int .u8 v.t, .int .u8 v.f, .int .u32 v.k, .int .i64 14, .int .i64 (i : Int)]] W fun e w' => ∃ A m, e = .returned (.slice A m m) ∧ I64s w' W.heap.size A m [] ∧ Below W.heap.size W w') := Lib.hid fun W => by
    have hkv : kd v = 14 := by rw [← hgv]; exact hKi
    have h1 := pleads_any v hvo (by rw [hkv]; decide) i W (by omega)
    rw [← nexts_if, hkv] at h1
    simp only [flV, hkv] at h1
    exact h1
  clear hgv hKi
  go_enter Try.func36, Try.ntmps36
  go_wp2
  obtain ⟨W2, hW2⟩ : ∃ W2, (w.alloc (.cells #[.int .i64 (p : Int), .int .u32 (q : Int), .int .i64 d, .int .u32 (kk : Int), .bool b] 49)).alloc (.cells #[.int .u16 v.c, .int .u8 v.t, .int .u8 v.f, .int .u32 v.k, .int .i64 14, .int .i64 (i : Int)] 88) = W2 := ⟨_, rfl⟩
  rw [hW2] at HG2 HRA HRX HSZ d3 d4 ⊢
  clear hW2
  have hAl2 : x.Al < W2.heap.size := HG2.out.fm.lo.2.1
  have hTe2 : x.Te < W2.heap.size := HG2.out.fm.lo.2.2.1
  have hX2 : w.heap.size + 1 < W2.heap.size := by have := HSZ.out; omega
  have al0 := RowAt.cell HG2.out.fm.al 0 _ rfl
  have te0 := RowAt.cell HG2.out.fm.te 0 _ rfl
  refine wp_region_E (S := fun V => Below W2.heap.size W2 V) 9 (by kernel_rfl) ?_
  have hHeld : Below W2.heap.size W2 W2.drew := (Below.refl _ _).drew
  refine wpAnyE_take (i := 0) (oi := ({ dst := some 25, op := Op.load 25 (Operand.tmp 4), type := 25, pos := "paths.go:162", after := #[], guard := none } : Oper)) (v := ?vf0x1) rfl (by kernel_rfl) (by decide) (by kernel_rfl) (fun _ _ _ h => h) (by rfl) ?hf0x1 hHeld ?rf0x1
  case hf0x1 =>
    intro V hV
    have s0 := (hV.cell (p := ⟨x.Al, 0, none⟩) hAl2).trans al0
    go_simp
    all_goals with_reducible rfl
  try simp only [Act.put, List.setIfInBounds_toArray, List.set_cons_zero, List.set_cons_succ]
  refine wpAnyE_take (i := 1) (oi := ({ dst := some 26, op := Op.load 38 (Operand.tmp 5), type := 38, pos := "paths.go:162", after := #[], guard := none } : Oper)) (v := ?vf1x2) rfl (by kernel_rfl) (by decide) (by kernel_rfl) (fun _ _ _ h => h) (by rfl) ?hf1x2 hHeld ?rf1x2
  case hf1x2 =>
    intro V hV
    have s1 := (hV.cell (p := ⟨x.Te, 0, none⟩) hTe2).trans te0
    go_simp
    all_goals with_reducible rfl
  try simp only [Act.put, List.setIfInBounds_toArray, List.set_cons_zero, List.set_cons_succ]
  refine wpAnyE_take (i := 3) (oi := ({ dst := some 28, op := Op.move (Operand.tmp 1), type := 3, pos := "paths.go:162", after := #[], guard := none } : Oper)) (v := ?vf3x3) rfl (by kernel_rfl) (by decide) (by kernel_rfl) (fun _ _ _ h => h) (by rfl) ?hf3x3 hHeld ?rf3x3
  case hf3x3 =>
    intro V hV
    skip
    go_simp
    all_goals with_reducible rfl
  try simp only [Act.put, List.setIfInBounds_toArray, List.set_cons_zero, List.set_cons_succ]
  refine wpAnyE_take (i := 4) (oi := ({ dst := some 29, op := Op.fieldAddr 88 (Operand.tmp 10) 0, type := 0, pos := "paths.go:162", after := #[], guard := none } : Oper)) (v := ?vf4x4) rfl (by kernel_rfl) (by decide) (by kernel_rfl) (fun _ _ _ h => h) (by rfl) ?hf4x4 hHeld ?rf4x4
  case hf4x4 =>
    intro V hV
    skip
    go_simp
    all_goals with_reducible rfl
  try simp only [Act.put, List.setIfInBounds_toArray, List.set_cons_zero, List.set_cons_succ]
  refine wpAnyE_take (i := 5) (oi := ({ dst := some 30, op := Op.fieldAddr 61 (Operand.tmp 29) 3, type := 0, pos := "paths.go:162", after := #[{ on := 4, ground := Ground.data }], guard := none } : Oper)) (v := ?vf5x5) rfl (by kernel_rfl) (by decide) (by kernel_rfl) (fun _ _ _ h => h) (by rfl) ?hf5x5 hHeld ?rf5x5
  case hf5x5 =>
    intro V hV
    skip
    go_simp
    all_goals with_reducible rfl
  try simp only [Act.put, List.setIfInBounds_toArray, List.set_cons_zero, List.set_cons_succ]
  refine wpAnyE_take (i := 6) (oi := ({ dst := some 31, op := Op.load 36 (Operand.tmp 30), type := 36, pos := "paths.go:162", after := #[{ on := 5, ground := Ground.data }], guard := none } : Oper)) (v := ?vf6x6) rfl (by kernel_rfl) (by decide) (by kernel_rfl) (fun _ _ _ h => h) (by rfl) ?hf6x6 hHeld ?rf6x6
  case hf6x6 =>
    intro V hV
    have s3 := (hV.cell (p := ⟨w.heap.size + 1, 3, none⟩) hX2).trans d3
    go_simp
    all_goals with_reducible rfl
  try simp only [Act.put, List.setIfInBounds_toArray, List.set_cons_zero, List.set_cons_succ]
  refine wpAnyE_ready (rs := [2]) (by kernel_rfl) (by simp) ?_
  refine (AllE.cons (o := ({ dst := some 27, op := Op.call { callee := Callee.value (Operand.func 37), args := #[Operand.tmp 26], argTypes := #[38] }, type := 38, pos := "paths.go:162", after := #[{ on := 1, ground := Ground.data }], guard := none } : Oper)) rfl (by decide) (fun K hK => ?_) AllE.nil)
  go_simp
  refine (cloneT_any T ts.length cT (fun i => ts[i]!) W2.drew (by omega) (HG2.out.fm.below ho hHeld).teo.cel).mono ?_
  rintro e V1 ⟨C, cC, rfl, hC, hV1⟩
  have hH1 : Below W2.heap.size W2 V1 := hHeld.trans hV1
  refine hK.out _ _ ?kf2x7 (fun hHeld2 => ?_)
  case kf2x7 => exact hH1
  clear hK K
  try simp only [Act.put, List.setIfInBounds_toArray, List.set_cons_zero, List.set_cons_succ]
  replace hHeld := hHeld2
  clear hHeld2
  refine wpAnyE_take (i := 7) (oi := ({ dst := some 32, op := Op.build 40 #[(0, Operand.tmp 27), (1, Operand.tmp 28), (2, Operand.tmp 31)], type := 40, pos := "paths.go:162", after := #[{ on := 2, ground := Ground.data }, { on := 3, ground := Ground.data }, { on := 6, ground := Ground.data }], guard := none } : Oper)) (v := ?vf7x8) rfl (by kernel_rfl) (by decide) (by kernel_rfl) (fun _ _ _ h => h) (by rfl) ?hf7x8 hHeld ?rf7x8
  case hf7x8 =>
    intro V hV
    skip
    go_simp
    all_goals with_reducible rfl
  try simp only [Act.put, List.setIfInBounds_toArray, List.set_cons_zero, List.set_cons_succ]
  refine wpAnyE_ready (rs := [8]) (by kernel_rfl) (by simp) ?_
  refine (AllE.cons (o := ({ dst := some 33, op := Op.buildSlice 25 1 #[(0, Operand.tmp 32)], type := 25, pos := "paths.go:162", after := #[{ on := 7, ground := Ground.data }], guard := none } : Oper)) rfl (by decide) (fun K hK => ?_) AllE.nil)
  go_simp
  refine hK.out _ _ ?kf8x9 (fun hHeld2 => ?_)
  case kf8x9 => exact hH1.alloc hH1.size _
  clear hK K
  try simp only [Act.put, List.setIfInBounds_toArray, List.set_cons_zero, List.set_cons_succ]
  replace hHeld := hHeld2
  clear hHeld2
  refine wpAnyE_late (j := 9) (o := ({ dst := some 34, op := Op.call { callee := Callee.builtin Builtin.append, args := #[Operand.tmp 25, Operand.tmp 33], argTypes := #[25, 25] }, type := 25, pos := "paths.go:162", after := #[{ on := 0, ground := Ground.data }, { on := 8, ground := Ground.data }, { on := 2, ground := Ground.chain }], guard := none } : Oper)) (by kernel_rfl) (by decide) rfl (fun K hK => ?_)
  refine step_cellsA (by rfl) _ _ _ 40 (by rfl) Try.underlying25 infoPv (by rfl) (by decide) (by rfl) ((HG2.out.fm.below ho hHeld).alo) (by rfl) (one_pv V1 ⟨ts, s + 1, v.k⟩ C cC 40 V1.heap.size rfl ((s : Int) + 1) (show ((s : Int) + 1) = ((s + 1 : Nat) : Int) by omega)) (fun i _ => pvcell_one _ _ i) (by unfold maxLen; omega) (by omega) (Nat.zero_le _) (L.length + 1) rfl (pvcell (fun i => (L ++ [⟨ts, s + 1, v.k⟩])[i]!) (sAdd S L.length (C, cC))) (pvcell_cat L ⟨ts, s + 1, v.k⟩ S (C, cC)) ?_
  rintro A8 c8 W8 hA8 hg8 hat8
  rw [own_obk] at hg8
  rw [own_obk, own_obk] at hat8
  have hfm3 := HG2.out.fm.below ho hHeld
  have hpush := hfm3.push ho (y := ⟨ts, s + 1, v.k⟩) (hC.alloc _) (fun b e => by
    obtain ⟨e1, _, _⟩ := own_lt hC e
    have e1 : W2.heap.size ≤ b := e1
    have e9 := HG2.out.fm.lo
    exact ⟨⟨by omega, by omega, by omega, by omega, by omega⟩, fun e2 => by have := (own_lt HG2.out.fm.alo e2).2.1; omega, fun e2 => by have := (own_lt HG2.out.fm.teo e2).2.1; omega⟩) hA8 hg8 hat8
  have hal8 := (hg8.block x.Al (Nat.lt_of_lt_of_le hAl2 hHeld.size) (fun e => (hfm3.ao _ e).2.1 rfl)).trans hfm3.al
  have s8 := RowAt.cell hal8 0 _ rfl
  have s9 := RowAt.frozen hal8 0
  refine hK.out _ _ ?_
  clear hK K
  try simp only [Act.put, List.setIfInBounds_toArray, List.set_cons_zero, List.set_cons_succ]
  refine wpAnyE_late (j := 10) (o := ({ dst := none, op := Op.store 25 (Operand.tmp 4) (Operand.tmp 34), type := 0, pos := "paths.go:162", after := #[{ on := 9, ground := Ground.data }, { on := 9, ground := Ground.chain }, { on := 0, ground := Ground.phase }, { on := 1, ground := Ground.phase }, { on := 2, ground := Ground.phase }, { on := 3, ground := Ground.phase }, { on := 4, ground := Ground.phase }, { on := 5, ground := Ground.phase }, { on := 6, ground := Ground.phase }, { on := 7, ground := Ground.phase }, { on := 8, ground := Ground.phase }, { on := 9, ground := Ground.phase }], guard := none } : Oper)) (by kernel_rfl) (by decide) rfl (fun K hK => ?_)
  go_simp
  refine hK.out _ _ ?_
  clear hK K
  try simp only [Act.put, List.setIfInBounds_toArray, List.set_cons_zero, List.set_cons_succ]
  refine wpAnyE_done (by kernel_rfl) ?_ _
  have hk9 : GS x g n W2 L A T S (W8.setCell ⟨x.Al, 0, none⟩ (.slice A8 (L.length + 1) c8)) (L ++ [⟨ts, s + 1, v.k⟩]) ts A8 c8 T cT (sAdd S L.length (C, cC)) := ⟨hpush.1, (GKx.of_below hHeld).trans (fun b e => .inl e) (fun b e => .inl e) hpush.2, fun b e => by
    rcases hat8 with h9 | h9
    · rw [h9] at e; exact .inl e
    · rw [h9] at e
      injection e with e3
      have := hHeld.size
      exact .inr (by omega), fun b e => .inl e, fun j hj b e => by
    by_cases hjl : j < L.length
    · unfold sAdd at e
      rw [if_neg (by omega)] at e
      exact .inl ⟨j, hjl, e⟩
    · unfold sAdd at e
      rw [if_pos (by simp at hj; omega)] at e
      exact .inr (own_lt hC e).1⟩
  have HG9 := Lib.hid (HG2.out.trans hk9)
  have HX9 := Lib.hid (hk9.row (show RowAt W2 (w.heap.size + 1) _ _ from HRX.out) (by have := h.lo.2.1; omega) (by have := h.lo.2.2.1; omega) (fun e => by have := (own_lt h.alo e).2.1; omega) (fun e => by have := (own_lt h.teo e).2.1; omega))
  have y0 := RowAt.cell HX9.out 0 _ rfl
  have y1 := RowAt.cell HX9.out 1 _ rfl
  have y2 := RowAt.cell HX9.out 2 _ rfl
  have y3 := RowAt.cell HX9.out 3 _ rfl
  have y4 := RowAt.cell HX9.out 4 _ rfl
  have y5 := RowAt.cell HX9.out 5 _ rfl
  clear d3 d4 hk9 hpush hal8 s8 s9 hg8 hat8 hA8 hHeld
  generalize W8.setCell ⟨x.Al, 0, none⟩ (.slice A8 (L.length + 1) c8) = W9 at *
  go_wp2_with fail
  refine (isBranch_any 14 _).mono ?_
  rintro e w9 ⟨rfl, rfl⟩
  rw [show brK 14 = false from rfl]
  go_wp2_with fail
  refine (HL.out _).mono ?_
  rintro e w4 ⟨lA, m', rfl, ⟨hml, _, _⟩, hB4⟩
  obtain rfl : m' = 0 := hml
  have HGE := Lib.hid (HG9.out.below ho hB4)
  clear hB4
  go_wp2
  go_loopw [58] (fun i wr => i = .int .i64 0 ∧ wr = w4)
    (fun _ _ => 0)
  case atStart => exact ⟨rfl, rfl⟩
  case round =>
    obtain ⟨rfl, rfl⟩ := hrel
    go_wp2
    refine bodyPost_ret (results_none rfl _ _ _) rfl ?_
    exact ⟨rfl, _, _, _, _, _, HGE.out⟩
end Go.Proofs.Ytgndfcjfajnemaa
