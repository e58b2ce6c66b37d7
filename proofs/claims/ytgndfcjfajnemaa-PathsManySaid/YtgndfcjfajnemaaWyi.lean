/-
  Layer 27: the closure that gathers paths: at a branch. Made by gen_wyi.py.
-/
import Derived.Test.YtgndfcjfajnemaaWyh
namespace Go.Proofs.Ytgndfcjfajnemaa
open Go.RowKit Go.Shelf
set_option linter.unusedVariables false
theorem one_tb (w : World) (x : TV) (E : TypeId) (b : Nat) (hb : b = w.heap.size) : Cel (w.alloc (.cells #[.int .i64 x.p, .int .u32 x.m, .int .i64 x.d, .int .u32 x.k, .bool x.s] E)) (w.heap.size + 1) 5 (some ⟨b, 0, none⟩) 1 1 (tscell fun _ => x) := by
  subst hb
  exact one_test w x E
set_option maxRecDepth 100000 in
set_option maxHeartbeats 16000000 in
theorem fol_br (x : Bxs) (ho : x.ok) (g : Nat → IV) (n : Nat) (hF : Fmd g n) (hv : ∀ i, i < n → (g i).ok) (hk : ∀ i, i < n → okI (g i) = true) (m : Nat) (HIH : FolI x g n m) (i : Nat) (hi : i < n) (p q : Nat) (d : Int) (kk : Nat) (b : Bool) (s : Nat) (w : World) (L : List PV) (ts : List TV) (A : Option Addr) (cA : Nat) (T : Option Addr) (cT : Nat) (S : Nat → Option Addr × Nat) (h : FM x g n w L ts A cA T cT S) (hp : p < 4294967296) (hq : q < 4294967296) (hkk : kk < 4294967296) (hs : s + (n - i) ≤ 100000) (hts : ts.length + (n - i) ≤ 10000) (hKi : brK (kd (g i)) = true) (hm : n - i ≤ m + 1) (hL : L.length + (pF g (m + 1) i p q ts s).length ≤ 100000) :
    Calls Try.prog 36 #[.int .i64 i, .int .i64 s, .agg #[.int .i64 p, .int .u32 q, .int .i64 d, .int .u32 kk, .bool b], .pointer (some ⟨x.P, 0, none⟩), .pointer (some ⟨x.Al, 0, none⟩), .pointer (some ⟨x.Te, 0, none⟩), .pointer (some ⟨x.Fo, 0, none⟩)] w fun e w' => e = .returned (.tuple #[]) ∧ ∃ A' cA' T' cT' S', GS x g n w L A T S w' (L ++ pF g (m + 1) i p q ts s) ts A' cA' T' cT' S' := by
  have hn : ∀ z : Int, (z = 14 ∨ z = 15 ∨ z = 13 ∨ z = 1 ∨ z = 21) → kd (g i) ≠ z := fun z hz e => by
    rw [e] at hKi
    rcases hz with rfl | rfl | rfl | rfl | rfl <;> exact absurd hKi (by decide)
  have hpF : pF g (m + 1) i p q ts s = pF g m (i + 1 + (g i).t) p q (ts ++ [⟨(p : Int), q, kd (g i), (g i).k, true⟩]) (s + 1) ++ pF g m (i + 1 + (g i).f) p q (ts ++ [⟨(p : Int), q, kd (g i), (g i).k, false⟩]) (s + 1) := by
    show (if kd (g i) = 14 then _ else _) = _
    rw [if_neg (hn 14 (by simp)), if_pos hKi]
  have hnx : nexts (g i) i = [i + 1 + (g i).t, i + 1 + (g i).f] := by
    rw [← nexts_if]
    unfold nextsK
    have hb : (kd (g i) == 25 || kd (g i) == 26 || kd (g i) == 27 || kd (g i) == 28) = true := hKi
    rw [if_neg (by simp [hn 14 (by simp), hn 15 (by simp)]), if_neg (by simp [hn 13 (by simp)]), if_pos hb]
  have hto1 : i + 1 + (g i).t < n := next_lt hF hi (by rw [hnx]; simp)
  have hto2 : i + 1 + (g i).f < n := next_lt hF hi (by rw [hnx]; simp)
  obtain ⟨v, hgv⟩ : ∃ v, g i = v := ⟨_, rfl⟩
  obtain ⟨Kv, hKe⟩ : ∃ z, kd v = z := ⟨_, rfl⟩
  have hvo : v.ok := by rw [← hgv]; exact hv i hi
  have hle := hF.le
  have hin : n - i ≥ 1 := by omega
  have hb1 : Below w.heap.size w (w.alloc (.cells #[.int .i64 (p : Int), .int .u32 (q : Int), .int .i64 d, .int .u32 (kk : Int), .bool b] 49)) := (Below.refl _ _).alloc (Nat.le_refl _) _
  have hfm1 := h.below ho hb1
  have e0 := hfm1.pl.cell 0 _ rfl
  have hpc : ∀ j, j < 6 → (w.alloc (.cells #[.int .i64 (p : Int), .int .u32 (q : Int), .int .i64 d, .int .u32 (kk : Int), .bool b] 49)).cell? ⟨x.pb, i * 6 + j, none⟩ = some ((flA v i).getD j undef) := fun j hj => by
    rw [hfm1.pc _ (by omega), fcell_at g i j hj, hgv]
  have q0 : (w.alloc (.cells #[.int .i64 (p : Int), .int .u32 (q : Int), .int .i64 d, .int .u32 (kk : Int), .bool b] 49)).cell? ⟨x.pb, i * 6, none⟩ = some (.int .u16 v.c) := hpc 0 (by decide)
  have q1 : (w.alloc (.cells #[.int .i64 (p : Int), .int .u32 (q : Int), .int .i64 d, .int .u32 (kk : Int), .bool b] 49)).cell? ⟨x.pb, i * 6 + 1, none⟩ = some (.int .u8 v.t) := hpc 1 (by decide)
  have q2 : (w.alloc (.cells #[.int .i64 (p : Int), .int .u32 (q : Int), .int .i64 d, .int .u32 (kk : Int), .bool b] 49)).cell? ⟨x.pb, i * 6 + 2, none⟩ = some (.int .u8 v.f) := hpc 2 (by decide)
  have q3 : (w.alloc (.cells #[.int .i64 (p : Int), .int .u32 (q : Int), .int .i64 d, .int .u32 (kk : Int), .bool b] 49)).cell? ⟨x.pb, i * 6 + 3, none⟩ = some (.int .u32 v.k) := hpc 3 (by decide)
  have q4 : (w.alloc (.cells #[.int .i64 (p : Int), .int .u32 (q : Int), .int .i64 d, .int .u32 (kk : Int), .bool b] 49)).cell? ⟨x.pb, i * 6 + 4, none⟩ = some (.int .i64 Kv) := by have h4 := hpc 4 (by decide); rw [h4]; show some (Value.int .i64 (kd v)) = _; rw [hKe]
  have q5 : (w.alloc (.cells #[.int .i64 (p : Int), .int .u32 (q : Int), .int .i64 d, .int .u32 (kk : Int), .bool b] 49)).cell? ⟨x.pb, i * 6 + 5, none⟩ = some (.int .i64 i) := hpc 5 (by decide)
  have i1 : (0 : Int) ≤ (i : Int) := by omega
  have i2 : (i : Int) < (n : Int) := by omega
  have hb2 : Below w.heap.size w ((w.alloc (.cells #[.int .i64 (p : Int), .int .u32 (q : Int), .int .i64 d, .int .u32 (kk : Int), .bool b] 49)).alloc (.cells #[.int .u16 v.c, .int .u8 v.t, .int .u8 v.f, .int .u32 v.k, .int .i64 Kv, .int .i64 (i : Int)] 88)) := hb1.alloc hb1.size _
  have HG2 := Lib.hid ((GS.of h).below ho hb2)
  have hra : RowC ((w.alloc (.cells #[.int .i64 (p : Int), .int .u32 (q : Int), .int .i64 d, .int .u32 (kk : Int), .bool b] 49)).alloc (.cells #[.int .u16 v.c, .int .u8 v.t, .int .u8 v.f, .int .u32 v.k, .int .i64 Kv, .int .i64 (i : Int)] 88)) w.heap.size #[.int .i64 (p : Int), .int .u32 (q : Int), .int .i64 d, .int .u32 (kk : Int), .bool b] 49 := (RowC.new _ _ _ _ rfl).alloc _
  have hrx : RowC ((w.alloc (.cells #[.int .i64 (p : Int), .int .u32 (q : Int), .int .i64 d, .int .u32 (kk : Int), .bool b] 49)).alloc (.cells #[.int .u16 v.c, .int .u8 v.t, .int .u8 v.f, .int .u32 v.k, .int .i64 Kv, .int .i64 (i : Int)] 88)) (w.heap.size + 1) #[.int .u16 v.c, .int .u8 v.t, .int .u8 v.f, .int .u32 v.k, .int .i64 Kv, .int .i64 (i : Int)] 88 := RowC.new _ _ _ _ (by simp)
  have HRA := Lib.hid hra
  have HRX := Lib.hid hrx
  have hsz2 : ((w.alloc (.cells #[.int .i64 (p : Int), .int .u32 (q : Int), .int .i64 d, .int .u32 (kk : Int), .bool b] 49)).alloc (.cells #[.int .u16 v.c, .int .u8 v.t, .int .u8 v.f, .int .u32 v.k, .int .i64 Kv, .int .i64 (i : Int)] 88)).heap.size = w.heap.size + 2 := by simp
  have HSZ := Lib.hid hsz2
  have hlo := h.lo
  have d4 := hrx.cell 4 _ rfl
  have d3 := hrx.cell 3 _ rfl
  clear hra hrx hb1 hb2 hfm1 hpc hsz2
  rw [hgv] at hpF hnx hto1 hto2 hKi hn
  have hk15 := hn 15 (by simp)
  have h14 := hn 14 (by simp)
  have h1 := hn 1 (by simp)
  have h21 := hn 21 (by simp)
  have HL : Hid (∀ W, Calls Try.prog 35 #[.agg #[.int .u16 v.c, .int .u8 v.t, .int .u8 v.f, .int .u32 v.k, .int .i64 Kv, .int .i64 (i : Int)]] W fun e w' => ∃ A m, e = .returned (.slice A m m) ∧ I64s w' W.heap.size A m [i + 1 + v.t, i + 1 + v.f] ∧ Below W.heap.size W w') := Lib.hid fun W => by
    have h1 := pleads_any v hvo hk15 i W (by omega)
    rw [hnx] at h1
    simp only [flV, hKe] at h1
    exact h1
  rw [hKe] at hpF hKi h14 h1 h21
  rw [hpF] at hL
  rw [hpF]
  have hvk : v.k < 4294967296 := hvo.2.2.2
  obtain ⟨t1, ht1⟩ : ∃ z, i + 1 + v.t = z := ⟨_, rfl⟩
  obtain ⟨t2, ht2⟩ : ∃ z, i + 1 + v.f = z := ⟨_, rfl⟩
  rw [ht1, ht2] at HL hL ⊢
  rw [ht1] at hto1
  rw [ht2] at hto2
  have hti1 : i < t1 := by omega
  have hti2 : i < t2 := by omega
  have n14 : (Kv == 14) = false := by simpa using h14
  have n1 : (Kv == 1) = false := by simpa using h1
  have n21 : (Kv == 21) = false := by simpa using h21
  clear hgv hKe hpF hnx hn hk15 h14 h1 h21 ht1 ht2
  go_enter Try.func36, Try.ntmps36
  go_wp2_with fail
  obtain ⟨W2, hW2⟩ : ∃ W2, (w.alloc (.cells #[.int .i64 (p : Int), .int .u32 (q : Int), .int .i64 d, .int .u32 (kk : Int), .bool b] 49)).alloc (.cells #[.int .u16 v.c, .int .u8 v.t, .int .u8 v.f, .int .u32 v.k, .int .i64 Kv, .int .i64 (i : Int)] 88) = W2 := ⟨_, rfl⟩
  rw [hW2] at HG2 HRA HRX HSZ d3 d4 ⊢
  clear hW2 e0 q0 q1 q2 q3 q4 q5
  refine (isBranch_any Kv _).mono ?_
  rintro e w9 ⟨rfl, rfl⟩
  rw [hKi]
  go_wp2
  have ra2 : W2.drew.cell? ⟨w.heap.size, 2, none⟩ = some (.int .i64 d) := HRA.out.cell 2 _ rfl
  have rf2 : W2.drew.frozen? ⟨w.heap.size, 2, none⟩ = false := HRA.out.frozen 2
  have hra5 : RowC (W2.setCell ⟨w.heap.size, 2, none⟩ (.int .i64 Kv)).drew w.heap.size #[.int .i64 (p : Int), .int .u32 (q : Int), .int .i64 Kv, .int .u32 (kk : Int), .bool b] 49 := HRA.out.set 2 (.int .i64 Kv)
  have ra3 := hra5.cell 3 _ rfl
  have rf3 := hra5.frozen 3
  have HA3 : Hid (RowC ((W2.setCell ⟨w.heap.size, 2, none⟩ (.int .i64 Kv)).setCell ⟨w.heap.size, 3, none⟩ (.int .u32 (v.k : Int))).drew w.heap.size #[.int .i64 (p : Int), .int .u32 (q : Int), .int .i64 Kv, .int .u32 (v.k : Int), .bool b] 49) := Lib.hid ((HRA.out.set 2 (.int .i64 Kv)).set 3 (.int .u32 (v.k : Int)))
  clear hra5
  refine wp_region_E (S := fun V => RowC V (w.heap.size + 1) #[.int .u16 v.c, .int .u8 v.t, .int .u8 v.f, .int .u32 v.k, .int .i64 Kv, .int .i64 (i : Int)] 88) 8 (by kernel_rfl) ?_
  have hHeld : RowC W2.drew (w.heap.size + 1) #[.int .u16 v.c, .int .u8 v.t, .int .u8 v.f, .int .u32 v.k, .int .i64 Kv, .int .i64 (i : Int)] 88 := HRX.out
  refine wpAnyE_take (i := 0) (oi := ({ dst := some 68, op := Op.fieldAddr 88 (Operand.tmp 10) 1, type := 0, pos := "paths.go:174", after := #[], guard := none } : Oper)) (v := ?vg0x1) rfl (by kernel_rfl) (by decide) (by kernel_rfl) (fun _ _ _ h => h) (by rfl) ?hg0x1 hHeld ?rg0x1
  case hg0x1 =>
    intro V hV
    have s1 := hV.cell 4 _ rfl
    have s3 := hV.cell 3 _ rfl
    go_simp
    all_goals with_reducible rfl
  try simp only [Act.put, List.setIfInBounds_toArray, List.set_cons_zero, List.set_cons_succ]
  refine wpAnyE_take (i := 1) (oi := ({ dst := some 69, op := Op.load 47 (Operand.tmp 68), type := 47, pos := "paths.go:174", after := #[{ on := 0, ground := Ground.data }], guard := none } : Oper)) (v := ?vg1x2) rfl (by kernel_rfl) (by decide) (by kernel_rfl) (fun _ _ _ h => h) (by rfl) ?hg1x2 hHeld ?rg1x2
  case hg1x2 =>
    intro V hV
    have s1 := hV.cell 4 _ rfl
    have s3 := hV.cell 3 _ rfl
    go_simp
    all_goals with_reducible rfl
  try simp only [Act.put, List.setIfInBounds_toArray, List.set_cons_zero, List.set_cons_succ]
  refine wpAnyE_take (i := 2) (oi := ({ dst := some 70, op := Op.fieldAddr 88 (Operand.tmp 10) 0, type := 0, pos := "paths.go:174", after := #[{ on := 6, ground := Ground.gcOnly Departure.lateStores }], guard := none } : Oper)) (v := ?vg2x3) rfl (by kernel_rfl) (by decide) (by kernel_rfl) (fun _ _ _ h => h) (by rfl) ?hg2x3 hHeld ?rg2x3
  case hg2x3 =>
    intro V hV
    have s1 := hV.cell 4 _ rfl
    have s3 := hV.cell 3 _ rfl
    go_simp
    all_goals with_reducible rfl
  try simp only [Act.put, List.setIfInBounds_toArray, List.set_cons_zero, List.set_cons_succ]
  refine wpAnyE_take (i := 3) (oi := ({ dst := some 71, op := Op.fieldAddr 61 (Operand.tmp 70) 3, type := 0, pos := "paths.go:174", after := #[{ on := 2, ground := Ground.data }, { on := 6, ground := Ground.gcOnly Departure.lateStores }], guard := none } : Oper)) (v := ?vg3x4) rfl (by kernel_rfl) (by decide) (by kernel_rfl) (fun _ _ _ h => h) (by rfl) ?hg3x4 hHeld ?rg3x4
  case hg3x4 =>
    intro V hV
    have s1 := hV.cell 4 _ rfl
    have s3 := hV.cell 3 _ rfl
    go_simp
    all_goals with_reducible rfl
  try simp only [Act.put, List.setIfInBounds_toArray, List.set_cons_zero, List.set_cons_succ]
  refine wpAnyE_take (i := 4) (oi := ({ dst := some 72, op := Op.load 36 (Operand.tmp 71), type := 36, pos := "paths.go:174", after := #[{ on := 3, ground := Ground.data }, { on := 6, ground := Ground.gcOnly Departure.lateStores }], guard := none } : Oper)) (v := ?vg4x5) rfl (by kernel_rfl) (by decide) (by kernel_rfl) (fun _ _ _ h => h) (by rfl) ?hg4x5 hHeld ?rg4x5
  case hg4x5 =>
    intro V hV
    have s1 := hV.cell 4 _ rfl
    have s3 := hV.cell 3 _ rfl
    go_simp
    all_goals with_reducible rfl
  try simp only [Act.put, List.setIfInBounds_toArray, List.set_cons_zero, List.set_cons_succ]
  refine wpAnyE_take (i := 5) (oi := ({ dst := some 73, op := Op.fieldAddr 49 (Operand.tmp 9) 2, type := 0, pos := "paths.go:174", after := #[{ on := 0, ground := Ground.phase }, { on := 1, ground := Ground.phase }, { on := 2, ground := Ground.textOnly Departure.lateStores }, { on := 3, ground := Ground.textOnly Departure.lateStores }, { on := 4, ground := Ground.textOnly Departure.lateStores }], guard := none } : Oper)) (v := ?vg5x6) rfl (by kernel_rfl) (by decide) (by kernel_rfl) (fun _ _ _ h => h) (by rfl) ?hg5x6 hHeld ?rg5x6
  case hg5x6 =>
    intro V hV
    have s1 := hV.cell 4 _ rfl
    have s3 := hV.cell 3 _ rfl
    go_simp
    all_goals with_reducible rfl
  try simp only [Act.put, List.setIfInBounds_toArray, List.set_cons_zero, List.set_cons_succ]
  refine wpAnyE_ready (rs := [6]) (by kernel_rfl) (by simp) ?_
  refine (AllE.cons (o := ({ dst := none, op := Op.store 47 (Operand.tmp 73) (Operand.tmp 69), type := 0, pos := "paths.go:174", after := #[{ on := 5, ground := Ground.data }, { on := 1, ground := Ground.data }, { on := 0, ground := Ground.phase }, { on := 1, ground := Ground.phase }, { on := 2, ground := Ground.textOnly Departure.lateStores }, { on := 3, ground := Ground.textOnly Departure.lateStores }, { on := 4, ground := Ground.textOnly Departure.lateStores }], guard := none } : Oper)) rfl (by decide) (fun K hK => ?_) AllE.nil)
  go_simp
  refine hK.out _ _ ?kg6x7 (fun hHeld2 => ?_)
  case kg6x7 => exact hHeld.setOther 2 _ (by omega)
  clear hK K
  try simp only [Act.put, List.setIfInBounds_toArray, List.set_cons_zero, List.set_cons_succ]
  replace hHeld := hHeld2
  clear hHeld2
  refine wpAnyE_take (i := 7) (oi := ({ dst := some 74, op := Op.fieldAddr 49 (Operand.tmp 9) 3, type := 0, pos := "paths.go:174", after := #[{ on := 0, ground := Ground.phase }, { on := 1, ground := Ground.phase }, { on := 2, ground := Ground.phase }, { on := 3, ground := Ground.phase }, { on := 4, ground := Ground.phase }, { on := 5, ground := Ground.phase }, { on := 6, ground := Ground.phase }], guard := none } : Oper)) (v := ?vg7x8) rfl (by kernel_rfl) (by decide) (by kernel_rfl) (fun _ _ _ h => h) (by rfl) ?hg7x8 hHeld ?rg7x8
  case hg7x8 =>
    intro V hV
    skip
    go_simp
    all_goals with_reducible rfl
  try simp only [Act.put, List.setIfInBounds_toArray, List.set_cons_zero, List.set_cons_succ]
  refine wpAnyE_late (j := 8) (o := ({ dst := none, op := Op.store 36 (Operand.tmp 74) (Operand.tmp 72), type := 0, pos := "paths.go:174", after := #[{ on := 7, ground := Ground.data }, { on := 4, ground := Ground.data }, { on := 6, ground := Ground.chain }, { on := 0, ground := Ground.phase }, { on := 1, ground := Ground.phase }, { on := 2, ground := Ground.phase }, { on := 3, ground := Ground.phase }, { on := 4, ground := Ground.phase }, { on := 5, ground := Ground.phase }, { on := 6, ground := Ground.phase }], guard := none } : Oper)) (by kernel_rfl) (by decide) rfl (fun K hK => ?_)
  go_simp
  refine hK.out _ _ ?_
  clear hK K
  try simp only [Act.put, List.setIfInBounds_toArray, List.set_cons_zero, List.set_cons_succ]
  refine wpAnyE_done (by kernel_rfl) ?_ _
  have hXn : w.heap.size + 1 ≠ w.heap.size := by omega
  have HX3 : Hid (RowC ((W2.setCell ⟨w.heap.size, 2, none⟩ (.int .i64 Kv)).setCell ⟨w.heap.size, 3, none⟩ (.int .u32 (v.k : Int))).drew (w.heap.size + 1) #[.int .u16 v.c, .int .u8 v.t, .int .u8 v.f, .int .u32 v.k, .int .i64 Kv, .int .i64 (i : Int)] 88) := Lib.hid ((HRX.out.setOther 2 (.int .i64 Kv) hXn).setOther 3 (.int .u32 (v.k : Int)) hXn)
  have hfr : some w.heap.size ≠ obk A ∧ some w.heap.size ≠ obk T ∧ ∀ j, j < L.length → some w.heap.size ≠ obk (S j).1 := ⟨fun e => by have := (own_lt h.alo e).2.1; omega, fun e => by have := (own_lt h.teo e).2.1; omega, fun j hj e => by have := ((h.cl j hj).2 _ e).2.1; omega⟩
  have hout : x.out w.heap.size := ⟨by have := h.lo; omega, by have := h.lo; omega, by have := h.lo; omega, by have := h.lo; omega, by have := h.lo; omega⟩
  have HG3 := Lib.hid (((HG2.out.aside ho (Nat.le_refl _) hout hfr.1 hfr.2.1 hfr.2.2 2 (.int .i64 Kv)).aside ho (Nat.le_refl _) hout hfr.1 hfr.2.1 hfr.2.2 3 (.int .u32 (v.k : Int))).below ho (Below.refl _ _).drew)
  have hsz3 : ((W2.setCell ⟨w.heap.size, 2, none⟩ (.int .i64 Kv)).setCell ⟨w.heap.size, 3, none⟩ (.int .u32 (v.k : Int))).drew.heap.size = w.heap.size + 2 := by rw [← HSZ.out]; simp [World.setCell]
  clear ra2 rf2 ra3 rf3 d3 d4 hHeld HG2 HRA HRX
  generalize ((W2.setCell ⟨w.heap.size, 2, none⟩ (.int .i64 Kv)).setCell ⟨w.heap.size, 3, none⟩ (.int .u32 (v.k : Int))).drew = W3 at *
  have y0 := RowC.cell HX3.out 0 _ rfl
  have y1 := RowC.cell HX3.out 1 _ rfl
  have y2 := RowC.cell HX3.out 2 _ rfl
  have y3 := RowC.cell HX3.out 3 _ rfl
  have y4 := RowC.cell HX3.out 4 _ rfl
  have y5 := RowC.cell HX3.out 5 _ rfl
  go_wp2_with fail
  refine (HL.out _).mono ?_
  rintro e w4 ⟨lA, m', rfl, ⟨hml, hcel, hblk⟩, hB4⟩
  obtain rfl : m' = 2 := hml
  have HG4 := Lib.hid (HG3.out.below ho hB4)
  have HA4 := Lib.hid (HA3.out.below hB4 HA3.out.lt)
  obtain ⟨lb, lof, rfl, hlb, hlc⟩ := hcel.at_ (by decide)
  have l0 : w4.cell? ⟨lb, lof, none⟩ = some (.int .i64 (t1 : Nat)) := hlc 0 (by decide)
  have l1 : w4.cell? ⟨lb, lof + 1, none⟩ = some (.int .i64 (t2 : Nat)) := hlc 1 (by decide)
  have hlb3 : W3.heap.size ≤ lb := hblk _ rfl
  have hlbx : x.out lb ∧ lb ≠ w.heap.size := ⟨⟨by have := h.lo; omega, by have := h.lo; omega, by have := h.lo; omega, by have := h.lo; omega, by have := h.lo; omega⟩, by omega⟩
  have hlr : some lb ≠ obk A ∧ some lb ≠ obk T := ⟨fun e => by have := (own_lt h.alo e).2.1; omega, fun e => by have := (own_lt h.teo e).2.1; omega⟩
  rw [List.length_append] at hL
  clear hlc hcel hB4 y0 y1 y2 y3 y4 y5 HX3 HG3 HA3 HL hblk hlb3 hsz3
  go_wp2
  go_loopw [78] (fun ix wr => (ix = .int .i64 0 ∧ (∃ A1 cA1 T1 cT1 S1 bb, GS x g n w L A T S wr (L) ts A1 cA1 T1 cT1 S1 ∧ RowC wr w.heap.size #[.int .i64 (p : Int), .int .u32 (q : Int), .int .i64 Kv, .int .u32 (v.k : Int), .bool bb] 49 ∧ wr.cell? ⟨lb, lof, none⟩ = some (.int .i64 (t1 : Nat)) ∧ wr.cell? ⟨lb, lof + 1, none⟩ = some (.int .i64 (t2 : Nat)) ∧ lb < wr.heap.size ∧ (some w.heap.size ≠ obk A1 ∧ some w.heap.size ≠ obk T1 ∧ ∀ j, j < (L).length → some w.heap.size ≠ obk (S1 j).1) ∧ some lb ≠ obk A1 ∧ some lb ≠ obk T1)) ∨ (ix = .int .i64 1 ∧ (∃ A1 cA1 T1 cT1 S1 bb, GS x g n w L A T S wr (L ++ pF g m t1 p q (ts ++ [⟨(p : Int), q, Kv, v.k, true⟩]) (s + 1)) ts A1 cA1 T1 cT1 S1 ∧ RowC wr w.heap.size #[.int .i64 (p : Int), .int .u32 (q : Int), .int .i64 Kv, .int .u32 (v.k : Int), .bool bb] 49 ∧ wr.cell? ⟨lb, lof, none⟩ = some (.int .i64 (t1 : Nat)) ∧ wr.cell? ⟨lb, lof + 1, none⟩ = some (.int .i64 (t2 : Nat)) ∧ lb < wr.heap.size ∧ (some w.heap.size ≠ obk A1 ∧ some w.heap.size ≠ obk T1 ∧ ∀ j, j < (L ++ pF g m t1 p q (ts ++ [⟨(p : Int), q, Kv, v.k, true⟩]) (s + 1)).length → some w.heap.size ≠ obk (S1 j).1) ∧ some lb ≠ obk A1 ∧ some lb ≠ obk T1)) ∨ (ix = .int .i64 2 ∧ (∃ A1 cA1 T1 cT1 S1 bb, GS x g n w L A T S wr (L ++ (pF g m t1 p q (ts ++ [⟨(p : Int), q, Kv, v.k, true⟩]) (s + 1) ++ pF g m t2 p q (ts ++ [⟨(p : Int), q, Kv, v.k, false⟩]) (s + 1))) ts A1 cA1 T1 cT1 S1 ∧ RowC wr w.heap.size #[.int .i64 (p : Int), .int .u32 (q : Int), .int .i64 Kv, .int .u32 (v.k : Int), .bool bb] 49 ∧ wr.cell? ⟨lb, lof, none⟩ = some (.int .i64 (t1 : Nat)) ∧ wr.cell? ⟨lb, lof + 1, none⟩ = some (.int .i64 (t2 : Nat)) ∧ lb < wr.heap.size ∧ (some w.heap.size ≠ obk A1 ∧ some w.heap.size ≠ obk T1 ∧ ∀ j, j < (L ++ (pF g m t1 p q (ts ++ [⟨(p : Int), q, Kv, v.k, true⟩]) (s + 1) ++ pF g m t2 p q (ts ++ [⟨(p : Int), q, Kv, v.k, false⟩]) (s + 1))).length → some w.heap.size ≠ obk (S1 j).1) ∧ some lb ≠ obk A1 ∧ some lb ≠ obk T1)))
    (fun ix _ => 2 - (intOf ix).toNat)
  case atStart => exact .inl ⟨rfl, A, cA, T, cT, S, b, HG4.out, HA4.out, l0, l1, hlb, hfr, hlr.1, hlr.2⟩
  case round =>
    clear l0 l1 HG4 HA4 hfr hlr hlb
    rcases hrel with ⟨rfl, hinv⟩ | ⟨rfl, hinv⟩ | ⟨rfl, hinv⟩
    · obtain ⟨A1, cA1, T1, cT1, S1, bb, hG, hA, c0, c1, hlt, ⟨hx1, hx2, hx3⟩, hl1, hl2⟩ := hinv
      have hw1 : w.heap.size < wr.heap.size := hA.lt
      have hlo1 : x.out w.heap.size := ⟨by have := h.lo; omega, by have := h.lo; omega, by have := h.lo; omega, by have := h.lo; omega, by have := h.lo; omega⟩
      have HLB : Hid (x.out lb ∧ lb ≠ w.heap.size) := Lib.hid hlbx
      have a4 := hA.cell 4 _ rfl
      have fa4 := hA.frozen 4
      have HGp := Lib.hid (hG.aside ho (Nat.le_refl _) hlo1 hx1 hx2 hx3 4 (.bool true))
      have hAp : RowC (wr.setCell ⟨w.heap.size, 4, none⟩ (.bool true)) w.heap.size #[.int .i64 (p : Int), .int .u32 (q : Int), .int .i64 Kv, .int .u32 (v.k : Int), .bool true] 49 := hA.set 4 (.bool true)
      have p0 := hAp.cell 0 _ rfl
      have p1 := hAp.cell 1 _ rfl
      have p2 := hAp.cell 2 _ rfl
      have p3 := hAp.cell 3 _ rfl
      have p4 := hAp.cell 4 _ rfl
      have te0 := RowAt.cell HGp.out.fm.te 0 _ rfl
      have hszU : (wr.setCell ⟨w.heap.size, 4, none⟩ (.bool true)).heap.size = wr.heap.size := by simp [World.setCell]
      have hba : Below (wr.setCell ⟨w.heap.size, 4, none⟩ (.bool true)).heap.size (wr.setCell ⟨w.heap.size, 4, none⟩ (.bool true)) ((wr.setCell ⟨w.heap.size, 4, none⟩ (.bool true)).alloc (.cells #[.int .i64 (p : Int), .int .u32 (q : Int), .int .i64 Kv, .int .u32 (v.k : Int), .bool true] 49)) := (Below.refl _ _).alloc (Nat.le_refl _) _
      have HGa := Lib.hid (HGp.out.fm.below ho hba)
      have HAa := Lib.hid (hAp.alloc (.cells #[.int .i64 (p : Int), .int .u32 (q : Int), .int .i64 Kv, .int .u32 (v.k : Int), .bool true] 49))
      have HC0 : Hid (((wr.setCell ⟨w.heap.size, 4, none⟩ (.bool true)).alloc (.cells #[.int .i64 (p : Int), .int .u32 (q : Int), .int .i64 Kv, .int .u32 (v.k : Int), .bool true] 49)).cell? ⟨lb, lof, none⟩ = some (.int .i64 (t1 : Nat))) := Lib.hid ((hba.cell (p := ⟨lb, lof, none⟩) (by rw [hszU]; exact hlt)).trans ((World.cell?_of_block (w := wr) (a := ⟨lb, lof, none⟩) (Below.heap_setCell _ _ _ _ hlbx.2)).trans c0))
      have HC1 : Hid (((wr.setCell ⟨w.heap.size, 4, none⟩ (.bool true)).alloc (.cells #[.int .i64 (p : Int), .int .u32 (q : Int), .int .i64 Kv, .int .u32 (v.k : Int), .bool true] 49)).cell? ⟨lb, lof + 1, none⟩ = some (.int .i64 (t2 : Nat))) := Lib.hid ((hba.cell (p := ⟨lb, lof + 1, none⟩) (by rw [hszU]; exact hlt)).trans ((World.cell?_of_block (w := wr) (a := ⟨lb, lof + 1, none⟩) (Below.heap_setCell _ _ _ _ hlbx.2)).trans c1))
      have hsza : ((wr.setCell ⟨w.heap.size, 4, none⟩ (.bool true)).alloc (.cells #[.int .i64 (p : Int), .int .u32 (q : Int), .int .i64 Kv, .int .u32 (v.k : Int), .bool true] 49)).heap.size = wr.heap.size + 1 := by simp [World.setCell]
      have HBA := Lib.hid hba
      have HX := Lib.hid (⟨hx1, hx2, hx3⟩ : some w.heap.size ≠ obk A1 ∧ some w.heap.size ≠ obk T1 ∧ ∀ j, j < (L).length → some w.heap.size ≠ obk (S1 j).1)
      have HLL := Lib.hid (⟨hl1, hl2⟩ : some lb ≠ obk A1 ∧ some lb ≠ obk T1)
      clear hG hA hAp hba hx1 hx2 hx3 hl1 hl2 hlbx
      go_wp2_with (at_builtin; go_must (refine app_cellsA _ rfl _ _ _ 49 rfl Try.underlying38 infoTst rfl (by decide) rfl HGa.out.teo rfl (one_tb (wr.setCell ⟨w.heap.size, 4, none⟩ (.bool true)) ⟨(p : Int), q, Kv, v.k, true⟩ 49 wr.heap.size hszU.symm) (fun i _ => tscell_one _ i) (by unfold maxLen; omega) (by omega) (Nat.zero_le _) (ts.length + 1) rfl (tscell fun i => (ts ++ [⟨(p : Int), q, Kv, v.k, true⟩])[i]!) (tscell_snoc ts ⟨(p : Int), q, Kv, v.k, true⟩) ?_; rintro T2 cT2 w4' hT2 hg4 hat4; rw [own_obk] at hg4; rw [own_obk, own_obk] at hat4; have htp := HGa.out.tpush ho hT2 hg4 hat4; have hte4 := (hg4.block x.Te HGa.out.lo.2.2.1 (fun e => (HGa.out.to_ _ e).2.2.1 rfl)).trans HGa.out.te; have s8 := RowAt.cell hte4 0 _ rfl; have s9 := RowAt.frozen hte4 0; have HTP := Lib.hid htp; have HAT := Lib.hid hat4; have ha5 : RowC (w4'.setCell ⟨x.Te, 0, none⟩ (.slice T2 (ts.length + 1) cT2)) w.heap.size #[.int .i64 (p : Int), .int .u32 (q : Int), .int .i64 Kv, .int .u32 (v.k : Int), .bool true] 49 := (htp.2.block w.heap.size (by rw [hsza]; omega) (by have := h.lo.2.1; omega) (by have := h.lo.2.2.1; omega) HX.out.1 HX.out.2.1).trans HAa.out; have z0 := ha5.cell 0 _ rfl; have z1 := ha5.cell 1 _ rfl; have z2 := ha5.cell 2 _ rfl; have z3 := ha5.cell 3 _ rfl; have z4 := ha5.cell 4 _ rfl; have HA5 := Lib.hid ha5; have fo0 : (w4'.setCell ⟨x.Te, 0, none⟩ (.slice T2 (ts.length + 1) cT2)).cell? ⟨x.Fo, 0, none⟩ = some (.func (.func 36) #[] #[.pointer (some ⟨x.P, 0, none⟩), .pointer (some ⟨x.Al, 0, none⟩), .pointer (some ⟨x.Te, 0, none⟩), .pointer (some ⟨x.Fo, 0, none⟩)]) := RowAt.cell htp.1.fo 0 _ rfl; clear htp hat4 ha5 hte4 hT2 hg4))
      have hR := HIH t1 (by omega) hto1 p q Kv v.k true (s + 1) _ (L) (ts ++ [⟨(p : Int), q, Kv, v.k, true⟩]) A1 cA1 T2 cT2 S1 HTP.out.1 hp hq hvk (by omega) (by rw [List.length_append]; simp only [List.length_cons, List.length_nil]; omega) (by omega)
      refine hR.mono ?_
      rintro e w6 ⟨rfl, A3, cA3, T3, cT3, S3, hk⟩
      have htpop := hk.fm.tpop ho
      have G5 : GS x g n ((wr.setCell ⟨w.heap.size, 4, none⟩ (.bool true)).alloc (.cells #[.int .i64 (p : Int), .int .u32 (q : Int), .int .i64 Kv, .int .u32 (v.k : Int), .bool true] 49)) (L) A1 T1 S1 (w4'.setCell ⟨x.Te, 0, none⟩ (.slice T2 (ts.length + 1) cT2)) (L) (ts ++ [⟨(p : Int), q, Kv, v.k, true⟩]) A1 cA1 T2 cT2 S1 := ⟨HTP.out.1, HTP.out.2, fun b e => .inl e, fun b e => by
        rcases HAT.out with h9 | h9
        · rw [h9] at e; exact .inl e
        · rw [h9] at e
          injection e with e3
          exact .inr (Nat.le_of_eq e3.symm), fun j hj b e => .inl ⟨j, hj, e⟩⟩
      have G7 : GS x g n w6 ((L) ++ pF g m t1 p q (ts ++ [⟨(p : Int), q, Kv, v.k, true⟩]) (s + 1)) A3 T3 S3 (w6.setCell ⟨x.Te, 0, none⟩ (.slice T3 ts.length cT3)) ((L) ++ pF g m t1 p q (ts ++ [⟨(p : Int), q, Kv, v.k, true⟩]) (s + 1)) ts A3 cA3 T3 cT3 S3 := ⟨htpop.1, htpop.2, fun b e => .inl e, fun b e => .inl e, fun j hj b e => .inl ⟨j, hj, e⟩⟩
      have HGX := Lib.hid ((G5.trans hk).trans G7)
      have HGZ := Lib.hid ((HGp.out.below ho HBA.out).trans HGX.out)
      obtain ⟨tb, etb, _⟩ := hk.fm.teo.at_ (by simp)
      have hle3 := hk.fm.teo.cel.le
      have te6 := RowAt.cell hk.fm.te 0 _ rfl
      have tf6 := RowAt.frozen hk.fm.te 0
      subst etb
      have elen : (ts ++ [(⟨(p : Int), q, Kv, v.k, true⟩ : TV)]).length = ts.length + 1 := by simp
      have te6 : w6.cell? ⟨x.Te, 0, none⟩ = some (.slice (some ⟨tb, 0, none⟩) (ts.length + 1) cT3) := by rw [← elen]; exact te6
      rw [elen] at hle3
      have hcap : ts.length ≤ cT3 := by omega
      have hcm := hle3.2
      unfold maxLen at hcm
      have hw8 : IntKind.i64.wrap (((ts.length : Int) + 1) - 1) = (ts.length : Int) := by rw [IntWalk.i64_in _ (by omega)]; omega
      clear hk htpop G5 G7 hle3
      go_wp2
      have hal := h.lo.2.1
      have hte := h.lo.2.2.1
      have HA7 : RowC (w6.setCell ⟨x.Te, 0, none⟩ (.slice (some ⟨tb, 0, none⟩) ts.length cT3)) w.heap.size #[.int .i64 (p : Int), .int .u32 (q : Int), .int .i64 Kv, .int .u32 (v.k : Int), .bool true] 49 := (HGX.out.gk.block w.heap.size (by rw [hsza]; omega) (by omega) (by omega) HX.out.1 HX.out.2.1).trans HAa.out
      have hkl := HGX.out.gk.block lb (by rw [hsza]; omega) HLB.out.1.2.1 HLB.out.1.2.2.1 HLL.out.1 HLL.out.2
      have e1 := (World.cell?_of_block (w := (wr.setCell ⟨w.heap.size, 4, none⟩ (.bool true)).alloc (.cells #[.int .i64 (p : Int), .int .u32 (q : Int), .int .i64 Kv, .int .u32 (v.k : Int), .bool true] 49)) (a := ⟨lb, lof, none⟩) hkl).trans HC0.out
      have e2 := (World.cell?_of_block (w := (wr.setCell ⟨w.heap.size, 4, none⟩ (.bool true)).alloc (.cells #[.int .i64 (p : Int), .int .u32 (q : Int), .int .i64 Kv, .int .u32 (v.k : Int), .bool true] 49)) (a := ⟨lb, lof + 1, none⟩) hkl).trans HC1.out
      have hs7 := Nat.lt_of_lt_of_le (show lb < ((wr.setCell ⟨w.heap.size, 4, none⟩ (.bool true)).alloc (.cells #[.int .i64 (p : Int), .int .u32 (q : Int), .int .i64 Kv, .int .u32 (v.k : Int), .bool true] 49)).heap.size by rw [hsza]; omega) HGX.out.gk.size
      have f1 : some w.heap.size ≠ obk A3 := fun e => (HGX.out.na _ e).elim HX.out.1 fun h => by rw [hsza] at h; omega
      have f2 : some w.heap.size ≠ obk (some ⟨tb, 0, none⟩) := fun e => (HGX.out.nt _ e).elim HX.out.2.1 fun h => by rw [hsza] at h; omega
      have f3 : ∀ j, j < ((L) ++ pF g m t1 p q (ts ++ [⟨(p : Int), q, Kv, v.k, true⟩]) (s + 1)).length → some w.heap.size ≠ obk (S3 j).1 := fun j hj e => (HGX.out.nc j hj _ e).elim (fun ⟨j', hj', e'⟩ => HX.out.2.2 j' hj' e') fun h => by rw [hsza] at h; omega
      have g1 : some lb ≠ obk A3 := fun e => (HGX.out.na _ e).elim HLL.out.1 fun h => by rw [hsza] at h; omega
      have g2 : some lb ≠ obk (some ⟨tb, 0, none⟩) := fun e => (HGX.out.nt _ e).elim HLL.out.2 fun h => by rw [hsza] at h; omega
      exact ⟨.inr (.inl ⟨by go_num, A3, cA3, _, cT3, S3, true, HGZ.out, HA7, e1, e2, hs7, ⟨f1, f2, f3⟩, g1, g2⟩), by simp [intOf]⟩
    · obtain ⟨A1, cA1, T1, cT1, S1, bb, hG, hA, c0, c1, hlt, ⟨hx1, hx2, hx3⟩, hl1, hl2⟩ := hinv
      have hw1 : w.heap.size < wr.heap.size := hA.lt
      have hlo1 : x.out w.heap.size := ⟨by have := h.lo; omega, by have := h.lo; omega, by have := h.lo; omega, by have := h.lo; omega, by have := h.lo; omega⟩
      have HLB : Hid (x.out lb ∧ lb ≠ w.heap.size) := Lib.hid hlbx
      have a4 := hA.cell 4 _ rfl
      have fa4 := hA.frozen 4
      have HGp := Lib.hid (hG.aside ho (Nat.le_refl _) hlo1 hx1 hx2 hx3 4 (.bool false))
      have hAp : RowC (wr.setCell ⟨w.heap.size, 4, none⟩ (.bool false)) w.heap.size #[.int .i64 (p : Int), .int .u32 (q : Int), .int .i64 Kv, .int .u32 (v.k : Int), .bool false] 49 := hA.set 4 (.bool false)
      have p0 := hAp.cell 0 _ rfl
      have p1 := hAp.cell 1 _ rfl
      have p2 := hAp.cell 2 _ rfl
      have p3 := hAp.cell 3 _ rfl
      have p4 := hAp.cell 4 _ rfl
      have te0 := RowAt.cell HGp.out.fm.te 0 _ rfl
      have hszU : (wr.setCell ⟨w.heap.size, 4, none⟩ (.bool false)).heap.size = wr.heap.size := by simp [World.setCell]
      have hba : Below (wr.setCell ⟨w.heap.size, 4, none⟩ (.bool false)).heap.size (wr.setCell ⟨w.heap.size, 4, none⟩ (.bool false)) ((wr.setCell ⟨w.heap.size, 4, none⟩ (.bool false)).alloc (.cells #[.int .i64 (p : Int), .int .u32 (q : Int), .int .i64 Kv, .int .u32 (v.k : Int), .bool false] 49)) := (Below.refl _ _).alloc (Nat.le_refl _) _
      have HGa := Lib.hid (HGp.out.fm.below ho hba)
      have HAa := Lib.hid (hAp.alloc (.cells #[.int .i64 (p : Int), .int .u32 (q : Int), .int .i64 Kv, .int .u32 (v.k : Int), .bool false] 49))
      have HC0 : Hid (((wr.setCell ⟨w.heap.size, 4, none⟩ (.bool false)).alloc (.cells #[.int .i64 (p : Int), .int .u32 (q : Int), .int .i64 Kv, .int .u32 (v.k : Int), .bool false] 49)).cell? ⟨lb, lof, none⟩ = some (.int .i64 (t1 : Nat))) := Lib.hid ((hba.cell (p := ⟨lb, lof, none⟩) (by rw [hszU]; exact hlt)).trans ((World.cell?_of_block (w := wr) (a := ⟨lb, lof, none⟩) (Below.heap_setCell _ _ _ _ hlbx.2)).trans c0))
      have HC1 : Hid (((wr.setCell ⟨w.heap.size, 4, none⟩ (.bool false)).alloc (.cells #[.int .i64 (p : Int), .int .u32 (q : Int), .int .i64 Kv, .int .u32 (v.k : Int), .bool false] 49)).cell? ⟨lb, lof + 1, none⟩ = some (.int .i64 (t2 : Nat))) := Lib.hid ((hba.cell (p := ⟨lb, lof + 1, none⟩) (by rw [hszU]; exact hlt)).trans ((World.cell?_of_block (w := wr) (a := ⟨lb, lof + 1, none⟩) (Below.heap_setCell _ _ _ _ hlbx.2)).trans c1))
      have hsza : ((wr.setCell ⟨w.heap.size, 4, none⟩ (.bool false)).alloc (.cells #[.int .i64 (p : Int), .int .u32 (q : Int), .int .i64 Kv, .int .u32 (v.k : Int), .bool false] 49)).heap.size = wr.heap.size + 1 := by simp [World.setCell]
      have HBA := Lib.hid hba
      have HX := Lib.hid (⟨hx1, hx2, hx3⟩ : some w.heap.size ≠ obk A1 ∧ some w.heap.size ≠ obk T1 ∧ ∀ j, j < (L ++ pF g m t1 p q (ts ++ [⟨(p : Int), q, Kv, v.k, true⟩]) (s + 1)).length → some w.heap.size ≠ obk (S1 j).1)
      have HLL := Lib.hid (⟨hl1, hl2⟩ : some lb ≠ obk A1 ∧ some lb ≠ obk T1)
      clear hG hA hAp hba hx1 hx2 hx3 hl1 hl2 hlbx
      go_wp2_with (at_builtin; go_must (refine app_cellsA _ rfl _ _ _ 49 rfl Try.underlying38 infoTst rfl (by decide) rfl HGa.out.teo rfl (one_tb (wr.setCell ⟨w.heap.size, 4, none⟩ (.bool false)) ⟨(p : Int), q, Kv, v.k, false⟩ 49 wr.heap.size hszU.symm) (fun i _ => tscell_one _ i) (by unfold maxLen; omega) (by omega) (Nat.zero_le _) (ts.length + 1) rfl (tscell fun i => (ts ++ [⟨(p : Int), q, Kv, v.k, false⟩])[i]!) (tscell_snoc ts ⟨(p : Int), q, Kv, v.k, false⟩) ?_; rintro T2 cT2 w4' hT2 hg4 hat4; rw [own_obk] at hg4; rw [own_obk, own_obk] at hat4; have htp := HGa.out.tpush ho hT2 hg4 hat4; have hte4 := (hg4.block x.Te HGa.out.lo.2.2.1 (fun e => (HGa.out.to_ _ e).2.2.1 rfl)).trans HGa.out.te; have s8 := RowAt.cell hte4 0 _ rfl; have s9 := RowAt.frozen hte4 0; have HTP := Lib.hid htp; have HAT := Lib.hid hat4; have ha5 : RowC (w4'.setCell ⟨x.Te, 0, none⟩ (.slice T2 (ts.length + 1) cT2)) w.heap.size #[.int .i64 (p : Int), .int .u32 (q : Int), .int .i64 Kv, .int .u32 (v.k : Int), .bool false] 49 := (htp.2.block w.heap.size (by rw [hsza]; omega) (by have := h.lo.2.1; omega) (by have := h.lo.2.2.1; omega) HX.out.1 HX.out.2.1).trans HAa.out; have z0 := ha5.cell 0 _ rfl; have z1 := ha5.cell 1 _ rfl; have z2 := ha5.cell 2 _ rfl; have z3 := ha5.cell 3 _ rfl; have z4 := ha5.cell 4 _ rfl; have HA5 := Lib.hid ha5; have fo0 : (w4'.setCell ⟨x.Te, 0, none⟩ (.slice T2 (ts.length + 1) cT2)).cell? ⟨x.Fo, 0, none⟩ = some (.func (.func 36) #[] #[.pointer (some ⟨x.P, 0, none⟩), .pointer (some ⟨x.Al, 0, none⟩), .pointer (some ⟨x.Te, 0, none⟩), .pointer (some ⟨x.Fo, 0, none⟩)]) := RowAt.cell htp.1.fo 0 _ rfl; clear htp hat4 ha5 hte4 hT2 hg4))
      have hR := HIH t2 (by omega) hto2 p q Kv v.k false (s + 1) _ (L ++ pF g m t1 p q (ts ++ [⟨(p : Int), q, Kv, v.k, true⟩]) (s + 1)) (ts ++ [⟨(p : Int), q, Kv, v.k, false⟩]) A1 cA1 T2 cT2 S1 HTP.out.1 hp hq hvk (by omega) (by rw [List.length_append]; simp only [List.length_cons, List.length_nil]; omega) (by rw [List.length_append]; omega)
      refine hR.mono ?_
      rintro e w6 ⟨rfl, A3, cA3, T3, cT3, S3, hk⟩
      have htpop := hk.fm.tpop ho
      have G5 : GS x g n ((wr.setCell ⟨w.heap.size, 4, none⟩ (.bool false)).alloc (.cells #[.int .i64 (p : Int), .int .u32 (q : Int), .int .i64 Kv, .int .u32 (v.k : Int), .bool false] 49)) (L ++ pF g m t1 p q (ts ++ [⟨(p : Int), q, Kv, v.k, true⟩]) (s + 1)) A1 T1 S1 (w4'.setCell ⟨x.Te, 0, none⟩ (.slice T2 (ts.length + 1) cT2)) (L ++ pF g m t1 p q (ts ++ [⟨(p : Int), q, Kv, v.k, true⟩]) (s + 1)) (ts ++ [⟨(p : Int), q, Kv, v.k, false⟩]) A1 cA1 T2 cT2 S1 := ⟨HTP.out.1, HTP.out.2, fun b e => .inl e, fun b e => by
        rcases HAT.out with h9 | h9
        · rw [h9] at e; exact .inl e
        · rw [h9] at e
          injection e with e3
          exact .inr (Nat.le_of_eq e3.symm), fun j hj b e => .inl ⟨j, hj, e⟩⟩
      have G7 : GS x g n w6 ((L ++ pF g m t1 p q (ts ++ [⟨(p : Int), q, Kv, v.k, true⟩]) (s + 1)) ++ pF g m t2 p q (ts ++ [⟨(p : Int), q, Kv, v.k, false⟩]) (s + 1)) A3 T3 S3 (w6.setCell ⟨x.Te, 0, none⟩ (.slice T3 ts.length cT3)) ((L ++ pF g m t1 p q (ts ++ [⟨(p : Int), q, Kv, v.k, true⟩]) (s + 1)) ++ pF g m t2 p q (ts ++ [⟨(p : Int), q, Kv, v.k, false⟩]) (s + 1)) ts A3 cA3 T3 cT3 S3 := ⟨htpop.1, htpop.2, fun b e => .inl e, fun b e => .inl e, fun j hj b e => .inl ⟨j, hj, e⟩⟩
      have HGX := Lib.hid ((G5.trans hk).trans G7)
      have HGZ := Lib.hid ((HGp.out.below ho HBA.out).trans HGX.out)
      obtain ⟨tb, etb, _⟩ := hk.fm.teo.at_ (by simp)
      have hle3 := hk.fm.teo.cel.le
      have te6 := RowAt.cell hk.fm.te 0 _ rfl
      have tf6 := RowAt.frozen hk.fm.te 0
      subst etb
      have elen : (ts ++ [(⟨(p : Int), q, Kv, v.k, false⟩ : TV)]).length = ts.length + 1 := by simp
      have te6 : w6.cell? ⟨x.Te, 0, none⟩ = some (.slice (some ⟨tb, 0, none⟩) (ts.length + 1) cT3) := by rw [← elen]; exact te6
      rw [elen] at hle3
      have hcap : ts.length ≤ cT3 := by omega
      have hcm := hle3.2
      unfold maxLen at hcm
      have hw8 : IntKind.i64.wrap (((ts.length : Int) + 1) - 1) = (ts.length : Int) := by rw [IntWalk.i64_in _ (by omega)]; omega
      clear hk htpop G5 G7 hle3
      go_wp2
      have hal := h.lo.2.1
      have hte := h.lo.2.2.1
      have HA7 : RowC (w6.setCell ⟨x.Te, 0, none⟩ (.slice (some ⟨tb, 0, none⟩) ts.length cT3)) w.heap.size #[.int .i64 (p : Int), .int .u32 (q : Int), .int .i64 Kv, .int .u32 (v.k : Int), .bool false] 49 := (HGX.out.gk.block w.heap.size (by rw [hsza]; omega) (by omega) (by omega) HX.out.1 HX.out.2.1).trans HAa.out
      have hkl := HGX.out.gk.block lb (by rw [hsza]; omega) HLB.out.1.2.1 HLB.out.1.2.2.1 HLL.out.1 HLL.out.2
      have e1 := (World.cell?_of_block (w := (wr.setCell ⟨w.heap.size, 4, none⟩ (.bool false)).alloc (.cells #[.int .i64 (p : Int), .int .u32 (q : Int), .int .i64 Kv, .int .u32 (v.k : Int), .bool false] 49)) (a := ⟨lb, lof, none⟩) hkl).trans HC0.out
      have e2 := (World.cell?_of_block (w := (wr.setCell ⟨w.heap.size, 4, none⟩ (.bool false)).alloc (.cells #[.int .i64 (p : Int), .int .u32 (q : Int), .int .i64 Kv, .int .u32 (v.k : Int), .bool false] 49)) (a := ⟨lb, lof + 1, none⟩) hkl).trans HC1.out
      have hs7 := Nat.lt_of_lt_of_le (show lb < ((wr.setCell ⟨w.heap.size, 4, none⟩ (.bool false)).alloc (.cells #[.int .i64 (p : Int), .int .u32 (q : Int), .int .i64 Kv, .int .u32 (v.k : Int), .bool false] 49)).heap.size by rw [hsza]; omega) HGX.out.gk.size
      have f1 : some w.heap.size ≠ obk A3 := fun e => (HGX.out.na _ e).elim HX.out.1 fun h => by rw [hsza] at h; omega
      have f2 : some w.heap.size ≠ obk (some ⟨tb, 0, none⟩) := fun e => (HGX.out.nt _ e).elim HX.out.2.1 fun h => by rw [hsza] at h; omega
      have f3 : ∀ j, j < ((L ++ pF g m t1 p q (ts ++ [⟨(p : Int), q, Kv, v.k, true⟩]) (s + 1)) ++ pF g m t2 p q (ts ++ [⟨(p : Int), q, Kv, v.k, false⟩]) (s + 1)).length → some w.heap.size ≠ obk (S3 j).1 := fun j hj e => (HGX.out.nc j hj _ e).elim (fun ⟨j', hj', e'⟩ => HX.out.2.2 j' hj' e') fun h => by rw [hsza] at h; omega
      have g1 : some lb ≠ obk A3 := fun e => (HGX.out.na _ e).elim HLL.out.1 fun h => by rw [hsza] at h; omega
      have g2 : some lb ≠ obk (some ⟨tb, 0, none⟩) := fun e => (HGX.out.nt _ e).elim HLL.out.2 fun h => by rw [hsza] at h; omega
      exact ⟨.inr (.inr ⟨by go_num, by rw [← List.append_assoc]; exact ⟨A3, cA3, _, cT3, S3, false, HGZ.out, HA7, e1, e2, hs7, ⟨f1, f2, f3⟩, g1, g2⟩⟩), by simp [intOf]⟩
    · obtain ⟨A1, cA1, T1, cT1, S1, bb, hG, _⟩ := hinv
      have HG := Lib.hid hG
      clear hG
      go_wp2
      refine bodyPost_end (results_none rfl _ _ _) rfl ?_
      exact ⟨rfl, _, _, _, _, _, HG.out⟩
end Go.Proofs.Ytgndfcjfajnemaa
