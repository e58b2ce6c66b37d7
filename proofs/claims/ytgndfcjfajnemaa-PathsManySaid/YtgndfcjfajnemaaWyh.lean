/-
  Layer 27: the closure that gathers paths: at what is no branch and no return. Made by gen_wyh.py.
-/
import Derived.Test.YtgndfcjfajnemaaWyg
import Derived.Laws.BitsAllLaws
namespace Go.Proofs.Ytgndfcjfajnemaa
open Go.RowKit Go.Shelf Go.Lib
set_option linter.unusedVariables false
set_option maxRecDepth 100000 in
set_option maxHeartbeats 16000000 in
theorem fol_jump (x : Bxs) (ho : x.ok) (g : Nat → IV) (n : Nat) (hF : Fmd g n) (hv : ∀ i, i < n → (g i).ok) (hk : ∀ i, i < n → okI (g i) = true) (m : Nat) (HIH : FolI x g n m) (i : Nat) (hi : i < n) (p q : Nat) (d : Int) (kk : Nat) (b : Bool) (s : Nat) (w : World) (L : List PV) (ts : List TV) (A : Option Addr) (cA : Nat) (T : Option Addr) (cT : Nat) (S : Nat → Option Addr × Nat) (h : FM x g n w L ts A cA T cT S) (hp : p < 4294967296) (hq : q < 4294967296) (hkk : kk < 4294967296) (hs : s + (n - i) ≤ 100000) (hts : ts.length + (n - i) ≤ 10000) (hKi : kd (g i) = 13) (hm : n - i ≤ m + 1) (hL : L.length + (pF g (m + 1) i p q ts s).length ≤ 100000) :
    Calls Try.prog 36 #[.int .i64 i, .int .i64 s, .agg #[.int .i64 p, .int .u32 q, .int .i64 d, .int .u32 kk, .bool b], .pointer (some ⟨x.P, 0, none⟩), .pointer (some ⟨x.Al, 0, none⟩), .pointer (some ⟨x.Te, 0, none⟩), .pointer (some ⟨x.Fo, 0, none⟩)] w fun e w' => e = .returned (.tuple #[]) ∧ ∃ A' cA' T' cT' S', GS x g n w L A T S w' (L ++ pF g (m + 1) i p q ts s) ts A' cA' T' cT' S' := by
  have hpF : pF g (m + 1) i p q ts s = pF g m (i + 1 + (g i).k) p q ts (s + 1) := by
    show (if kd (g i) = 14 then _ else _) = _
    rw [hKi]
    rfl
  have hnx : nexts (g i) i = [i + 1 + (g i).k] := by
    rw [← nexts_if, hKi]
    rfl
  have hto : i + 1 + (g i).k < n := next_lt hF hi (by rw [hnx]; exact List.mem_singleton.2 rfl)
  obtain ⟨v, hgv⟩ : ∃ v, g i = v := ⟨_, rfl⟩
  have hvo : v.ok := by rw [← hgv]; exact hv i hi
  have hle := hF.le
  have hin : n - i ≥ 1 := by omega
  have hb1 : Below w.heap.size w (w.alloc (.cells #[.int .i64 (p : Int), .int .u32 (q : Int), .int .i64 d, .int .u32 (kk : Int), .bool b] 49)) := (Below.refl _ _).alloc (Nat.le_refl _) _
  have hfm1 := h.below ho hb1
  have e0 := hfm1.pl.cell 0 _ rfl
  have hpc : ∀ j, j < 6 → (w.alloc (.cells #[.int .i64 (p : Int), .int .u32 (q : Int), .int .i64 d, .int .u32 (kk : Int), .bool b] 49)).cell? ⟨x.pb, i * 6 + j, none⟩ = some ((flA v i).getD j undef) := fun j hj => by
    rw [hfm1.pc _ (by omega), fcell_at g i j hj, hgv]
  have q0 : (w.alloc (.cells #[.int .i64 (p : Int), .int .u32 (q : Int), .int .i64 d, .int .u32 (kk : Int), .bool b] 49)).cell? ⟨x.pb, i * 6, none⟩ = some (.int .u16 v.c) := hpc 0 (by decide)
  have q1 : (w.alloc (.cells #[.int .i64 (p : Int), .int .u32 (q : Int), .int .i64 d, .int .u32 (kk : Int), .bool b] 49)).cell? ⟨x.pb, i * 6 + 1, none⟩ = some (.int .u8 v.t) := hpc 1 (by decide)
  have q2 : (w.alloc (.cells #[.int .i64 (p : Int), .int .u32 (q : Int), .int .i64 d, .int .u32 (kk : Int), .bool b] 49)).cell? ⟨x.pb, i * 6 + 2, none⟩ = some (.int .u8 v.f) := hpc 2 (by decide)
  have q3 : (w.alloc (.cells #[.int .i64 (p : Int), .int .u32 (q : Int), .int .i64 d, .int .u32 (kk : Int), .bool b] 49)).cell? ⟨x.pb, i * 6 + 3, none⟩ = some (.int .u32 v.k) := hpc 3 (by decide)
  have q4 : (w.alloc (.cells #[.int .i64 (p : Int), .int .u32 (q : Int), .int .i64 d, .int .u32 (kk : Int), .bool b] 49)).cell? ⟨x.pb, i * 6 + 4, none⟩ = some (.int .i64 13) := by have h4 := hpc 4 (by decide); rw [h4]; show some (Value.int .i64 (kd v)) = _; rw [← hgv, hKi]
  have q5 : (w.alloc (.cells #[.int .i64 (p : Int), .int .u32 (q : Int), .int .i64 d, .int .u32 (kk : Int), .bool b] 49)).cell? ⟨x.pb, i * 6 + 5, none⟩ = some (.int .i64 i) := hpc 5 (by decide)
  have i1 : (0 : Int) ≤ (i : Int) := by omega
  have i2 : (i : Int) < (n : Int) := by omega
  have hb2 : Below w.heap.size w ((w.alloc (.cells #[.int .i64 (p : Int), .int .u32 (q : Int), .int .i64 d, .int .u32 (kk : Int), .bool b] 49)).alloc (.cells #[.int .u16 v.c, .int .u8 v.t, .int .u8 v.f, .int .u32 v.k, .int .i64 13, .int .i64 (i : Int)] 88)) := hb1.alloc hb1.size _
  have HB2 := Lib.hid hb2
  have hra : RowC ((w.alloc (.cells #[.int .i64 (p : Int), .int .u32 (q : Int), .int .i64 d, .int .u32 (kk : Int), .bool b] 49)).alloc (.cells #[.int .u16 v.c, .int .u8 v.t, .int .u8 v.f, .int .u32 v.k, .int .i64 13, .int .i64 (i : Int)] 88)) w.heap.size #[.int .i64 (p : Int), .int .u32 (q : Int), .int .i64 d, .int .u32 (kk : Int), .bool b] 49 := (RowC.new _ _ _ _ rfl).alloc _
  have hrx : RowC ((w.alloc (.cells #[.int .i64 (p : Int), .int .u32 (q : Int), .int .i64 d, .int .u32 (kk : Int), .bool b] 49)).alloc (.cells #[.int .u16 v.c, .int .u8 v.t, .int .u8 v.f, .int .u32 v.k, .int .i64 13, .int .i64 (i : Int)] 88)) (w.heap.size + 1) #[.int .u16 v.c, .int .u8 v.t, .int .u8 v.f, .int .u32 v.k, .int .i64 13, .int .i64 (i : Int)] 88 := RowC.new _ _ _ _ (by simp)
  have HRA := Lib.hid hra
  have HRX := Lib.hid hrx
  have hsz2 : ((w.alloc (.cells #[.int .i64 (p : Int), .int .u32 (q : Int), .int .i64 d, .int .u32 (kk : Int), .bool b] 49)).alloc (.cells #[.int .u16 v.c, .int .u8 v.t, .int .u8 v.f, .int .u32 v.k, .int .i64 13, .int .i64 (i : Int)] 88)).heap.size = w.heap.size + 2 := by simp
  have HSZ := Lib.hid hsz2
  have hlo := h.lo
  have d4 := hrx.cell 4 _ rfl
  have d3 := hrx.cell 3 _ rfl
  clear hra hrx hb1 hb2 hfm1 hpc hsz2
  rw [hgv] at hpF hnx
  rw [hgv] at hto
  have HL : Hid (∀ W, Calls Try.prog 35 #[.agg #[.int .u16 v.c, .int .u8 v.t, .int .u8 v.f, .int .u32 v.k, .int .i64 13, .int .i64 (i : Int)]] W fun e w' => ∃ A m, e = .returned (.slice A m m) ∧ I64s w' W.heap.size A m [i + 1 + v.k] ∧ Below W.heap.size W w') := Lib.hid fun W => by
    have hkv : kd v = 13 := by rw [← hgv]; exact hKi
    have h1 := pleads_any v hvo (by rw [hkv]; decide) i W (by omega)
    rw [hnx] at h1
    simp only [flV, hkv] at h1
    exact h1
  rw [hpF] at hL
  rw [hpF]
  obtain ⟨to, hte⟩ : ∃ to, i + 1 + v.k = to := ⟨_, rfl⟩
  rw [hte] at HL hto hL ⊢
  have hti : i < to := by omega
  have hvk : v.k < 4294967296 := hvo.2.2.2
  have hand : q &&& v.k < 4294967296 := Nat.lt_of_le_of_lt Nat.and_le_left hq
  have hband : bits .and .u32 (q : Int) (v.k : Int) = ((q &&& v.k : Nat) : Int) := u32_and_nat q v.k hq hvk
  have hwk : IntKind.i64.wrap (v.k : Int) = (v.k : Int) := IntWalk.i64_in _ (by omega)
  have hXn : w.heap.size + 1 ≠ w.heap.size := by omega
  have HA3 : Hid (RowC ((w.alloc (.cells #[.int .i64 (p : Int), .int .u32 (q : Int), .int .i64 d, .int .u32 (kk : Int), .bool b] 49)).alloc (.cells #[.int .u16 v.c, .int .u8 v.t, .int .u8 v.f, .int .u32 v.k, .int .i64 13, .int .i64 (i : Int)] 88)) w.heap.size #[.int .i64 (p : Int), .int .u32 (q : Int), .int .i64 d, .int .u32 (kk : Int), .bool b] 49) := Lib.hid ((RowC.new _ _ _ _ rfl).alloc _)
  have HX3 := Lib.hid ((RowC.new _ _ _ (w.heap.size + 1) (by simp) : RowC ((w.alloc (.cells #[.int .i64 (p : Int), .int .u32 (q : Int), .int .i64 d, .int .u32 (kk : Int), .bool b] 49)).alloc (.cells #[.int .u16 v.c, .int .u8 v.t, .int .u8 v.f, .int .u32 v.k, .int .i64 13, .int .i64 (i : Int)] 88)) (w.heap.size + 1) #[.int .u16 v.c, .int .u8 v.t, .int .u8 v.f, .int .u32 v.k, .int .i64 13, .int .i64 (i : Int)] 88))
  have HB3 : Hid (Below w.heap.size w ((w.alloc (.cells #[.int .i64 (p : Int), .int .u32 (q : Int), .int .i64 d, .int .u32 (kk : Int), .bool b] 49)).alloc (.cells #[.int .u16 v.c, .int .u8 v.t, .int .u8 v.f, .int .u32 v.k, .int .i64 13, .int .i64 (i : Int)] 88))) := Lib.hid (((Below.refl _ _).alloc (Nat.le_refl _) _).alloc (by simp) _)
  have a0 := HRA.out.cell 0 _ rfl
  have fa0 := HRA.out.frozen 0
  have a1 := HRA.out.cell 1 _ rfl
  have fa1 := HRA.out.frozen 1
  have a2 := HRA.out.cell 2 _ rfl
  have fa2 := HRA.out.frozen 2
  have a3 := HRA.out.cell 3 _ rfl
  have fa3 := HRA.out.frozen 3
  have a4 := HRA.out.cell 4 _ rfl
  have fa4 := HRA.out.frozen 4
  clear hgv hKi hpF hnx hte
  go_enter Try.func36, Try.ntmps36
  go_wp2_with fail
  obtain ⟨W3, hW3⟩ : ∃ W3, ((w.alloc (.cells #[.int .i64 (p : Int), .int .u32 (q : Int), .int .i64 d, .int .u32 (kk : Int), .bool b] 49)).alloc (.cells #[.int .u16 v.c, .int .u8 v.t, .int .u8 v.f, .int .u32 v.k, .int .i64 13, .int .i64 (i : Int)] 88)) = W3 := ⟨_, rfl⟩
  rw [hW3] at HA3 HX3 HB3 ⊢
  clear hW3 a0 fa0 a1 fa1 a2 fa2 a3 fa3 a4 fa4 e0 q0 q1 q2 q3 q4 q5 d3 d4 HRA HRX HB2
  have HG3 := Lib.hid ((GS.of h).below ho HB3.out)
  have y0 := RowC.cell HX3.out 0 _ rfl
  have y1 := RowC.cell HX3.out 1 _ rfl
  have y2 := RowC.cell HX3.out 2 _ rfl
  have y3 := RowC.cell HX3.out 3 _ rfl
  have y4 := RowC.cell HX3.out 4 _ rfl
  have y5 := RowC.cell HX3.out 5 _ rfl
  refine (isBranch_any 13 _).mono ?_
  rintro e w9 ⟨rfl, rfl⟩
  rw [show brK 13 = false from rfl]
  go_wp2_with fail
  refine (HL.out _).mono ?_
  rintro e w4 ⟨lA, m', rfl, ⟨hml, hcel, _⟩, hB4⟩
  obtain rfl : m' = 1 := hml
  have HG4 := Lib.hid (HG3.out.below ho hB4)
  have HA4 := Lib.hid (HA3.out.below hB4 HA3.out.lt)
  obtain ⟨lb, lof, rfl, hlb, hlc⟩ := hcel.at_ (by decide)
  have l0 := hlc 0 (by decide)
  have l0 : w4.cell? ⟨lb, lof, none⟩ = some (.int .i64 (to : Nat)) := l0
  have fo0 : w4.cell? ⟨x.Fo, 0, none⟩ = some (.func (.func 36) #[] #[.pointer (some ⟨x.P, 0, none⟩), .pointer (some ⟨x.Al, 0, none⟩), .pointer (some ⟨x.Te, 0, none⟩), .pointer (some ⟨x.Fo, 0, none⟩)]) := RowAt.cell HG4.out.fm.fo 0 _ rfl
  have z0 := HA4.out.cell 0 _ rfl
  have z1 := HA4.out.cell 1 _ rfl
  have z2 := HA4.out.cell 2 _ rfl
  have z3 := HA4.out.cell 3 _ rfl
  have z4 := HA4.out.cell 4 _ rfl
  have HR : Hid (Calls Try.prog 36 #[.int .i64 (to : Nat), .int .i64 ((s : Int) + 1), .agg #[.int .i64 (p : Int), .int .u32 (q : Int), .int .i64 d, .int .u32 (kk : Int), .bool b], .pointer (some ⟨x.P, 0, none⟩), .pointer (some ⟨x.Al, 0, none⟩), .pointer (some ⟨x.Te, 0, none⟩), .pointer (some ⟨x.Fo, 0, none⟩)] w4 fun e w' => e = .returned (.tuple #[]) ∧ ∃ A' cA' T' cT' S', GS x g n w4 L A T S w' (L ++ pF g m to p q ts (s + 1)) ts A' cA' T' cT' S') := Lib.hid (HIH to (by omega) hto p q d kk b (s + 1) w4 L ts A cA T cT S HG4.out.fm (by omega) (by omega) (by omega) (by omega) (by omega) hL)
  clear hlc hcel hB4 y0 y1 y2 y3 y4 y5 HX3 HB3 HG3 HA3 HL
  go_wp2
  go_loopw [58] (fun ix wr => (ix = .int .i64 0 ∧ wr = w4) ∨ (ix = .int .i64 1 ∧ ∃ A' cA' T' cT' S', GS x g n w L A T S wr (L ++ pF g m to p q ts (s + 1)) ts A' cA' T' cT' S'))
    (fun ix _ => 1 - (intOf ix).toNat)
  case atStart => exact .inl ⟨rfl, rfl⟩
  case round =>
    rcases hrel with ⟨rfl, rfl⟩ | ⟨rfl, hfin⟩
    · go_wp2_with fail
      refine HR.out.mono ?_
      rintro e w5 ⟨rfl, A', cA', T', cT', S', hk⟩
      have HK := Lib.hid (HG4.out.trans hk)
      clear hk
      go_wp2
      exact ⟨.inr ⟨by go_num, _, _, _, _, _, HK.out⟩, by simp [intOf]⟩
    · have HFIN := Lib.hid hfin
      clear hfin
      go_wp2
      refine bodyPost_ret (results_none rfl _ _ _) rfl ?_
      exact ⟨rfl, HFIN.out⟩
set_option maxRecDepth 100000 in
set_option maxHeartbeats 16000000 in
theorem fol_and (x : Bxs) (ho : x.ok) (g : Nat → IV) (n : Nat) (hF : Fmd g n) (hv : ∀ i, i < n → (g i).ok) (hk : ∀ i, i < n → okI (g i) = true) (m : Nat) (HIH : FolI x g n m) (i : Nat) (hi : i < n) (p q : Nat) (d : Int) (kk : Nat) (b : Bool) (s : Nat) (w : World) (L : List PV) (ts : List TV) (A : Option Addr) (cA : Nat) (T : Option Addr) (cT : Nat) (S : Nat → Option Addr × Nat) (h : FM x g n w L ts A cA T cT S) (hp : p < 4294967296) (hq : q < 4294967296) (hkk : kk < 4294967296) (hs : s + (n - i) ≤ 100000) (hts : ts.length + (n - i) ≤ 10000) (hKi : kd (g i) = 21) (hm : n - i ≤ m + 1) (hL : L.length + (pF g (m + 1) i p q ts s).length ≤ 100000) :
    Calls Try.prog 36 #[.int .i64 i, .int .i64 s, .agg #[.int .i64 p, .int .u32 q, .int .i64 d, .int .u32 kk, .bool b], .pointer (some ⟨x.P, 0, none⟩), .pointer (some ⟨x.Al, 0, none⟩), .pointer (some ⟨x.Te, 0, none⟩), .pointer (some ⟨x.Fo, 0, none⟩)] w fun e w' => e = .returned (.tuple #[]) ∧ ∃ A' cA' T' cT' S', GS x g n w L A T S w' (L ++ pF g (m + 1) i p q ts s) ts A' cA' T' cT' S' := by
  have hpF : pF g (m + 1) i p q ts s = pF g m (i + 1) p (q &&& (g i).k) ts (s + 1) := by
    show (if kd (g i) = 14 then _ else _) = _
    rw [hKi]
    rfl
  have hnx : nexts (g i) i = [i + 1] := by
    rw [← nexts_if, hKi]
    rfl
  have hto : i + 1 < n := next_lt hF hi (by rw [hnx]; exact List.mem_singleton.2 rfl)
  obtain ⟨v, hgv⟩ : ∃ v, g i = v := ⟨_, rfl⟩
  have hvo : v.ok := by rw [← hgv]; exact hv i hi
  have hle := hF.le
  have hin : n - i ≥ 1 := by omega
  have hb1 : Below w.heap.size w (w.alloc (.cells #[.int .i64 (p : Int), .int .u32 (q : Int), .int .i64 d, .int .u32 (kk : Int), .bool b] 49)) := (Below.refl _ _).alloc (Nat.le_refl _) _
  have hfm1 := h.below ho hb1
  have e0 := hfm1.pl.cell 0 _ rfl
  have hpc : ∀ j, j < 6 → (w.alloc (.cells #[.int .i64 (p : Int), .int .u32 (q : Int), .int .i64 d, .int .u32 (kk : Int), .bool b] 49)).cell? ⟨x.pb, i * 6 + j, none⟩ = some ((flA v i).getD j undef) := fun j hj => by
    rw [hfm1.pc _ (by omega), fcell_at g i j hj, hgv]
  have q0 : (w.alloc (.cells #[.int .i64 (p : Int), .int .u32 (q : Int), .int .i64 d, .int .u32 (kk : Int), .bool b] 49)).cell? ⟨x.pb, i * 6, none⟩ = some (.int .u16 v.c) := hpc 0 (by decide)
  have q1 : (w.alloc (.cells #[.int .i64 (p : Int), .int .u32 (q : Int), .int .i64 d, .int .u32 (kk : Int), .bool b] 49)).cell? ⟨x.pb, i * 6 + 1, none⟩ = some (.int .u8 v.t) := hpc 1 (by decide)
  have q2 : (w.alloc (.cells #[.int .i64 (p : Int), .int .u32 (q : Int), .int .i64 d, .int .u32 (kk : Int), .bool b] 49)).cell? ⟨x.pb, i * 6 + 2, none⟩ = some (.int .u8 v.f) := hpc 2 (by decide)
  have q3 : (w.alloc (.cells #[.int .i64 (p : Int), .int .u32 (q : Int), .int .i64 d, .int .u32 (kk : Int), .bool b] 49)).cell? ⟨x.pb, i * 6 + 3, none⟩ = some (.int .u32 v.k) := hpc 3 (by decide)
  have q4 : (w.alloc (.cells #[.int .i64 (p : Int), .int .u32 (q : Int), .int .i64 d, .int .u32 (kk : Int), .bool b] 49)).cell? ⟨x.pb, i * 6 + 4, none⟩ = some (.int .i64 21) := by have h4 := hpc 4 (by decide); rw [h4]; show some (Value.int .i64 (kd v)) = _; rw [← hgv, hKi]
  have q5 : (w.alloc (.cells #[.int .i64 (p : Int), .int .u32 (q : Int), .int .i64 d, .int .u32 (kk : Int), .bool b] 49)).cell? ⟨x.pb, i * 6 + 5, none⟩ = some (.int .i64 i) := hpc 5 (by decide)
  have i1 : (0 : Int) ≤ (i : Int) := by omega
  have i2 : (i : Int) < (n : Int) := by omega
  have hb2 : Below w.heap.size w ((w.alloc (.cells #[.int .i64 (p : Int), .int .u32 (q : Int), .int .i64 d, .int .u32 (kk : Int), .bool b] 49)).alloc (.cells #[.int .u16 v.c, .int .u8 v.t, .int .u8 v.f, .int .u32 v.k, .int .i64 21, .int .i64 (i : Int)] 88)) := hb1.alloc hb1.size _
  have HB2 := Lib.hid hb2
  have hra : RowC ((w.alloc (.cells #[.int .i64 (p : Int), .int .u32 (q : Int), .int .i64 d, .int .u32 (kk : Int), .bool b] 49)).alloc (.cells #[.int .u16 v.c, .int .u8 v.t, .int .u8 v.f, .int .u32 v.k, .int .i64 21, .int .i64 (i : Int)] 88)) w.heap.size #[.int .i64 (p : Int), .int .u32 (q : Int), .int .i64 d, .int .u32 (kk : Int), .bool b] 49 := (RowC.new _ _ _ _ rfl).alloc _
  have hrx : RowC ((w.alloc (.cells #[.int .i64 (p : Int), .int .u32 (q : Int), .int .i64 d, .int .u32 (kk : Int), .bool b] 49)).alloc (.cells #[.int .u16 v.c, .int .u8 v.t, .int .u8 v.f, .int .u32 v.k, .int .i64 21, .int .i64 (i : Int)] 88)) (w.heap.size + 1) #[.int .u16 v.c, .int .u8 v.t, .int .u8 v.f, .int .u32 v.k, .int .i64 21, .int .i64 (i : Int)] 88 := RowC.new _ _ _ _ (by simp)
  have HRA := Lib.hid hra
  have HRX := Lib.hid hrx
  have hsz2 : ((w.alloc (.cells #[.int .i64 (p : Int), .int .u32 (q : Int), .int .i64 d, .int .u32 (kk : Int), .bool b] 49)).alloc (.cells #[.int .u16 v.c, .int .u8 v.t, .int .u8 v.f, .int .u32 v.k, .int .i64 21, .int .i64 (i : Int)] 88)).heap.size = w.heap.size + 2 := by simp
  have HSZ := Lib.hid hsz2
  have hlo := h.lo
  have d4 := hrx.cell 4 _ rfl
  have d3 := hrx.cell 3 _ rfl
  clear hra hrx hb1 hb2 hfm1 hpc hsz2
  rw [hgv] at hpF hnx
  have HL : Hid (∀ W, Calls Try.prog 35 #[.agg #[.int .u16 v.c, .int .u8 v.t, .int .u8 v.f, .int .u32 v.k, .int .i64 21, .int .i64 (i : Int)]] W fun e w' => ∃ A m, e = .returned (.slice A m m) ∧ I64s w' W.heap.size A m [i + 1] ∧ Below W.heap.size W w') := Lib.hid fun W => by
    have hkv : kd v = 21 := by rw [← hgv]; exact hKi
    have h1 := pleads_any v hvo (by rw [hkv]; decide) i W (by omega)
    rw [hnx] at h1
    simp only [flV, hkv] at h1
    exact h1
  rw [hpF] at hL
  rw [hpF]
  obtain ⟨to, hte⟩ : ∃ to, i + 1 = to := ⟨_, rfl⟩
  rw [hte] at HL hto hL ⊢
  have hti : i < to := by omega
  have hvk : v.k < 4294967296 := hvo.2.2.2
  have hand : q &&& v.k < 4294967296 := Nat.lt_of_le_of_lt Nat.and_le_left hq
  have hband : bits .and .u32 (q : Int) (v.k : Int) = ((q &&& v.k : Nat) : Int) := u32_and_nat q v.k hq hvk
  have hwk : IntKind.i64.wrap (v.k : Int) = (v.k : Int) := IntWalk.i64_in _ (by omega)
  have hXn : w.heap.size + 1 ≠ w.heap.size := by omega
  have HA3 : Hid (RowC ((w.alloc (.cells #[.int .i64 (p : Int), .int .u32 ((q &&& v.k : Nat) : Int), .int .i64 d, .int .u32 (kk : Int), .bool b] 49)).alloc (.cells #[.int .u16 v.c, .int .u8 v.t, .int .u8 v.f, .int .u32 v.k, .int .i64 21, .int .i64 (i : Int)] 88)) w.heap.size #[.int .i64 (p : Int), .int .u32 ((q &&& v.k : Nat) : Int), .int .i64 d, .int .u32 (kk : Int), .bool b] 49) := Lib.hid ((RowC.new _ _ _ _ rfl).alloc _)
  have HX3 := Lib.hid ((RowC.new _ _ _ (w.heap.size + 1) (by simp) : RowC ((w.alloc (.cells #[.int .i64 (p : Int), .int .u32 ((q &&& v.k : Nat) : Int), .int .i64 d, .int .u32 (kk : Int), .bool b] 49)).alloc (.cells #[.int .u16 v.c, .int .u8 v.t, .int .u8 v.f, .int .u32 v.k, .int .i64 21, .int .i64 (i : Int)] 88)) (w.heap.size + 1) #[.int .u16 v.c, .int .u8 v.t, .int .u8 v.f, .int .u32 v.k, .int .i64 21, .int .i64 (i : Int)] 88))
  have HB3 : Hid (Below w.heap.size w ((w.alloc (.cells #[.int .i64 (p : Int), .int .u32 ((q &&& v.k : Nat) : Int), .int .i64 d, .int .u32 (kk : Int), .bool b] 49)).alloc (.cells #[.int .u16 v.c, .int .u8 v.t, .int .u8 v.f, .int .u32 v.k, .int .i64 21, .int .i64 (i : Int)] 88))) := Lib.hid (((Below.refl _ _).alloc (Nat.le_refl _) _).alloc (by simp) _)
  have a0 := HRA.out.cell 0 _ rfl
  have fa0 := HRA.out.frozen 0
  have a1 := HRA.out.cell 1 _ rfl
  have fa1 := HRA.out.frozen 1
  have a2 := HRA.out.cell 2 _ rfl
  have fa2 := HRA.out.frozen 2
  have a3 := HRA.out.cell 3 _ rfl
  have fa3 := HRA.out.frozen 3
  have a4 := HRA.out.cell 4 _ rfl
  have fa4 := HRA.out.frozen 4
  clear hgv hKi hpF hnx hte
  go_enter Try.func36, Try.ntmps36
  go_wp2_with fail
  obtain ⟨W3, hW3⟩ : ∃ W3, ((w.alloc (.cells #[.int .i64 (p : Int), .int .u32 ((q &&& v.k : Nat) : Int), .int .i64 d, .int .u32 (kk : Int), .bool b] 49)).alloc (.cells #[.int .u16 v.c, .int .u8 v.t, .int .u8 v.f, .int .u32 v.k, .int .i64 21, .int .i64 (i : Int)] 88)) = W3 := ⟨_, rfl⟩
  rw [hW3] at HA3 HX3 HB3 ⊢
  clear hW3 a0 fa0 a1 fa1 a2 fa2 a3 fa3 a4 fa4 e0 q0 q1 q2 q3 q4 q5 d3 d4 HRA HRX HB2
  have HG3 := Lib.hid ((GS.of h).below ho HB3.out)
  have y0 := RowC.cell HX3.out 0 _ rfl
  have y1 := RowC.cell HX3.out 1 _ rfl
  have y2 := RowC.cell HX3.out 2 _ rfl
  have y3 := RowC.cell HX3.out 3 _ rfl
  have y4 := RowC.cell HX3.out 4 _ rfl
  have y5 := RowC.cell HX3.out 5 _ rfl
  refine (isBranch_any 21 _).mono ?_
  rintro e w9 ⟨rfl, rfl⟩
  rw [show brK 21 = false from rfl]
  go_wp2_with fail
  refine (HL.out _).mono ?_
  rintro e w4 ⟨lA, m', rfl, ⟨hml, hcel, _⟩, hB4⟩
  obtain rfl : m' = 1 := hml
  have HG4 := Lib.hid (HG3.out.below ho hB4)
  have HA4 := Lib.hid (HA3.out.below hB4 HA3.out.lt)
  obtain ⟨lb, lof, rfl, hlb, hlc⟩ := hcel.at_ (by decide)
  have l0 := hlc 0 (by decide)
  have l0 : w4.cell? ⟨lb, lof, none⟩ = some (.int .i64 (to : Nat)) := l0
  have fo0 : w4.cell? ⟨x.Fo, 0, none⟩ = some (.func (.func 36) #[] #[.pointer (some ⟨x.P, 0, none⟩), .pointer (some ⟨x.Al, 0, none⟩), .pointer (some ⟨x.Te, 0, none⟩), .pointer (some ⟨x.Fo, 0, none⟩)]) := RowAt.cell HG4.out.fm.fo 0 _ rfl
  have z0 := HA4.out.cell 0 _ rfl
  have z1 := HA4.out.cell 1 _ rfl
  have z2 := HA4.out.cell 2 _ rfl
  have z3 := HA4.out.cell 3 _ rfl
  have z4 := HA4.out.cell 4 _ rfl
  have HR : Hid (Calls Try.prog 36 #[.int .i64 (to : Nat), .int .i64 ((s : Int) + 1), .agg #[.int .i64 (p : Int), .int .u32 ((q &&& v.k : Nat) : Int), .int .i64 d, .int .u32 (kk : Int), .bool b], .pointer (some ⟨x.P, 0, none⟩), .pointer (some ⟨x.Al, 0, none⟩), .pointer (some ⟨x.Te, 0, none⟩), .pointer (some ⟨x.Fo, 0, none⟩)] w4 fun e w' => e = .returned (.tuple #[]) ∧ ∃ A' cA' T' cT' S', GS x g n w4 L A T S w' (L ++ pF g m to p (q &&& v.k) ts (s + 1)) ts A' cA' T' cT' S') := Lib.hid (HIH to (by omega) hto p (q &&& v.k) d kk b (s + 1) w4 L ts A cA T cT S HG4.out.fm (by omega) (by omega) (by omega) (by omega) (by omega) hL)
  clear hlc hcel hB4 y0 y1 y2 y3 y4 y5 HX3 HB3 HG3 HA3 HL
  go_wp2
  go_loopw [58] (fun ix wr => (ix = .int .i64 0 ∧ wr = w4) ∨ (ix = .int .i64 1 ∧ ∃ A' cA' T' cT' S', GS x g n w L A T S wr (L ++ pF g m to p (q &&& v.k) ts (s + 1)) ts A' cA' T' cT' S'))
    (fun ix _ => 1 - (intOf ix).toNat)
  case atStart => exact .inl ⟨rfl, rfl⟩
  case round =>
    rcases hrel with ⟨rfl, rfl⟩ | ⟨rfl, hfin⟩
    · go_wp2_with fail
      refine HR.out.mono ?_
      rintro e w5 ⟨rfl, A', cA', T', cT', S', hk⟩
      have HK := Lib.hid (HG4.out.trans hk)
      clear hk
      go_wp2
      exact ⟨.inr ⟨by go_num, _, _, _, _, _, HK.out⟩, by simp [intOf]⟩
    · have HFIN := Lib.hid hfin
      clear hfin
      go_wp2
      refine bodyPost_ret (results_none rfl _ _ _) rfl ?_
      exact ⟨rfl, HFIN.out⟩
set_option maxRecDepth 100000 in
set_option maxHeartbeats 16000000 in
theorem fol_load (x : Bxs) (ho : x.ok) (g : Nat → IV) (n : Nat) (hF : Fmd g n) (hv : ∀ i, i < n → (g i).ok) (hk : ∀ i, i < n → okI (g i) = true) (m : Nat) (HIH : FolI x g n m) (i : Nat) (hi : i < n) (p q : Nat) (d : Int) (kk : Nat) (b : Bool) (s : Nat) (w : World) (L : List PV) (ts : List TV) (A : Option Addr) (cA : Nat) (T : Option Addr) (cT : Nat) (S : Nat → Option Addr × Nat) (h : FM x g n w L ts A cA T cT S) (hp : p < 4294967296) (hq : q < 4294967296) (hkk : kk < 4294967296) (hs : s + (n - i) ≤ 100000) (hts : ts.length + (n - i) ≤ 10000) (hKi : kd (g i) = 1) (hm : n - i ≤ m + 1) (hL : L.length + (pF g (m + 1) i p q ts s).length ≤ 100000) :
    Calls Try.prog 36 #[.int .i64 i, .int .i64 s, .agg #[.int .i64 p, .int .u32 q, .int .i64 d, .int .u32 kk, .bool b], .pointer (some ⟨x.P, 0, none⟩), .pointer (some ⟨x.Al, 0, none⟩), .pointer (some ⟨x.Te, 0, none⟩), .pointer (some ⟨x.Fo, 0, none⟩)] w fun e w' => e = .returned (.tuple #[]) ∧ ∃ A' cA' T' cT' S', GS x g n w L A T S w' (L ++ pF g (m + 1) i p q ts s) ts A' cA' T' cT' S' := by
  have hpF : pF g (m + 1) i p q ts s = pF g m (i + 1) (g i).k 4294967295 ts (s + 1) := by
    show (if kd (g i) = 14 then _ else _) = _
    rw [hKi]
    rfl
  have hnx : nexts (g i) i = [i + 1] := by
    rw [← nexts_if, hKi]
    rfl
  have hto : i + 1 < n := next_lt hF hi (by rw [hnx]; exact List.mem_singleton.2 rfl)
  obtain ⟨v, hgv⟩ : ∃ v, g i = v := ⟨_, rfl⟩
  have hvo : v.ok := by rw [← hgv]; exact hv i hi
  have hle := hF.le
  have hin : n - i ≥ 1 := by omega
  have hb1 : Below w.heap.size w (w.alloc (.cells #[.int .i64 (p : Int), .int .u32 (q : Int), .int .i64 d, .int .u32 (kk : Int), .bool b] 49)) := (Below.refl _ _).alloc (Nat.le_refl _) _
  have hfm1 := h.below ho hb1
  have e0 := hfm1.pl.cell 0 _ rfl
  have hpc : ∀ j, j < 6 → (w.alloc (.cells #[.int .i64 (p : Int), .int .u32 (q : Int), .int .i64 d, .int .u32 (kk : Int), .bool b] 49)).cell? ⟨x.pb, i * 6 + j, none⟩ = some ((flA v i).getD j undef) := fun j hj => by
    rw [hfm1.pc _ (by omega), fcell_at g i j hj, hgv]
  have q0 : (w.alloc (.cells #[.int .i64 (p : Int), .int .u32 (q : Int), .int .i64 d, .int .u32 (kk : Int), .bool b] 49)).cell? ⟨x.pb, i * 6, none⟩ = some (.int .u16 v.c) := hpc 0 (by decide)
  have q1 : (w.alloc (.cells #[.int .i64 (p : Int), .int .u32 (q : Int), .int .i64 d, .int .u32 (kk : Int), .bool b] 49)).cell? ⟨x.pb, i * 6 + 1, none⟩ = some (.int .u8 v.t) := hpc 1 (by decide)
  have q2 : (w.alloc (.cells #[.int .i64 (p : Int), .int .u32 (q : Int), .int .i64 d, .int .u32 (kk : Int), .bool b] 49)).cell? ⟨x.pb, i * 6 + 2, none⟩ = some (.int .u8 v.f) := hpc 2 (by decide)
  have q3 : (w.alloc (.cells #[.int .i64 (p : Int), .int .u32 (q : Int), .int .i64 d, .int .u32 (kk : Int), .bool b] 49)).cell? ⟨x.pb, i * 6 + 3, none⟩ = some (.int .u32 v.k) := hpc 3 (by decide)
  have q4 : (w.alloc (.cells #[.int .i64 (p : Int), .int .u32 (q : Int), .int .i64 d, .int .u32 (kk : Int), .bool b] 49)).cell? ⟨x.pb, i * 6 + 4, none⟩ = some (.int .i64 1) := by have h4 := hpc 4 (by decide); rw [h4]; show some (Value.int .i64 (kd v)) = _; rw [← hgv, hKi]
  have q5 : (w.alloc (.cells #[.int .i64 (p : Int), .int .u32 (q : Int), .int .i64 d, .int .u32 (kk : Int), .bool b] 49)).cell? ⟨x.pb, i * 6 + 5, none⟩ = some (.int .i64 i) := hpc 5 (by decide)
  have i1 : (0 : Int) ≤ (i : Int) := by omega
  have i2 : (i : Int) < (n : Int) := by omega
  have hb2 : Below w.heap.size w ((w.alloc (.cells #[.int .i64 (p : Int), .int .u32 (q : Int), .int .i64 d, .int .u32 (kk : Int), .bool b] 49)).alloc (.cells #[.int .u16 v.c, .int .u8 v.t, .int .u8 v.f, .int .u32 v.k, .int .i64 1, .int .i64 (i : Int)] 88)) := hb1.alloc hb1.size _
  have HB2 := Lib.hid hb2
  have hra : RowC ((w.alloc (.cells #[.int .i64 (p : Int), .int .u32 (q : Int), .int .i64 d, .int .u32 (kk : Int), .bool b] 49)).alloc (.cells #[.int .u16 v.c, .int .u8 v.t, .int .u8 v.f, .int .u32 v.k, .int .i64 1, .int .i64 (i : Int)] 88)) w.heap.size #[.int .i64 (p : Int), .int .u32 (q : Int), .int .i64 d, .int .u32 (kk : Int), .bool b] 49 := (RowC.new _ _ _ _ rfl).alloc _
  have hrx : RowC ((w.alloc (.cells #[.int .i64 (p : Int), .int .u32 (q : Int), .int .i64 d, .int .u32 (kk : Int), .bool b] 49)).alloc (.cells #[.int .u16 v.c, .int .u8 v.t, .int .u8 v.f, .int .u32 v.k, .int .i64 1, .int .i64 (i : Int)] 88)) (w.heap.size + 1) #[.int .u16 v.c, .int .u8 v.t, .int .u8 v.f, .int .u32 v.k, .int .i64 1, .int .i64 (i : Int)] 88 := RowC.new _ _ _ _ (by simp)
  have HRA := Lib.hid hra
  have HRX := Lib.hid hrx
  have hsz2 : ((w.alloc (.cells #[.int .i64 (p : Int), .int .u32 (q : Int), .int .i64 d, .int .u32 (kk : Int), .bool b] 49)).alloc (.cells #[.int .u16 v.c, .int .u8 v.t, .int .u8 v.f, .int .u32 v.k, .int .i64 1, .int .i64 (i : Int)] 88)).heap.size = w.heap.size + 2 := by simp
  have HSZ := Lib.hid hsz2
  have hlo := h.lo
  have d4 := hrx.cell 4 _ rfl
  have d3 := hrx.cell 3 _ rfl
  clear hra hrx hb1 hb2 hfm1 hpc hsz2
  rw [hgv] at hpF hnx
  have HL : Hid (∀ W, Calls Try.prog 35 #[.agg #[.int .u16 v.c, .int .u8 v.t, .int .u8 v.f, .int .u32 v.k, .int .i64 1, .int .i64 (i : Int)]] W fun e w' => ∃ A m, e = .returned (.slice A m m) ∧ I64s w' W.heap.size A m [i + 1] ∧ Below W.heap.size W w') := Lib.hid fun W => by
    have hkv : kd v = 1 := by rw [← hgv]; exact hKi
    have h1 := pleads_any v hvo (by rw [hkv]; decide) i W (by omega)
    rw [hnx] at h1
    simp only [flV, hkv] at h1
    exact h1
  rw [hpF] at hL
  rw [hpF]
  obtain ⟨to, hte⟩ : ∃ to, i + 1 = to := ⟨_, rfl⟩
  rw [hte] at HL hto hL ⊢
  have hti : i < to := by omega
  have hvk : v.k < 4294967296 := hvo.2.2.2
  have hand : q &&& v.k < 4294967296 := Nat.lt_of_le_of_lt Nat.and_le_left hq
  have hband : bits .and .u32 (q : Int) (v.k : Int) = ((q &&& v.k : Nat) : Int) := u32_and_nat q v.k hq hvk
  have hwk : IntKind.i64.wrap (v.k : Int) = (v.k : Int) := IntWalk.i64_in _ (by omega)
  have hXn : w.heap.size + 1 ≠ w.heap.size := by omega
  have HA3 : Hid (RowC ((w.alloc (.cells #[.int .i64 (v.k : Int), .int .u32 4294967295, .int .i64 0, .int .u32 0, .bool false] 49)).alloc (.cells #[.int .u16 v.c, .int .u8 v.t, .int .u8 v.f, .int .u32 v.k, .int .i64 1, .int .i64 (i : Int)] 88)) w.heap.size #[.int .i64 (v.k : Int), .int .u32 4294967295, .int .i64 0, .int .u32 0, .bool false] 49) := Lib.hid ((RowC.new _ _ _ _ rfl).alloc _)
  have HX3 := Lib.hid ((RowC.new _ _ _ (w.heap.size + 1) (by simp) : RowC ((w.alloc (.cells #[.int .i64 (v.k : Int), .int .u32 4294967295, .int .i64 0, .int .u32 0, .bool false] 49)).alloc (.cells #[.int .u16 v.c, .int .u8 v.t, .int .u8 v.f, .int .u32 v.k, .int .i64 1, .int .i64 (i : Int)] 88)) (w.heap.size + 1) #[.int .u16 v.c, .int .u8 v.t, .int .u8 v.f, .int .u32 v.k, .int .i64 1, .int .i64 (i : Int)] 88))
  have HB3 : Hid (Below w.heap.size w ((w.alloc (.cells #[.int .i64 (v.k : Int), .int .u32 4294967295, .int .i64 0, .int .u32 0, .bool false] 49)).alloc (.cells #[.int .u16 v.c, .int .u8 v.t, .int .u8 v.f, .int .u32 v.k, .int .i64 1, .int .i64 (i : Int)] 88))) := Lib.hid (((Below.refl _ _).alloc (Nat.le_refl _) _).alloc (by simp) _)
  have a0 := HRA.out.cell 0 _ rfl
  have fa0 := HRA.out.frozen 0
  have a1 := HRA.out.cell 1 _ rfl
  have fa1 := HRA.out.frozen 1
  have a2 := HRA.out.cell 2 _ rfl
  have fa2 := HRA.out.frozen 2
  have a3 := HRA.out.cell 3 _ rfl
  have fa3 := HRA.out.frozen 3
  have a4 := HRA.out.cell 4 _ rfl
  have fa4 := HRA.out.frozen 4
  clear hgv hKi hpF hnx hte
  go_enter Try.func36, Try.ntmps36
  go_wp2_with fail
  obtain ⟨W3, hW3⟩ : ∃ W3, ((w.alloc (.cells #[.int .i64 (v.k : Int), .int .u32 4294967295, .int .i64 0, .int .u32 0, .bool false] 49)).alloc (.cells #[.int .u16 v.c, .int .u8 v.t, .int .u8 v.f, .int .u32 v.k, .int .i64 1, .int .i64 (i : Int)] 88)) = W3 := ⟨_, rfl⟩
  rw [hW3] at HA3 HX3 HB3 ⊢
  clear hW3 a0 fa0 a1 fa1 a2 fa2 a3 fa3 a4 fa4 e0 q0 q1 q2 q3 q4 q5 d3 d4 HRA HRX HB2
  have HG3 := Lib.hid ((GS.of h).below ho HB3.out)
  have y0 := RowC.cell HX3.out 0 _ rfl
  have y1 := RowC.cell HX3.out 1 _ rfl
  have y2 := RowC.cell HX3.out 2 _ rfl
  have y3 := RowC.cell HX3.out 3 _ rfl
  have y4 := RowC.cell HX3.out 4 _ rfl
  have y5 := RowC.cell HX3.out 5 _ rfl
  refine (isBranch_any 1 _).mono ?_
  rintro e w9 ⟨rfl, rfl⟩
  rw [show brK 1 = false from rfl]
  go_wp2_with fail
  refine (HL.out _).mono ?_
  rintro e w4 ⟨lA, m', rfl, ⟨hml, hcel, _⟩, hB4⟩
  obtain rfl : m' = 1 := hml
  have HG4 := Lib.hid (HG3.out.below ho hB4)
  have HA4 := Lib.hid (HA3.out.below hB4 HA3.out.lt)
  obtain ⟨lb, lof, rfl, hlb, hlc⟩ := hcel.at_ (by decide)
  have l0 := hlc 0 (by decide)
  have l0 : w4.cell? ⟨lb, lof, none⟩ = some (.int .i64 (to : Nat)) := l0
  have fo0 : w4.cell? ⟨x.Fo, 0, none⟩ = some (.func (.func 36) #[] #[.pointer (some ⟨x.P, 0, none⟩), .pointer (some ⟨x.Al, 0, none⟩), .pointer (some ⟨x.Te, 0, none⟩), .pointer (some ⟨x.Fo, 0, none⟩)]) := RowAt.cell HG4.out.fm.fo 0 _ rfl
  have z0 := HA4.out.cell 0 _ rfl
  have z1 := HA4.out.cell 1 _ rfl
  have z2 := HA4.out.cell 2 _ rfl
  have z3 := HA4.out.cell 3 _ rfl
  have z4 := HA4.out.cell 4 _ rfl
  have HR : Hid (Calls Try.prog 36 #[.int .i64 (to : Nat), .int .i64 ((s : Int) + 1), .agg #[.int .i64 (v.k : Int), .int .u32 4294967295, .int .i64 0, .int .u32 0, .bool false], .pointer (some ⟨x.P, 0, none⟩), .pointer (some ⟨x.Al, 0, none⟩), .pointer (some ⟨x.Te, 0, none⟩), .pointer (some ⟨x.Fo, 0, none⟩)] w4 fun e w' => e = .returned (.tuple #[]) ∧ ∃ A' cA' T' cT' S', GS x g n w4 L A T S w' (L ++ pF g m to v.k 4294967295 ts (s + 1)) ts A' cA' T' cT' S') := Lib.hid (HIH to (by omega) hto v.k 4294967295 0 0 false (s + 1) w4 L ts A cA T cT S HG4.out.fm (by omega) (by omega) (by omega) (by omega) (by omega) hL)
  clear hlc hcel hB4 y0 y1 y2 y3 y4 y5 HX3 HB3 HG3 HA3 HL
  go_wp2
  go_loopw [58] (fun ix wr => (ix = .int .i64 0 ∧ wr = w4) ∨ (ix = .int .i64 1 ∧ ∃ A' cA' T' cT' S', GS x g n w L A T S wr (L ++ pF g m to v.k 4294967295 ts (s + 1)) ts A' cA' T' cT' S'))
    (fun ix _ => 1 - (intOf ix).toNat)
  case atStart => exact .inl ⟨rfl, rfl⟩
  case round =>
    rcases hrel with ⟨rfl, rfl⟩ | ⟨rfl, hfin⟩
    · go_wp2_with fail
      refine HR.out.mono ?_
      rintro e w5 ⟨rfl, A', cA', T', cT', S', hk⟩
      have HK := Lib.hid (HG4.out.trans hk)
      clear hk
      go_wp2
      exact ⟨.inr ⟨by go_num, _, _, _, _, _, HK.out⟩, by simp [intOf]⟩
    · have HFIN := Lib.hid hfin
      clear hfin
      go_wp2
      refine bodyPost_ret (results_none rfl _ _ _) rfl ?_
      exact ⟨rfl, HFIN.out⟩
end Go.Proofs.Ytgndfcjfajnemaa
