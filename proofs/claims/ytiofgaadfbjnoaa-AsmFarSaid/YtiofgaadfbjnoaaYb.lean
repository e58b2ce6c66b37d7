/-
  The contract of the document's own machine: what a program does, as the plain function says it.
-/
import Derived.Test.YtiofgaadfbjnoaaYa
import Derived.Deep.CutRange
import Derived.RegionTactic
namespace Go.Proofs.Ytiofgaadfbjnoaa
open Go.RowKit
set_option linter.unusedVariables false

/-- The machine's cells. -/
abbrev clA (s : VS) : Array Value := #[.int .u32 (s.cl 0), .int .u32 (s.cl 1), .int .u32 (s.cl 2), .int .u32 (s.cl 3), .int .u32 (s.cl 4), .int .u32 (s.cl 5), .int .u32 (s.cl 6), .int .u32 (s.cl 7), .int .u32 (s.cl 8), .int .u32 (s.cl 9), .int .u32 (s.cl 10), .int .u32 (s.cl 11), .int .u32 (s.cl 12), .int .u32 (s.cl 13), .int .u32 (s.cl 14), .int .u32 (s.cl 15)]
theorem clA_get (s : VS) (k : Nat) (hk : k < 16) : (clA s)[k]? = some (.int .u32 (s.cl k)) := by
  match k, hk with
  | 0, _ => rfl
  | 1, _ => rfl
  | 2, _ => rfl
  | 3, _ => rfl
  | 4, _ => rfl
  | 5, _ => rfl
  | 6, _ => rfl
  | 7, _ => rfl
  | 8, _ => rfl
  | 9, _ => rfl
  | 10, _ => rfl
  | 11, _ => rfl
  | 12, _ => rfl
  | 13, _ => rfl
  | 14, _ => rfl
  | 15, _ => rfl
  | k + 16, h => omega
theorem clA_set (s : VS) (k n : Nat) (hk : k < 16) : (clA s).setIfInBounds k (.int .u32 n) = clA (s.setc k n) := by
  match k, hk with
  | 0, _ => rfl
  | 1, _ => rfl
  | 2, _ => rfl
  | 3, _ => rfl
  | 4, _ => rfl
  | 5, _ => rfl
  | 6, _ => rfl
  | 7, _ => rfl
  | 8, _ => rfl
  | 9, _ => rfl
  | 10, _ => rfl
  | 11, _ => rfl
  | 12, _ => rfl
  | 13, _ => rfl
  | 14, _ => rfl
  | 15, _ => rfl
  | k + 16, h => omega
/-- The memory of a run: what is told, the cells, what was loaded. -/
def RM (w : World) (H : Nat) (s : VS) : Prop := RowAt w H #[.int .u32 0, .int .i64 0, .slice none 0 0] 36 ∧ ∃ A c, RowAt w (H + 1) #[.int .u32 0, .int .i64 s.st, .slice A s.ld.length c] 36 ∧ RowAt w (H + 1 + 1) (clA s) 60 ∧ OwnC w (H + 3) 3 1 A s.ld.length c (lcell s.ld)
theorem RM.below {w w' : World} {H B : Nat} {s : VS} (h : RM w H s) (hb : Below B w w') (hB : w.heap.size ≤ B) : RM w' H s := by
  obtain ⟨h0, A, c, h1, h2, h3⟩ := h
  have hb2 : Below w.heap.size w w' := hb.mono hB
  exact ⟨h0.below hb2 h0.lt, A, c, h1.below hb2 h1.lt, h2.below hb2 h2.lt, h3.keep hb2⟩
theorem RM.as {w : World} {H : Nat} {s s' : VS} (h : RM w H s) (h1 : s'.st = s.st) (h2 : s'.ld = s.ld) (h3 : s'.cl = s.cl) : RM w H s' := by
  obtain ⟨h0, A, c, q1, q2, q3⟩ := h
  unfold RM clA
  rw [h1, h2, h3]
  exact ⟨h0, A, c, q1, q2, q3⟩
theorem RM.tick {w : World} {H : Nat} {s : VS} (h : RM w H s) : RM (w.setCell ⟨H + 1, 1, none⟩ (.int .i64 ((s.st : Int) + 1))) H s.tick := by
  obtain ⟨h0, A, c, q1, q2, q3⟩ := h
  refine ⟨h0.below (Below.setCell (B := H + 1) (Below.refl _ _) (Nat.le_refl _) _) (by omega), A, c, q1.set 1 _, ?_, q3.set_other (by omega) 1 _⟩
  have h := Below.heap_setCell w ⟨H + 1, 1, none⟩ (.int .i64 ((s.st : Int) + 1)) (H + 2) (by show H + 2 ≠ H + 1; omega)
  exact h.trans q2
theorem RM.store {w : World} {H : Nat} {s : VS} (h : RM w H s) (k n : Nat) (hk : k < 16) : RM (w.setCell ⟨H + 2, k, none⟩ (.int .u32 n)) H (s.setc k n) := by
  obtain ⟨h0, A, c, q1, q2, q3⟩ := h
  refine ⟨h0.below (Below.setCell (B := H + 2) (Below.refl _ _) (Nat.le_refl _) _) (by omega), A, c, q1.below (Below.setCell (B := H + 2) (Below.refl _ _) (Nat.le_refl _) _) (by omega), ?_, q3.set_other (by omega) k _⟩
  have := q2.set k (.int .u32 n)
  rw [clA_set s k n hk] at this
  exact this
theorem bdnV {B : Nat} {w W : World} (h : Below B w W) (N : Nat) : Below B w (W.drewN N) := by
  induction N with
  | zero => exact h
  | succ n ih => exact ih.drew
/-- What holds behind an instruction that leads on. -/
structure Nx (g : Nat → IV) (f : Nat → Nat) (n m val : Nat) (sF s' : VS) : Prop where
  ok : s'.ok
  nx : s'.nx < n
  ld : s'.ld.length ≤ s'.st
  st : s'.st + m = n
  le : n - s'.nx ≤ m
  run : runF g f m s' = some (val, sF)
theorem nx_of {f : Nat → Nat} {g : Nat → IV} {n m K val : Nat} {s s' sF : VS} {v : IV} (hf : ∀ i, f i < 256) (hal : ∀ i, i < n → alone (g i) (n - 1 - i) = 0) (hlast : isRet (g (n - 1)) = true) (h : Nx g f n (m + 1) val sF s) (hv : g s.nx = v) (hok : v.ok) (hK : kd v = (K : Int)) (hs : doK f K v s.tick (oth v s.tick) = .go s') : Nx g f n m val sF s' := by
  have hso : s.tick.ok := ⟨h.ok.1, h.ok.2.1, h.ok.2.2.1, h.ok.2.2.2⟩
  have hstep : step f v s = .go s' := by unfold step; rw [hK]; exact hs
  obtain ⟨n1, n2, n3, n4⟩ := step_next f g n hal hlast s s' h.nx (by rw [hv]; exact hstep)
  have hok' := doK_ok f hf K v hok s.tick hso (oth v s.tick) (oth_lt v s.tick hok hso)
  rw [hs] at hok'
  have hru := h.run
  unfold runF at hru
  rw [hv, hstep] at hru
  have h1 := h.ld
  have h2 := h.st
  have h3 := h.le
  refine ⟨hok', n2, ?_, by omega, by omega, hru⟩
  rcases n4 with e | ⟨_, e⟩
  · rw [e]; omega
  · rw [e, List.length_append, List.length_singleton]; omega
theorem stop_of {f : Nat → Nat} {g : Nat → IV} {n m K val x : Nat} {s s' sF : VS} {v : IV} (h : Nx g f n (m + 1) val sF s) (hv : g s.nx = v) (hK : kd v = (K : Int)) (hs : doK f K v s.tick (oth v s.tick) = .stop x s') : x = val ∧ s' = sF := by
  have hstep : step f v s = .stop x s' := by unfold step; rw [hK]; exact hs
  have hru := h.run
  unfold runF at hru
  rw [hv, hstep] at hru
  have : some (x, s') = some (val, sF) := hru
  injection this with this
  injection this with h1 h2
  exact ⟨h1, h2⟩
theorem or_and_xor : ∀ (a b : Nat), (a &&& b) + (a ^^^ b) = a ||| b := by
  intro a
  induction a using Nat.strongRecOn with
  | ind a ih =>
    intro b
    by_cases h0 : a = 0
    · subst h0; simp
    have h := ih (a / 2) (by omega) (b / 2)
    have d1 : (a &&& b) / 2 = (a / 2 &&& b / 2) := Nat.and_div_two
    have d2 : (a ||| b) / 2 = (a / 2 ||| b / 2) := Nat.or_div_two
    have d3 : (a ^^^ b) / 2 = (a / 2 ^^^ b / 2) := Nat.xor_div_two
    have m1 : (a &&& b) % 2 = (a % 2 &&& b % 2) := Nat.and_mod_two_pow (n := 1)
    have m2 : (a ||| b) % 2 = (a % 2 ||| b % 2) := Nat.or_mod_two_pow (n := 1)
    have m3 : (a ^^^ b) % 2 = (a % 2 ^^^ b % 2) := Nat.xor_mod_two_pow (n := 1)
    have hm : (a % 2 &&& b % 2) + (a % 2 ^^^ b % 2) = (a % 2 ||| b % 2) := by
      rcases Nat.mod_two_eq_zero_or_one a with e | e <;> rcases Nat.mod_two_eq_zero_or_one b with e' | e' <;> rw [e, e'] <;> rfl
    omega
set_option maxRecDepth 100000 in
set_option maxHeartbeats 40000000 in
theorem refRun_any (A : Option Addr) (n c : Nat) (g : Nat → IV) (A2 : Option Addr) (c2 : Nat) (f : Nat → Nat) (w : World) (val : Nat) (sF : VS) (hr : Ins w w.heap.size A n c g) (hn : n ≤ 4096) (hn0 : 0 < n)
    (hal : ∀ i, i < n → alone (g i) (n - 1 - i) = 0) (hlast : isRet (g (n - 1)) = true) (hby : Byt w w.heap.size A2 64 c2 f) (hf : ∀ i, f i < 256) (hrun : runF g f n zst = some (val, sF)) :
    Calls Try.prog 10 #[.slice A n c, .slice A2 64 c2] w fun e w' => ∃ A' c', e = .returned (.agg #[.int .u32 val, .int .i64 sF.st, .slice A' sF.ld.length c']) ∧ OwnC w' w.heap.size 3 1 A' sF.ld.length c' (lcell sF.ld) ∧ Below w.heap.size w w' := by
  obtain ⟨W0, hW0⟩ : ∃ W, ((w.alloc (.cells #[.int .u32 0, .int .i64 0, .slice none 0 0] 36)).alloc (.cells #[.int .u32 0, .int .i64 0, .slice none 0 0] 36)).alloc (.cells #[.int .u32 0, .int .u32 0, .int .u32 0, .int .u32 0, .int .u32 0, .int .u32 0, .int .u32 0, .int .u32 0, .int .u32 0, .int .u32 0, .int .u32 0, .int .u32 0, .int .u32 0, .int .u32 0, .int .u32 0, .int .u32 0] 60) = W := ⟨_, rfl⟩
  have hb0 : Below w.heap.size w W0 := by rw [← hW0]; exact (((Below.refl _ _).alloc (Nat.le_refl _) _).alloc (by simp) _).alloc (by simp; omega) _
  have hz0 : W0.heap.size = w.heap.size + 3 := by rw [← hW0]; simp
  have hm0 : RM W0 w.heap.size zst := by
    rw [← hW0]
    refine ⟨?_, none, 0, ?_, ?_, OwnC.nil_⟩
    · unfold RowAt
      rw [heap_alloc_old _ _ _ (by simp; omega), heap_alloc_old _ _ _ (by simp)]
      exact heap_alloc_last w _
    · unfold RowAt
      rw [heap_alloc_old _ _ _ (by simp)]
      have h := two_last w (.cells #[.int .u32 0, .int .i64 0, .slice none 0 0] 36) #[.int .u32 0, .int .i64 0, .slice none 0 0] 36
      exact h
    · have h := heap_alloc_last ((w.alloc (.cells #[.int .u32 0, .int .i64 0, .slice none 0 0] 36)).alloc (.cells #[.int .u32 0, .int .i64 0, .slice none 0 0] 36)) (.cells #[.int .u32 0, .int .u32 0, .int .u32 0, .int .u32 0, .int .u32 0, .int .u32 0, .int .u32 0, .int .u32 0, .int .u32 0, .int .u32 0, .int .u32 0, .int .u32 0, .int .u32 0, .int .u32 0, .int .u32 0, .int .u32 0] 60)
      unfold RowAt
      rw [World.size_alloc, World.size_alloc] at h
      exact h
  have HR := Lib.hid hr
  have HAL := Lib.hid hal
  have HLAST := Lib.hid hlast
  have HY := Lib.hid hby
  have HF := Lib.hid hf
  have HM0 := Lib.hid hm0
  have HB0 := Lib.hid hb0
  have HZ0 := Lib.hid hz0
  have HW0 := Lib.hid hW0
  have HNX : Hid (Nx g f n n val sF zst) := Lib.hid ⟨⟨by decide, by decide, fun _ => by show 0 < _; decide, fun k hk => by cases hk⟩, hn0, Nat.le_refl _, Nat.zero_add _, by show n - 0 ≤ n; omega, hrun⟩
  clear hr hal hlast hby hf hrun hb0 hm0 hz0 hW0
  go_enter Try.func10, Try.ntmps10
  go_upto_region 4 with fail
  rw [HW0.out]
  go_wp2_with fail
  go_loopg [6, 7, 9] n (fun fuel av xv iv wr => ∃ s, av = .int .u32 s.a ∧ xv = .int .u32 s.x ∧ iv = .int .i64 s.nx ∧ RM wr w.heap.size s ∧ Nx g f n fuel val sF s ∧ Below w.heap.size w wr ∧ w.heap.size + 3 ≤ wr.heap.size)
  case atStart => exact ⟨zst, rfl, rfl, rfl, HM0.out, HNX.out, HB0.out, by have := HZ0.out; omega⟩
  case round =>
    obtain ⟨s, rfl, rfl, rfl, hrm, hnxx, hB, hsz⟩ := hrel
    clear HM0 HNX HB0 HZ0 HW0
    cases gk with
    | zero => exact absurd hnxx.run (by intro h; cases h)
    | succ m =>
      have hnx := hnxx.nx
      obtain ⟨pb, off, rfl, hpb, hcc⟩ := (HR.out.below hB).at_ (by omega)
      obtain ⟨p0, p1, p2, p3⟩ := hcc s.nx hnx
      obtain ⟨v, hv⟩ : ∃ v, g s.nx = v := ⟨_, rfl⟩
      have hvok : v.ok := by rw [← hv]; exact HR.out.2 _ hnx
      obtain ⟨a1, a2, a3⟩ := alone_facts _ _ (HAL.out _ hnx)
      rw [hv] at p0 p1 p2 p3 a1 a2 a3
      have hkr := kd_range v
      obtain ⟨K, hK⟩ := Int.eq_ofNat_of_zero_le hkr.1
      have hK1 : 1 ≤ K := by omega
      have hK28 : K ≤ 28 := by omega
      have i1 : (s.nx : Int) < (n : Int) := by omega
      have i2 : (0 : Int) ≤ (s.nx : Int) := by omega
      have HV := Lib.hid hv
      have HVO := Lib.hid hvok
      have HK := Lib.hid hK
      obtain ⟨X, hX⟩ : ∃ X, xx v = X := ⟨_, rfl⟩
      have HX := Lib.hid hX
      clear hX
      have HN := Lib.hid hnxx
      have HA1 := Lib.hid a1
      have HA2 := Lib.hid a2
      have HA3 := Lib.hid a3
      have hst : s.st < 5000 := by have := hnxx.st; omega
      have hnx2 : s.nx < 5000 := by omega
      have hsz2 := hsz
      have HRM := Lib.hid hrm
      have HBW := Lib.hid hB
      have HI : Hid (RowAt (wr.alloc (.cells #[.int .u16 v.c, .int .u8 v.t, .int .u8 v.f, .int .u32 v.k] 61)) wr.heap.size #[.int .u16 v.c, .int .u8 v.t, .int .u8 v.f, .int .u32 v.k] 61) := Lib.hid (heap_alloc_last wr _)
      have HBI : Hid (Below wr.heap.size wr (wr.alloc (.cells #[.int .u16 v.c, .int .u8 v.t, .int .u8 v.f, .int .u32 v.k] 61))) := Lib.hid ((Below.refl _ _).alloc (Nat.le_refl _) _)
      have ib : Hid (wr.heap.size < (wr.alloc (.cells #[.int .u16 v.c, .int .u8 v.t, .int .u8 v.f, .int .u32 v.k] 61)).heap.size) := Lib.hid (by simp)
      clear hcc hv a1 a2 a3 hkr hK hnxx hrm hB hnx
      go_wp2_with fail
      refine (refOf_v v HVO.out _).mono ?_
      rintro e w2 ⟨rfl, hB2⟩
      obtain ⟨I, hI⟩ : ∃ I, wr.heap.size = I := ⟨_, rfl⟩
      have hb2 : Below wr.heap.size wr w2 := HBI.out.trans (hB2.mono (Nat.le_of_lt ib.out))
      have hi2 := HI.out.below hB2 ib.out
      have hrm2 := HRM.out.below hb2 (Nat.le_refl _)
      have hbw2 : Below w.heap.size w w2 := HBW.out.trans (hb2.mono (by omega))
      have hz2 : wr.heap.size < w2.heap.size := Nat.lt_of_lt_of_le ib.out hB2.size
      have r1 : w2.cell? ⟨wr.heap.size, 1, none⟩ = some (.int .u8 v.t) := hi2.cell 1 _ rfl
      have r2 : w2.cell? ⟨wr.heap.size, 2, none⟩ = some (.int .u8 v.f) := hi2.cell 2 _ rfl
      have r3 : w2.cell? ⟨wr.heap.size, 3, none⟩ = some (.int .u32 v.k) := hi2.cell 3 _ rfl
      have HI2 := Lib.hid hi2
      have HRM2 := Lib.hid hrm2
      have HBW2 := Lib.hid hbw2
      rw [hI] at r1 r2 r3 HI2 hz2 hsz ⊢
      clear hb2 hi2 hrm2 hbw2 HI HBI ib HRM HBW hB2 p0 p1 p2 p3 i1 i2
      rw [HK.out, HX.out]
      go_wp2_with fail
      go_quiet (fail)
      have HI3 : Hid (RowAt (w2.drewN nq) I #[.int .u16 v.c, .int .u8 v.t, .int .u8 v.f, .int .u32 v.k] 61) := Lib.hid HI2.out
      have HRM3 : Hid (RM (w2.drewN nq) w.heap.size s) := Lib.hid HRM2.out
      have HBW3 : Hid (Below w.heap.size w (w2.drewN nq)) := Lib.hid (bdnV HBW2.out nq)
      have hz3 : I < (w2.drewN nq).heap.size := hz2
      clear r1 r2 r3 HI2 HRM2 HBW2 hz2
      generalize w2.drewN nq = w3 at *
      go_upto_if 34 with fail
      go_cut [14] from 16 to 205 (fun nv wx => nv = .int .u32 ((oth v s : Nat) : Int) ∧ wx = w3)
      case first =>
        cases X
        · have HO : Hid (oth v s = v.k) := Lib.hid (by unfold oth; rw [HX.out]; rfl)
          go_wp2_with fail
          go_meet
          exact ⟨by rw [HO.out], rfl⟩
        · have HO : Hid (oth v s = s.x) := Lib.hid (by unfold oth; rw [HX.out]; rfl)
          go_wp2_with fail
          go_meet
          exact ⟨by rw [HO.out], rfl⟩
      case rest =>
      obtain ⟨rfl, rfl⟩ := hcut
      obtain ⟨o, ho⟩ : ∃ o, oth v s = o := ⟨_, rfl⟩
      have ho32 : o < 4294967296 := by rw [← ho]; exact oth_lt v s HVO.out HN.out.ok
      have hoT : oth v s.tick = o := ho
      rw [ho]
      have HOT := Lib.hid hoT
      have hq : ∃ A5 c5, RowAt wc (w.heap.size + 1) #[.int .u32 0, .int .i64 s.st, .slice A5 s.ld.length c5] 36 := by
        obtain ⟨_, A5, c5, h, _⟩ := HRM3.out
        exact ⟨A5, c5, h⟩
      obtain ⟨A5, c5, hq⟩ := hq
      have q1 : wc.cell? ⟨w.heap.size + 1, 1, none⟩ = some (.int .i64 s.st) := hq.cell 1 _ rfl
      have z1 : wc.frozen? ⟨w.heap.size + 1, 1, none⟩ = false := hq.frozen 1
      have HBW4 : Hid (Below w.heap.size w (wc.setCell ⟨w.heap.size + 1, 1, none⟩ (.int .i64 ((s.st : Int) + 1)))) := Lib.hid (HBW3.out.setCell (by show w.heap.size ≤ w.heap.size + 1; omega) _)
      have HRM4 : Hid (RM (wc.setCell ⟨w.heap.size + 1, 1, none⟩ (.int .i64 ((s.st : Int) + 1))) w.heap.size s.tick) := Lib.hid HRM3.out.tick
      have HI4 : Hid (RowAt (wc.setCell ⟨w.heap.size + 1, 1, none⟩ (.int .i64 ((s.st : Int) + 1))) I #[.int .u16 v.c, .int .u8 v.t, .int .u8 v.f, .int .u32 v.k] 61) := Lib.hid ((Below.heap_setCell wc ⟨w.heap.size + 1, 1, none⟩ _ I (by show I ≠ w.heap.size + 1; omega)).trans HI3.out)
      have hz4 : I < (wc.setCell ⟨w.heap.size + 1, 1, none⟩ (.int .i64 ((s.st : Int) + 1))).heap.size := by simpa [World.setCell] using hz3
      clear ho hoT hq HBW3 HRM3 HI3 hz3

      go_upto_region 14 with fail
      have HKT := Lib.hid (And.intro HN.out.ok HVO.out)
      have hsa := HN.out.ok.1
      have hsx := HN.out.ok.2.1
      have hvk := HVO.out.2.2.2
      clear q1 z1
      have hz5 : w.heap.size + 3 ≤ (wc.setCell ⟨w.heap.size + 1, 1, none⟩ (.int .i64 ((s.st : Int) + 1))).heap.size := by omega
      generalize wc.setCell ⟨w.heap.size + 1, 1, none⟩ (.int .i64 ((s.st : Int) + 1)) = w4 at *
      match K, hK28 with
      | 0, _ => exact absurd HK.out HA1.out
      | 1, _ =>
        as_aux_lemma =>
          have HNN := Lib.hid (nx_of HF.out HAL.out HLAST.out HN.out HV.out HVO.out HK.out (show doK f 1 v s.tick (oth v s.tick) = .go (⟨num (fun i => f (v.k + i)) 4, s.x, s.cl, s.nx + 1, s.st + 1, s.ld ++ [v.k]⟩) from by rw [HOT.out]; rfl))
          have hk4 := HA2.out HK.out
          have v0 : IntKind.i64.wrap (v.k : Int) = (v.k : Int) := IntWalk.i64_in _ (by omega)
          have HWD := Lib.hid (wordR_any A2 c2 f v.k w4 (by omega) HF.out ((HY.out.below HBW4.out).more HBW4.out.size))
          obtain ⟨h0, A6, c6, h1, h2, h3⟩ := HRM4.out
          have h3 : OwnC w4 (w.heap.size + 3) 3 1 A6 s.ld.length c6 (lcell s.ld) := h3
          have hll : s.ld.length ≤ 10000 := by have h1 := HN.out.ld; omega
          have q2 : w4.cell? ⟨w.heap.size + 1, 2, none⟩ = some (.slice A6 s.ld.length c6) := h1.cell 2 _ rfl
          have y2 : w4.frozen? ⟨w.heap.size + 1, 2, none⟩ = false := h1.frozen 2
          have q2' : ∀ ob, (w4.alloc ob).cell? ⟨w.heap.size + 1, 2, none⟩ = some (.slice A6 s.ld.length c6) := fun ob => cell_alloc_l ob q2
          have HO6 := Lib.hid (h3.alloc (.cells #[.int .i64 (v.k : Nat)] 3))
          have HR0 := Lib.hid h0
          have HR1 := Lib.hid h1
          have HR2 := Lib.hid h2
          clear h0 h1 h2 h3 HRM4
          clear HN HK HA1 HA2 HA3 HV HOT
          go_wp2_with (first
            | (go_at_call 21; refine HWD.out.mono ?_; rintro e w9 ⟨rfl, rfl⟩)
            | (at_builtin
               go_must (refine app_cells _ (by rfl) _ _ _ 3 (by rfl) Try.underlying34 infoN (by rfl) (by decide) rfl HO6.out rfl (one_int w4 v.k 3) (fun i _ => rfl) (by unfold maxLen; omega) (by omega) (by simp; omega) (s.ld ++ [v.k]).length (by simp) (lcell (s.ld ++ [v.k])) (by intro i hi; exact lcell_cat s.ld v.k i (by simpa using hi)) ?_
                        rintro A7 c7 w7 hown7 hB7
                        have hb7 : Below (w.heap.size + 3) w4 w7 := ((Below.refl (w.heap.size + 3) w4).alloc (by omega) _).trans hB7
                        have q7 := (hb7.cell (p := ⟨w.heap.size + 1, 2, none⟩) (by show w.heap.size + 1 < _; omega)).trans q2
                        have y7 := (hb7.frozen (p := ⟨w.heap.size + 1, 2, none⟩) (by show w.heap.size + 1 < _; omega)).trans y2)))
          go_roundg m
          case measure => omega
          case rel =>
            have r0 := HR0.out.below hb7 (by omega)
            have r1 := HR1.out.below hb7 (by omega)
            have r2 := HR2.out.below hb7 (by omega)
            have hsz7 := hb7.size
            exact ⟨⟨num (fun i => f (v.k + i)) 4, s.x, s.cl, s.nx + 1, s.st + 1, s.ld ++ [v.k]⟩, rfl, rfl, by go_num, ⟨(Below.heap_setCell w7 ⟨w.heap.size + 1, 2, none⟩ _ w.heap.size (by show w.heap.size ≠ w.heap.size + 1; omega)).trans r0, A7, c7, (by show RowAt _ _ #[.int .u32 0, .int .i64 ((s.st + 1 : Nat) : Int), .slice A7 (s.ld ++ [v.k]).length c7] _; rw [List.length_append]; exact r1.set 2 _), (Below.heap_setCell w7 ⟨w.heap.size + 1, 2, none⟩ _ (w.heap.size + 1 + 1) (by show w.heap.size + 1 + 1 ≠ w.heap.size + 1; omega)).trans r2, hown7.set_other (by show w.heap.size + 1 < w.heap.size + 3; omega) 2 _⟩, HNN.out, (HBW4.out.trans (hb7.mono (by omega))).setCell (by show w.heap.size ≤ w.heap.size + 1; omega) _, by simp only [World.setCell]; simp; omega⟩
      | 2, _ =>
        as_aux_lemma =>
          have HNN := Lib.hid (nx_of HF.out HAL.out HLAST.out HN.out HV.out HVO.out HK.out (show doK f 2 v s.tick (oth v s.tick) = .go (s.tick.seta v.k) from by rw [HOT.out]; rfl))
          clear HN HK HA1 HA2 HA3 HV HOT
          go_wp2
          go_roundg m
          case measure => omega
          case rel => exact ⟨s.tick.seta v.k, rfl, rfl, by go_num, HRM4.out.as rfl rfl rfl, HNN.out, HBW4.out, hz5⟩
      | 3, _ =>
        as_aux_lemma =>
          have HNN := Lib.hid (nx_of HF.out HAL.out HLAST.out HN.out HV.out HVO.out HK.out (show doK f 3 v s.tick (oth v s.tick) = .go (s.tick.seta (s.cl v.k)) from by rw [HOT.out]; rfl))
          have hk16 : v.k < 16 := HA3.out (by unfold isLd isSt; rw [HK.out]; decide)
          have hkc : (v.k : Int) < 16 := by omega
          have hk0 : (0 : Int) ≤ (v.k : Int) := by omega
          have hcl : w4.cell? ⟨w.heap.size + 1 + 1, v.k, none⟩ = some (.int .u32 (s.cl v.k)) := by
            obtain ⟨_, _, _, _, h2, _⟩ := HRM4.out
            exact h2.cell v.k _ (clA_get s.tick v.k hk16)
          clear HN HK HA1 HA2 HA3 HV HOT
          go_wp2
          go_roundg m
          case measure => omega
          case rel => exact ⟨s.tick.seta (s.cl v.k), rfl, rfl, by go_num, HRM4.out.as rfl rfl rfl, HNN.out, HBW4.out, hz5⟩
      | 4, _ =>
        as_aux_lemma =>
          have HNN := Lib.hid (nx_of HF.out HAL.out HLAST.out HN.out HV.out HVO.out HK.out (show doK f 4 v s.tick (oth v s.tick) = .go (s.tick.seta 64) from by rw [HOT.out]; rfl))
          clear HN HK HA1 HA2 HA3 HV HOT
          go_wp2
          go_roundg m
          case measure => omega
          case rel => exact ⟨s.tick.seta 64, rfl, rfl, by go_num, HRM4.out.as rfl rfl rfl, HNN.out, HBW4.out, hz5⟩
      | 5, _ =>
        as_aux_lemma =>
          have HNN := Lib.hid (nx_of HF.out HAL.out HLAST.out HN.out HV.out HVO.out HK.out (show doK f 5 v s.tick (oth v s.tick) = .go (s.tick.setx v.k) from by rw [HOT.out]; rfl))
          clear HN HK HA1 HA2 HA3 HV HOT
          go_wp2
          go_roundg m
          case measure => omega
          case rel => exact ⟨s.tick.setx v.k, rfl, rfl, by go_num, HRM4.out.as rfl rfl rfl, HNN.out, HBW4.out, hz5⟩
      | 6, _ =>
        as_aux_lemma =>
          have HNN := Lib.hid (nx_of HF.out HAL.out HLAST.out HN.out HV.out HVO.out HK.out (show doK f 6 v s.tick (oth v s.tick) = .go (s.tick.setx (s.cl v.k)) from by rw [HOT.out]; rfl))
          have hk16 : v.k < 16 := HA3.out (by unfold isLd isSt; rw [HK.out]; decide)
          have hkc : (v.k : Int) < 16 := by omega
          have hk0 : (0 : Int) ≤ (v.k : Int) := by omega
          have hcl : w4.cell? ⟨w.heap.size + 1 + 1, v.k, none⟩ = some (.int .u32 (s.cl v.k)) := by
            obtain ⟨_, _, _, _, h2, _⟩ := HRM4.out
            exact h2.cell v.k _ (clA_get s.tick v.k hk16)
          clear HN HK HA1 HA2 HA3 HV HOT
          go_wp2
          go_roundg m
          case measure => omega
          case rel => exact ⟨s.tick.setx (s.cl v.k), rfl, rfl, by go_num, HRM4.out.as rfl rfl rfl, HNN.out, HBW4.out, hz5⟩
      | 7, _ =>
        as_aux_lemma =>
          have HNN := Lib.hid (nx_of HF.out HAL.out HLAST.out HN.out HV.out HVO.out HK.out (show doK f 7 v s.tick (oth v s.tick) = .go (s.tick.setx 64) from by rw [HOT.out]; rfl))
          clear HN HK HA1 HA2 HA3 HV HOT
          go_wp2
          go_roundg m
          case measure => omega
          case rel => exact ⟨s.tick.setx 64, rfl, rfl, by go_num, HRM4.out.as rfl rfl rfl, HNN.out, HBW4.out, hz5⟩
      | 8, _ =>
        as_aux_lemma =>
          have HNN := Lib.hid (nx_of HF.out HAL.out HLAST.out HN.out HV.out HVO.out HK.out (show doK f 8 v s.tick (oth v s.tick) = .go (s.tick.setc v.k s.a) from by rw [HOT.out]; rfl))
          have hk16 : v.k < 16 := HA3.out (by unfold isLd isSt; rw [HK.out]; decide)
          have hkc : (v.k : Int) < 16 := by omega
          have hk0 : (0 : Int) ≤ (v.k : Int) := by omega
          have hcl : w4.cell? ⟨w.heap.size + 1 + 1, v.k, none⟩ = some (.int .u32 (s.cl v.k)) := by
            obtain ⟨_, _, _, _, h2, _⟩ := HRM4.out
            exact h2.cell v.k _ (clA_get s.tick v.k hk16)
          have hfz : w4.frozen? ⟨w.heap.size + 1 + 1, v.k, none⟩ = false := by
            obtain ⟨_, _, _, _, h2, _⟩ := HRM4.out
            exact h2.frozen v.k
          have HM5 := Lib.hid (HRM4.out.store v.k s.a hk16)
          have HB5 : Hid (Below w.heap.size w (w4.setCell ⟨w.heap.size + 1 + 1, v.k, none⟩ (.int .u32 s.a))) := Lib.hid (HBW4.out.setCell (by show w.heap.size ≤ w.heap.size + 1 + 1; omega) _)
          have HS5 : Hid (w.heap.size + 3 ≤ (w4.setCell ⟨w.heap.size + 1 + 1, v.k, none⟩ (.int .u32 s.a)).heap.size) := Lib.hid (by simpa [World.setCell] using hz5)
          clear HN HK HA1 HA2 HA3 HV HOT
          go_wp2
          go_roundg m
          case measure => omega
          case rel => exact ⟨s.tick.setc v.k s.a, rfl, rfl, by go_num, HM5.out, HNN.out, HB5.out, HS5.out⟩
      | 9, _ =>
        as_aux_lemma =>
          have HNN := Lib.hid (nx_of HF.out HAL.out HLAST.out HN.out HV.out HVO.out HK.out (show doK f 9 v s.tick (oth v s.tick) = .go (s.tick.setc v.k s.x) from by rw [HOT.out]; rfl))
          have hk16 : v.k < 16 := HA3.out (by unfold isLd isSt; rw [HK.out]; decide)
          have hkc : (v.k : Int) < 16 := by omega
          have hk0 : (0 : Int) ≤ (v.k : Int) := by omega
          have hcl : w4.cell? ⟨w.heap.size + 1 + 1, v.k, none⟩ = some (.int .u32 (s.cl v.k)) := by
            obtain ⟨_, _, _, _, h2, _⟩ := HRM4.out
            exact h2.cell v.k _ (clA_get s.tick v.k hk16)
          have hfz : w4.frozen? ⟨w.heap.size + 1 + 1, v.k, none⟩ = false := by
            obtain ⟨_, _, _, _, h2, _⟩ := HRM4.out
            exact h2.frozen v.k
          have HM5 := Lib.hid (HRM4.out.store v.k s.x hk16)
          have HB5 : Hid (Below w.heap.size w (w4.setCell ⟨w.heap.size + 1 + 1, v.k, none⟩ (.int .u32 s.x))) := Lib.hid (HBW4.out.setCell (by show w.heap.size ≤ w.heap.size + 1 + 1; omega) _)
          have HS5 : Hid (w.heap.size + 3 ≤ (w4.setCell ⟨w.heap.size + 1 + 1, v.k, none⟩ (.int .u32 s.x)).heap.size) := Lib.hid (by simpa [World.setCell] using hz5)
          clear HN HK HA1 HA2 HA3 HV HOT
          go_wp2
          go_roundg m
          case measure => omega
          case rel => exact ⟨s.tick.setc v.k s.x, rfl, rfl, by go_num, HM5.out, HNN.out, HB5.out, HS5.out⟩
      | 10, _ =>
        as_aux_lemma =>
          have HNN := Lib.hid (nx_of HF.out HAL.out HLAST.out HN.out HV.out HVO.out HK.out (show doK f 10 v s.tick (oth v s.tick) = .go (s.tick.setx s.a) from by rw [HOT.out]; rfl))
          clear HN HK HA1 HA2 HA3 HV HOT
          go_wp2
          go_roundg m
          case measure => omega
          case rel => exact ⟨s.tick.setx s.a, rfl, rfl, by go_num, HRM4.out.as rfl rfl rfl, HNN.out, HBW4.out, hz5⟩
      | 11, _ =>
        as_aux_lemma =>
          have HNN := Lib.hid (nx_of HF.out HAL.out HLAST.out HN.out HV.out HVO.out HK.out (show doK f 11 v s.tick (oth v s.tick) = .go (s.tick.seta s.x) from by rw [HOT.out]; rfl))
          clear HN HK HA1 HA2 HA3 HV HOT
          go_wp2
          go_roundg m
          case measure => omega
          case rel => exact ⟨s.tick.seta s.x, rfl, rfl, by go_num, HRM4.out.as rfl rfl rfl, HNN.out, HBW4.out, hz5⟩
      | 12, _ =>
        as_aux_lemma =>
          have HNN := Lib.hid (nx_of HF.out HAL.out HLAST.out HN.out HV.out HVO.out HK.out (show doK f 12 v s.tick (oth v s.tick) = .go (s.tick.seta ((4294967296 - s.a) % 4294967296)) from by rw [HOT.out]; rfl))
          clear HN HK HA1 HA2 HA3 HV HOT
          go_wp2
          go_roundg m
          case measure => omega
          case rel => exact ⟨s.tick.seta ((4294967296 - s.a) % 4294967296), congrArg (Value.int .u32) (show _ = (((4294967296 - s.a) % 4294967296 : Nat) : Int) from by first | (rw [IntKind.wrap_u32]; omega) | omega), rfl, by go_num, HRM4.out.as rfl rfl rfl, HNN.out, HBW4.out, hz5⟩
      | 13, _ =>
        as_aux_lemma =>
          have HNN := Lib.hid (nx_of HF.out HAL.out HLAST.out HN.out HV.out HVO.out HK.out (show doK f 13 v s.tick (oth v s.tick) = .go (s.tick.setn (s.nx + 1 + v.k)) from by rw [HOT.out]; rfl))
          have v0 : IntKind.i64.wrap (v.k : Int) = (v.k : Int) := IntWalk.i64_in _ (by omega)
          clear HN HK HA1 HA2 HA3 HV HOT
          go_wp2
          go_roundg m
          case measure => omega
          case rel => exact ⟨s.tick.setn (s.nx + 1 + v.k), rfl, rfl, congrArg (Value.int .i64) (show _ = ((s.nx + 1 + v.k : Nat) : Int) by omega), HRM4.out.as rfl rfl rfl, HNN.out, HBW4.out, hz5⟩
      | 14, _ =>
        as_aux_lemma =>
          obtain ⟨hv1, hs1⟩ := stop_of HN.out HV.out HK.out (show doK f 14 v s.tick (oth v s.tick) = .stop v.k s.tick from by rfl)
          obtain ⟨h0, A6, c6, h1, h2, h3⟩ := HRM4.out
          have p0 := h1.cell 0 _ rfl
          have p1 := h1.cell 1 _ rfl
          have p2 := h1.cell 2 _ rfl
          have z0 := h1.frozen 0
          have y0 := h0.cell 0 _ rfl
          have y1 := h0.cell 1 _ rfl
          have y2 := h0.cell 2 _ rfl
          have x0 := h0.frozen 0
          have x1 := h0.frozen 1
          have x2 := h0.frozen 2
          have hb : Below w.heap.size w (w4.setCell ⟨w.heap.size + 1, 0, none⟩ (.int .u32 v.k)) := HBW4.out.setCell (by show w.heap.size ≤ w.heap.size + 1; omega) _
          have ho : OwnC (w4.setCell ⟨w.heap.size + 1, 0, none⟩ (.int .u32 v.k)) (w.heap.size + 3) 3 1 A6 s.tick.ld.length c6 (lcell s.tick.ld) := h3.set_other (show w.heap.size + 1 < w.heap.size + 3 by omega) 0 _
          have hr0 : RowAt (w4.setCell ⟨w.heap.size + 1, 0, none⟩ (.int .u32 v.k)) w.heap.size #[.int .u32 0, .int .i64 0, .slice none 0 0] 36 := (Below.heap_setCell w4 ⟨w.heap.size + 1, 0, none⟩ _ w.heap.size (by show w.heap.size ≠ w.heap.size + 1; omega)).trans h0
          have hrow := Lib.hid (((hr0.set 0 (.int .u32 ((v.k : Nat) : Int))).set 1 (.int .i64 s.tick.st)).set 2 (.slice A6 s.tick.ld.length c6))
          have hown := Lib.hid (((ho.set_other (show w.heap.size < w.heap.size + 3 by omega) 0 (.int .u32 ((v.k : Nat) : Int))).set_other (show w.heap.size < w.heap.size + 3 by omega) 1 (.int .i64 s.tick.st)).set_other (show w.heap.size < w.heap.size + 3 by omega) 2 (.slice A6 s.tick.ld.length c6))
          have hbel := Lib.hid (((hb.setCell (p := ⟨w.heap.size, 0, none⟩) (Nat.le_refl _) (.int .u32 ((v.k : Nat) : Int))).setCell (p := ⟨w.heap.size, 1, none⟩) (Nat.le_refl _) (.int .i64 s.tick.st)).setCell (p := ⟨w.heap.size, 2, none⟩) (Nat.le_refl _) (.slice A6 s.tick.ld.length c6))
          have HVS := Lib.hid (And.intro hv1 hs1)
          clear HN HK HA1 HA2 HA3 HV HOT h0 h1 h2 h3 hb ho hr0 hv1 hs1 HRM4 HBW4 HI4
          go_wp2
          have hrow2 := hrow.out
          have hsz : (Try.prog.info? 36).map (·.size) = some 3 := by kernel_rfl
          refine bodyPost_ret (results_cell_row Try.results10 _ _ w.heap.size _ _ (0, 0) _ (by rfl) hrow2 Try.underlying36 (by rfl) hsz) rfl ?_
          obtain ⟨hv1, hs1⟩ := HVS.out
          rw [← hs1, ← hv1]
          exact ⟨A6, c6, rfl, hown.out.lower (by omega), hbel.out⟩
      | 15, _ =>
        as_aux_lemma =>
          obtain ⟨hv1, hs1⟩ := stop_of HN.out HV.out HK.out (show doK f 15 v s.tick (oth v s.tick) = .stop s.a s.tick from by rfl)
          obtain ⟨h0, A6, c6, h1, h2, h3⟩ := HRM4.out
          have p0 := h1.cell 0 _ rfl
          have p1 := h1.cell 1 _ rfl
          have p2 := h1.cell 2 _ rfl
          have z0 := h1.frozen 0
          have y0 := h0.cell 0 _ rfl
          have y1 := h0.cell 1 _ rfl
          have y2 := h0.cell 2 _ rfl
          have x0 := h0.frozen 0
          have x1 := h0.frozen 1
          have x2 := h0.frozen 2
          have hb : Below w.heap.size w (w4.setCell ⟨w.heap.size + 1, 0, none⟩ (.int .u32 s.a)) := HBW4.out.setCell (by show w.heap.size ≤ w.heap.size + 1; omega) _
          have ho : OwnC (w4.setCell ⟨w.heap.size + 1, 0, none⟩ (.int .u32 s.a)) (w.heap.size + 3) 3 1 A6 s.tick.ld.length c6 (lcell s.tick.ld) := h3.set_other (show w.heap.size + 1 < w.heap.size + 3 by omega) 0 _
          have hr0 : RowAt (w4.setCell ⟨w.heap.size + 1, 0, none⟩ (.int .u32 s.a)) w.heap.size #[.int .u32 0, .int .i64 0, .slice none 0 0] 36 := (Below.heap_setCell w4 ⟨w.heap.size + 1, 0, none⟩ _ w.heap.size (by show w.heap.size ≠ w.heap.size + 1; omega)).trans h0
          have hrow := Lib.hid (((hr0.set 0 (.int .u32 ((s.a : Nat) : Int))).set 1 (.int .i64 s.tick.st)).set 2 (.slice A6 s.tick.ld.length c6))
          have hown := Lib.hid (((ho.set_other (show w.heap.size < w.heap.size + 3 by omega) 0 (.int .u32 ((s.a : Nat) : Int))).set_other (show w.heap.size < w.heap.size + 3 by omega) 1 (.int .i64 s.tick.st)).set_other (show w.heap.size < w.heap.size + 3 by omega) 2 (.slice A6 s.tick.ld.length c6))
          have hbel := Lib.hid (((hb.setCell (p := ⟨w.heap.size, 0, none⟩) (Nat.le_refl _) (.int .u32 ((s.a : Nat) : Int))).setCell (p := ⟨w.heap.size, 1, none⟩) (Nat.le_refl _) (.int .i64 s.tick.st)).setCell (p := ⟨w.heap.size, 2, none⟩) (Nat.le_refl _) (.slice A6 s.tick.ld.length c6))
          have HVS := Lib.hid (And.intro hv1 hs1)
          clear HN HK HA1 HA2 HA3 HV HOT h0 h1 h2 h3 hb ho hr0 hv1 hs1 HRM4 HBW4 HI4
          go_wp2
          have hrow2 := hrow.out
          have hsz : (Try.prog.info? 36).map (·.size) = some 3 := by kernel_rfl
          refine bodyPost_ret (results_cell_row Try.results10 _ _ w.heap.size _ _ (0, 0) _ (by rfl) hrow2 Try.underlying36 (by rfl) hsz) rfl ?_
          obtain ⟨hv1, hs1⟩ := HVS.out
          rw [← hs1, ← hv1]
          exact ⟨A6, c6, rfl, hown.out.lower (by omega), hbel.out⟩
      | 16, _ =>
        as_aux_lemma =>
          have HNN := Lib.hid (nx_of HF.out HAL.out HLAST.out HN.out HV.out HVO.out HK.out (show doK f 16 v s.tick (oth v s.tick) = .go (s.tick.seta ((s.a + o) % 4294967296)) from by rw [HOT.out]; rfl))
          clear HN HK HA1 HA2 HA3 HV HOT
          go_wp2
          go_roundg m
          case measure => omega
          case rel => exact ⟨s.tick.seta ((s.a + o) % 4294967296), congrArg (Value.int .u32) (show _ = (((s.a + o) % 4294967296 : Nat) : Int) from by first | (rw [IntKind.wrap_u32]; omega) | omega), rfl, by go_num, HRM4.out.as rfl rfl rfl, HNN.out, HBW4.out, hz5⟩
      | 17, _ =>
        as_aux_lemma =>
          have HNN := Lib.hid (nx_of HF.out HAL.out HLAST.out HN.out HV.out HVO.out HK.out (show doK f 17 v s.tick (oth v s.tick) = .go (s.tick.seta ((s.a + (4294967296 - o)) % 4294967296)) from by rw [HOT.out]; rfl))
          clear HN HK HA1 HA2 HA3 HV HOT
          go_wp2
          go_roundg m
          case measure => omega
          case rel => exact ⟨s.tick.seta ((s.a + (4294967296 - o)) % 4294967296), congrArg (Value.int .u32) (show _ = (((s.a + (4294967296 - o)) % 4294967296 : Nat) : Int) from by first | (rw [IntKind.wrap_u32]; omega) | omega), rfl, by go_num, HRM4.out.as rfl rfl rfl, HNN.out, HBW4.out, hz5⟩
      | 18, _ =>
        as_aux_lemma =>
          have HNN := Lib.hid (nx_of HF.out HAL.out HLAST.out HN.out HV.out HVO.out HK.out (show doK f 18 v s.tick (oth v s.tick) = .go (s.tick.seta (s.a * o % 4294967296)) from by rw [HOT.out]; rfl))
          clear HN HK HA1 HA2 HA3 HV HOT
          go_wp2
          go_roundg m
          case measure => omega
          case rel => exact ⟨s.tick.seta (s.a * o % 4294967296), congrArg (Value.int .u32) (mul32 _ _), rfl, by go_num, HRM4.out.as rfl rfl rfl, HNN.out, HBW4.out, hz5⟩
      | 19, _ =>
        as_aux_lemma =>
          by_cases hz : o = 0
          · subst hz
            obtain ⟨hv1, hs1⟩ := stop_of HN.out HV.out HK.out (show doK f 19 v s.tick (oth v s.tick) = .stop 0 s.tick from by rw [HOT.out]; rfl)
            obtain ⟨h0, A6, c6, h1, h2, h3⟩ := HRM4.out
            have p0 := h1.cell 0 _ rfl
            have p1 := h1.cell 1 _ rfl
            have p2 := h1.cell 2 _ rfl
            have z0 := h1.frozen 0
            have y0 := h0.cell 0 _ rfl
            have y1 := h0.cell 1 _ rfl
            have y2 := h0.cell 2 _ rfl
            have x0 := h0.frozen 0
            have x1 := h0.frozen 1
            have x2 := h0.frozen 2
            have hb : Below w.heap.size w w4 := HBW4.out
            have ho : OwnC w4 (w.heap.size + 3) 3 1 A6 s.tick.ld.length c6 (lcell s.tick.ld) := h3
            have hr0 : RowAt w4 w.heap.size #[.int .u32 0, .int .i64 0, .slice none 0 0] 36 := h0
            have hrow := Lib.hid (((hr0.set 0 (.int .u32 ((0 : Nat) : Int))).set 1 (.int .i64 s.tick.st)).set 2 (.slice A6 s.tick.ld.length c6))
            have hown := Lib.hid (((ho.set_other (show w.heap.size < w.heap.size + 3 by omega) 0 (.int .u32 ((0 : Nat) : Int))).set_other (show w.heap.size < w.heap.size + 3 by omega) 1 (.int .i64 s.tick.st)).set_other (show w.heap.size < w.heap.size + 3 by omega) 2 (.slice A6 s.tick.ld.length c6))
            have hbel := Lib.hid (((hb.setCell (p := ⟨w.heap.size, 0, none⟩) (Nat.le_refl _) (.int .u32 ((0 : Nat) : Int))).setCell (p := ⟨w.heap.size, 1, none⟩) (Nat.le_refl _) (.int .i64 s.tick.st)).setCell (p := ⟨w.heap.size, 2, none⟩) (Nat.le_refl _) (.slice A6 s.tick.ld.length c6))
            have HVS := Lib.hid (And.intro hv1 hs1)
            clear HN HK HA1 HA2 HA3 HV HOT h0 h1 h2 h3 hb ho hr0 hv1 hs1 HRM4 HBW4 HI4
            go_wp2
            have hrow2 := hrow.out
            have hsz : (Try.prog.info? 36).map (·.size) = some 3 := by kernel_rfl
            refine bodyPost_ret (results_cell_row Try.results10 _ _ w.heap.size _ _ (0, 0) _ (by rfl) hrow2 Try.underlying36 (by rfl) hsz) rfl ?_
            obtain ⟨hv1, hs1⟩ := HVS.out
            rw [← hs1, ← hv1]
            exact ⟨A6, c6, rfl, hown.out.lower (by omega), hbel.out⟩
          · have HNN := Lib.hid (nx_of HF.out HAL.out HLAST.out HN.out HV.out HVO.out HK.out (show doK f 19 v s.tick (oth v s.tick) = .go (s.tick.seta (s.a / o)) from by rw [HOT.out]; show (if o = 0 then Res.stop 0 s.tick else _) = _; rw [if_neg hz]; rfl))
            have hz1 : ((o : Int) == 0) = false := beq_eq_false_iff_ne.2 (by omega)
            have hz2 : ¬ (o : Int) = 0 := by omega
            clear HN HK HA1 HA2 HA3 HV HOT
            go_wp2
            go_roundg m
            case measure => omega
            case rel => exact ⟨s.tick.seta (s.a / o), congrArg (Value.int .u32) (div32 s.a o hsa), rfl, by go_num, HRM4.out.as rfl rfl rfl, HNN.out, HBW4.out, hz5⟩
      | 20, _ =>
        as_aux_lemma =>
          have HNN := Lib.hid (nx_of HF.out HAL.out HLAST.out HN.out HV.out HVO.out HK.out (show doK f 20 v s.tick (oth v s.tick) = .go (s.tick.seta (s.a ||| o)) from by rw [HOT.out]; rfl))
          clear HN HK HA1 HA2 HA3 HV HOT
          go_wp2
          go_roundg m
          case measure => omega
          case rel => exact ⟨s.tick.seta (s.a ||| o), congrArg (Value.int .u32) (or32 _ _ hsa ho32), rfl, by go_num, HRM4.out.as rfl rfl rfl, HNN.out, HBW4.out, hz5⟩
      | 21, _ =>
        as_aux_lemma =>
          have HNN := Lib.hid (nx_of HF.out HAL.out HLAST.out HN.out HV.out HVO.out HK.out (show doK f 21 v s.tick (oth v s.tick) = .go (s.tick.seta (s.a &&& o)) from by rw [HOT.out]; rfl))
          clear HN HK HA1 HA2 HA3 HV HOT
          go_wp2
          go_roundg m
          case measure => omega
          case rel => exact ⟨s.tick.seta (s.a &&& o), congrArg (Value.int .u32) (and32 _ _ hsa ho32), rfl, by go_num, HRM4.out.as rfl rfl rfl, HNN.out, HBW4.out, hz5⟩
      | 22, _ =>
        as_aux_lemma =>
          have HNN := Lib.hid (nx_of HF.out HAL.out HLAST.out HN.out HV.out HVO.out HK.out (show doK f 22 v s.tick (oth v s.tick) = .go (s.tick.seta (s.a * 2 ^ (o % 32) % 4294967296)) from by rw [HOT.out]; rfl))
          have HSH := Lib.hid fun W => shift_up s.a o hsa ho32 W
          clear HN HK HA1 HA2 HA3 HV HOT
          go_wp2_with (go_at_call 22; refine (HSH.out _).mono ?_; rintro e w9 ⟨rfl, rfl⟩)
          go_roundg m
          case measure => omega
          case rel => exact ⟨s.tick.seta (s.a * 2 ^ (o % 32) % 4294967296), rfl, rfl, by go_num, HRM4.out.as rfl rfl rfl, HNN.out, HBW4.out, hz5⟩
      | 23, _ =>
        as_aux_lemma =>
          have HNN := Lib.hid (nx_of HF.out HAL.out HLAST.out HN.out HV.out HVO.out HK.out (show doK f 23 v s.tick (oth v s.tick) = .go (s.tick.seta (s.a / 2 ^ (o % 32))) from by rw [HOT.out]; rfl))
          have HSH := Lib.hid fun W => shift_down s.a o hsa ho32 W
          clear HN HK HA1 HA2 HA3 HV HOT
          go_wp2_with (go_at_call 22; refine (HSH.out _).mono ?_; rintro e w9 ⟨rfl, rfl⟩)
          go_roundg m
          case measure => omega
          case rel => exact ⟨s.tick.seta (s.a / 2 ^ (o % 32)), rfl, rfl, by go_num, HRM4.out.as rfl rfl rfl, HNN.out, HBW4.out, hz5⟩
      | 24, _ =>
        as_aux_lemma =>
          have HNN := Lib.hid (nx_of HF.out HAL.out HLAST.out HN.out HV.out HVO.out HK.out (show doK f 24 v s.tick (oth v s.tick) = .go (s.tick.seta (s.a ^^^ o)) from by rw [HOT.out]; rfl))
          clear HN HK HA1 HA2 HA3 HV HOT
          go_wp2
          go_roundg m
          case measure => omega
          case rel => exact ⟨s.tick.seta (s.a ^^^ o), congrArg (Value.int .u32) (show _ = ((s.a ^^^ o : Nat) : Int) from by
              rw [or32 _ _ hsa ho32, and32 _ _ hsa ho32]
              have h1 := or_and_xor s.a o
              have h2 : (s.a ||| o) < 4294967296 := or_lt32 hsa ho32
              first | (rw [IntKind.wrap_u32]; omega) | omega), rfl, by go_num, HRM4.out.as rfl rfl rfl, HNN.out, HBW4.out, hz5⟩
      | 25, _ =>
        as_aux_lemma =>
          by_cases hc : s.a = o
          · have HNN := Lib.hid (nx_of HF.out HAL.out HLAST.out HN.out HV.out HVO.out HK.out (show doK f 25 v s.tick (oth v s.tick) = .go (s.tick.setn (s.nx + 1 + v.t)) from by rw [HOT.out]; show Res.go (s.tick.setn (s.nx + 1 + (if s.a = o then v.t else v.f))) = _; rw [if_pos hc]))
            have hcb : ((s.a : Int) == (o : Int)) = true := by subst hc; simp
            have hvq : v.t < 256 := HVO.out.2.1
            have r1 : w4.cell? ⟨I, 1, none⟩ = some (.int .u8 v.t) := HI4.out.cell 1 _ rfl
            have v0 : IntKind.i64.wrap (v.t : Int) = (v.t : Int) := IntWalk.i64_in _ (by have := HVO.out; have := this.2.1; omega)
            clear HN HK HA1 HA2 HA3 HV HOT
            go_wp2
            go_roundg m
            case measure => omega
            case rel => exact ⟨s.tick.setn (s.nx + 1 + v.t), rfl, rfl, congrArg (Value.int .i64) (show _ = ((s.nx + 1 + v.t : Nat) : Int) by omega), HRM4.out.as rfl rfl rfl, HNN.out, HBW4.out, hz5⟩
          · have HNN := Lib.hid (nx_of HF.out HAL.out HLAST.out HN.out HV.out HVO.out HK.out (show doK f 25 v s.tick (oth v s.tick) = .go (s.tick.setn (s.nx + 1 + v.f)) from by rw [HOT.out]; show Res.go (s.tick.setn (s.nx + 1 + (if s.a = o then v.t else v.f))) = _; rw [if_neg hc]))
            have hcb : ((s.a : Int) == (o : Int)) = false := beq_eq_false_iff_ne.2 (by omega)
            have hvq : v.f < 256 := HVO.out.2.2.1
            have r2 : w4.cell? ⟨I, 2, none⟩ = some (.int .u8 v.f) := HI4.out.cell 2 _ rfl
            have v0 : IntKind.i64.wrap (v.f : Int) = (v.f : Int) := IntWalk.i64_in _ (by have := HVO.out; have := this.2.2.1; omega)
            clear HN HK HA1 HA2 HA3 HV HOT
            go_wp2
            go_roundg m
            case measure => omega
            case rel => exact ⟨s.tick.setn (s.nx + 1 + v.f), rfl, rfl, congrArg (Value.int .i64) (show _ = ((s.nx + 1 + v.f : Nat) : Int) by omega), HRM4.out.as rfl rfl rfl, HNN.out, HBW4.out, hz5⟩
      | 26, _ =>
        as_aux_lemma =>
          by_cases hc : o < s.a
          · have HNN := Lib.hid (nx_of HF.out HAL.out HLAST.out HN.out HV.out HVO.out HK.out (show doK f 26 v s.tick (oth v s.tick) = .go (s.tick.setn (s.nx + 1 + v.t)) from by rw [HOT.out]; show Res.go (s.tick.setn (s.nx + 1 + (if o < s.a then v.t else v.f))) = _; rw [if_pos hc]))
            have hcb : decide ((s.a : Int) > (o : Int)) = true := decide_eq_true (by omega)
            have hcp : (s.a : Int) > (o : Int) := by omega
            have hvq : v.t < 256 := HVO.out.2.1
            have r1 : w4.cell? ⟨I, 1, none⟩ = some (.int .u8 v.t) := HI4.out.cell 1 _ rfl
            have v0 : IntKind.i64.wrap (v.t : Int) = (v.t : Int) := IntWalk.i64_in _ (by have := HVO.out; have := this.2.1; omega)
            clear HN HK HA1 HA2 HA3 HV HOT
            go_wp2
            go_roundg m
            case measure => omega
            case rel => exact ⟨s.tick.setn (s.nx + 1 + v.t), rfl, rfl, congrArg (Value.int .i64) (show _ = ((s.nx + 1 + v.t : Nat) : Int) by omega), HRM4.out.as rfl rfl rfl, HNN.out, HBW4.out, hz5⟩
          · have HNN := Lib.hid (nx_of HF.out HAL.out HLAST.out HN.out HV.out HVO.out HK.out (show doK f 26 v s.tick (oth v s.tick) = .go (s.tick.setn (s.nx + 1 + v.f)) from by rw [HOT.out]; show Res.go (s.tick.setn (s.nx + 1 + (if o < s.a then v.t else v.f))) = _; rw [if_neg hc]))
            have hcb : decide ((s.a : Int) > (o : Int)) = false := decide_eq_false (by omega)
            have hcp : ¬ (s.a : Int) > (o : Int) := by omega
            have hvq : v.f < 256 := HVO.out.2.2.1
            have r2 : w4.cell? ⟨I, 2, none⟩ = some (.int .u8 v.f) := HI4.out.cell 2 _ rfl
            have v0 : IntKind.i64.wrap (v.f : Int) = (v.f : Int) := IntWalk.i64_in _ (by have := HVO.out; have := this.2.2.1; omega)
            clear HN HK HA1 HA2 HA3 HV HOT
            go_wp2
            go_roundg m
            case measure => omega
            case rel => exact ⟨s.tick.setn (s.nx + 1 + v.f), rfl, rfl, congrArg (Value.int .i64) (show _ = ((s.nx + 1 + v.f : Nat) : Int) by omega), HRM4.out.as rfl rfl rfl, HNN.out, HBW4.out, hz5⟩
      | 27, _ =>
        as_aux_lemma =>
          by_cases hc : o ≤ s.a
          · have HNN := Lib.hid (nx_of HF.out HAL.out HLAST.out HN.out HV.out HVO.out HK.out (show doK f 27 v s.tick (oth v s.tick) = .go (s.tick.setn (s.nx + 1 + v.t)) from by rw [HOT.out]; show Res.go (s.tick.setn (s.nx + 1 + (if o ≤ s.a then v.t else v.f))) = _; rw [if_pos hc]))
            have hcb : decide ((s.a : Int) ≥ (o : Int)) = true := decide_eq_true (by omega)
            have hcp : (s.a : Int) ≥ (o : Int) := by omega
            have hvq : v.t < 256 := HVO.out.2.1
            have r1 : w4.cell? ⟨I, 1, none⟩ = some (.int .u8 v.t) := HI4.out.cell 1 _ rfl
            have v0 : IntKind.i64.wrap (v.t : Int) = (v.t : Int) := IntWalk.i64_in _ (by have := HVO.out; have := this.2.1; omega)
            clear HN HK HA1 HA2 HA3 HV HOT
            go_wp2
            go_roundg m
            case measure => omega
            case rel => exact ⟨s.tick.setn (s.nx + 1 + v.t), rfl, rfl, congrArg (Value.int .i64) (show _ = ((s.nx + 1 + v.t : Nat) : Int) by omega), HRM4.out.as rfl rfl rfl, HNN.out, HBW4.out, hz5⟩
          · have HNN := Lib.hid (nx_of HF.out HAL.out HLAST.out HN.out HV.out HVO.out HK.out (show doK f 27 v s.tick (oth v s.tick) = .go (s.tick.setn (s.nx + 1 + v.f)) from by rw [HOT.out]; show Res.go (s.tick.setn (s.nx + 1 + (if o ≤ s.a then v.t else v.f))) = _; rw [if_neg hc]))
            have hcb : decide ((s.a : Int) ≥ (o : Int)) = false := decide_eq_false (by omega)
            have hcp : ¬ (s.a : Int) ≥ (o : Int) := by omega
            have hvq : v.f < 256 := HVO.out.2.2.1
            have r2 : w4.cell? ⟨I, 2, none⟩ = some (.int .u8 v.f) := HI4.out.cell 2 _ rfl
            have v0 : IntKind.i64.wrap (v.f : Int) = (v.f : Int) := IntWalk.i64_in _ (by have := HVO.out; have := this.2.2.1; omega)
            clear HN HK HA1 HA2 HA3 HV HOT
            go_wp2
            go_roundg m
            case measure => omega
            case rel => exact ⟨s.tick.setn (s.nx + 1 + v.f), rfl, rfl, congrArg (Value.int .i64) (show _ = ((s.nx + 1 + v.f : Nat) : Int) by omega), HRM4.out.as rfl rfl rfl, HNN.out, HBW4.out, hz5⟩
      | 28, _ =>
        as_aux_lemma =>
          by_cases hc : s.a &&& o ≠ 0
          · have HNN := Lib.hid (nx_of HF.out HAL.out HLAST.out HN.out HV.out HVO.out HK.out (show doK f 28 v s.tick (oth v s.tick) = .go (s.tick.setn (s.nx + 1 + v.t)) from by rw [HOT.out]; show Res.go (s.tick.setn (s.nx + 1 + (if s.a &&& o ≠ 0 then v.t else v.f))) = _; rw [if_pos hc]))
            have hcb : (bits .and .u32 (s.a : Int) (o : Int) != 0) = true := by rw [and32 _ _ hsa ho32]; exact bne_iff_ne.2 (by omega)
            have hvq : v.t < 256 := HVO.out.2.1
            have r1 : w4.cell? ⟨I, 1, none⟩ = some (.int .u8 v.t) := HI4.out.cell 1 _ rfl
            have v0 : IntKind.i64.wrap (v.t : Int) = (v.t : Int) := IntWalk.i64_in _ (by have := HVO.out; have := this.2.1; omega)
            clear HN HK HA1 HA2 HA3 HV HOT
            go_wp2
            go_roundg m
            case measure => omega
            case rel => exact ⟨s.tick.setn (s.nx + 1 + v.t), rfl, rfl, congrArg (Value.int .i64) (show _ = ((s.nx + 1 + v.t : Nat) : Int) by omega), HRM4.out.as rfl rfl rfl, HNN.out, HBW4.out, hz5⟩
          · have HNN := Lib.hid (nx_of HF.out HAL.out HLAST.out HN.out HV.out HVO.out HK.out (show doK f 28 v s.tick (oth v s.tick) = .go (s.tick.setn (s.nx + 1 + v.f)) from by rw [HOT.out]; show Res.go (s.tick.setn (s.nx + 1 + (if s.a &&& o ≠ 0 then v.t else v.f))) = _; rw [if_neg hc]))
            have hcb : (bits .and .u32 (s.a : Int) (o : Int) != 0) = false := by rw [and32 _ _ hsa ho32]; simpa using hc
            have hvq : v.f < 256 := HVO.out.2.2.1
            have r2 : w4.cell? ⟨I, 2, none⟩ = some (.int .u8 v.f) := HI4.out.cell 2 _ rfl
            have v0 : IntKind.i64.wrap (v.f : Int) = (v.f : Int) := IntWalk.i64_in _ (by have := HVO.out; have := this.2.2.1; omega)
            clear HN HK HA1 HA2 HA3 HV HOT
            go_wp2
            go_roundg m
            case measure => omega
            case rel => exact ⟨s.tick.setn (s.nx + 1 + v.f), rfl, rfl, congrArg (Value.int .i64) (show _ = ((s.nx + 1 + v.f : Nat) : Int) by omega), HRM4.out.as rfl rfl rfl, HNN.out, HBW4.out, hz5⟩
      | k + 29, h => omega
end Go.Proofs.Ytiofgaadfbjnoaa
