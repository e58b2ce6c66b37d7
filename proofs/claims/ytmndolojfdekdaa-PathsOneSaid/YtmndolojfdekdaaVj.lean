/-
  The contract of vm.run: what a program does, as the plain function says it.
-/
import Derived.Test.YtmndolojfdekdaaVh
namespace Go.Proofs.Ytmndolojfdekdaa
open Go.RowKit

/-- What is known of a formed program's instruction. -/
theorem alone_facts (v : IV) (r : Nat) (h : alone v r = 0) : kd v ≠ 0 ∧ (kd v = 1 → v.k % 4 = 0 ∧ v.k < 64) ∧ (isLd v = true ∨ isSt v = true → v.k < 16) := by
  refine ⟨fun e => ?_, fun e => ?_, fun e => ?_⟩
  · unfold alone at h; rw [if_pos e] at h; cases h
  · unfold alone at h
    rw [if_neg (by omega)] at h
    by_cases c : kd v = 1 ∧ (v.k % 4 ≠ 0 ∨ 64 ≤ v.k)
    · rw [if_pos c] at h; cases h
    · omega
  · rcases e with e | e
    · exact ld_small v r h e
    · exact st_small v r h e

theorem scells_one (s : VS) (A : Option Addr) (c : Nat) (A2 : Option Addr) (n2 c2 : Nat) : (scells s A c (.slice A2 n2 c2)).all (·.oneCell') = true := by simp [scells, Value.oneCell']
theorem size_st (s : VS) (A : Option Addr) (c : Nat) (R : Value) : (Try.prog.info? 175).map (·.size) = some (scells s A c R).size := by
  show _ = some 22
  kernel_rfl
theorem two_last (w : World) (o : Obj) (Z : Array Value) (T : TypeId) : ((w.alloc o).alloc (.cells Z T)).heap[w.heap.size + 1]? = some (.cells Z T) := by
  have := heap_alloc_last (w.alloc o) (.cells Z T)
  rwa [World.size_alloc] at this
theorem setRow_two (w : World) (o : Obj) (Z D : Array Value) (T : TypeId) : ((w.alloc o).alloc (.cells Z T)).setRow (w.heap.size + 1) D = (w.alloc o).alloc (.cells D T) := by
  have := World.setRow_alloc_new (w.alloc o) Z D T
  rwa [World.size_alloc] at this
theorem callFunc_enter {P : Program} {F : Nat} {fn : Func} (hf : P.funcs[F]? = some fn) (hn : (fn.name == "runtime.NumGoroutine") = false) (hb : fn.body.isNone = false) (args : Array Value) (w : World) : (callFunc F args).run P w = .ok (.enter F args) w := by
  have hn' : ¬ fn.name = "runtime.NumGoroutine" := by simpa using hn
  have hb' : ¬ fn.body = none := fun e => by rw [e] at hb; cases hb
  simp [callFunc, run_program, hf, hn', hb', Result.andThen]
def hasBody (P : Program) (F : Nat) : Bool :=
  match P.funcs[F]? with
  | some fn => !(fn.name == "runtime.NumGoroutine") && !fn.body.isNone
  | none => false
theorem enter_of {P : Program} {F : Nat} (h : hasBody P F = true) (args : Array Value) (w : World) : (callFunc F args).run P w = .ok (.enter F args) w := by
  unfold hasBody at h
  split at h
  · rename_i fn hf
    rw [Bool.and_eq_true, Bool.not_eq_true', Bool.not_eq_true'] at h
    exact callFunc_enter hf h.1 h.2 args w
  · cases h
theorem doings_body : (List.range 28).all (fun i => hasBody Try.prog (fnOf (i + 1))) = true := by kernel_rfl

set_option maxRecDepth 100000 in
set_option maxHeartbeats 8000000 in
theorem run_any (A : Option Addr) (n c : Nat) (g : Nat → IV) (A2 : Option Addr) (c2 : Nat) (f : Nat → Nat) (w : World) (val : Nat) (sF : VS)
    (hr : Cel w w.heap.size 6 A n c (kcell g)) (hok : ∀ i, i < n → (g i).ok) (hn : n ≤ 4096) (hn0 : 0 < n) (hal : ∀ i, i < n → alone (g i) (n - 1 - i) = 0) (hlast : isRet (g (n - 1)) = true)
    (hby : Byt w w.heap.size A2 64 c2 f) (hf : ∀ i, f i < 256) (hrun : runF g f n zst = some (val, sF)) :
    Calls Try.prog 73 #[.slice A n c, .slice A2 64 c2] w fun e w' => ∃ A' c', e = .returned (.agg #[.int .u32 val, .int .i64 sF.st, .slice A' sF.ld.length c']) ∧ OwnC w' w.heap.size 3 1 A' sF.ld.length c' (lcell sF.ld) ∧ Below w.heap.size w w' := by
  have hmf : ∀ (fn : Fn) (first cap : Array Value) (w : World), (Instr.makeFunc fn first cap).run Try.prog w = .ok (.func fn first cap) w := fun _ _ _ _ => rfl
  have HR := Lib.hid hr
  have HOK := Lib.hid hok
  have HAL := Lib.hid hal
  have HLAST := Lib.hid hlast
  have HY := Lib.hid hby
  have HF := Lib.hid hf
  have HRUN := Lib.hid hrun
  clear hr hok hal hlast hby hf hrun
  go_enter_defers Try.func73, Try.ntmps73
  go_wp2_with (refine wpList_store_row (by rfl) 175 _ _ (by rfl) (w.heap.size + 1) (scells zst none 0 (.slice A2 64 c2)) (by rfl) (by rfl) _ _ (two_last _ _ _ _) (size_st _ _ _ _) (by rfl) (scells_one _ _ _ _ _ _) ?_; rw [setRow_two])
  have hz0 : ((w.alloc (.cells #[.int .u32 0, .int .i64 0, .slice none 0 0] 62)).alloc (.cells (scells zst none 0 (.slice A2 64 c2)) 175)).heap.size = w.heap.size + 2 := by simp
  have hbw0 : Below w.heap.size w ((w.alloc (.cells #[.int .u32 0, .int .i64 0, .slice none 0 0] 62)).alloc (.cells (scells zst none 0 (.slice A2 64 c2)) 175)) := ((Below.refl _ _).alloc (Nat.le_refl _) _).alloc (by simp) _
  have hst0 : RowAt ((w.alloc (.cells #[.int .u32 0, .int .i64 0, .slice none 0 0] 62)).alloc (.cells (scells zst none 0 (.slice A2 64 c2)) 175)) (w.heap.size + 1) (scells zst none 0 (.slice A2 64 c2)) 175 := two_last _ _ _ _
  have hou0 : RowAt ((w.alloc (.cells #[.int .u32 0, .int .i64 0, .slice none 0 0] 62)).alloc (.cells (scells zst none 0 (.slice A2 64 c2)) 175)) w.heap.size #[.int .u32 0, .int .i64 0, .slice none 0 0] 62 := by
    unfold RowAt
    rw [heap_alloc_old _ _ _ (by simp)]
    exact heap_alloc_last w _
  generalize (w.alloc (.cells #[.int .u32 0, .int .i64 0, .slice none 0 0] 62)).alloc (.cells (scells zst none 0 (.slice A2 64 c2)) 175) = W0 at *
  refine (doings_any _).mono ?_
  rintro e w1 ⟨M, rfl, hM0, hM1, hm, hB1⟩
  have hbw : Below w.heap.size w w1 := hbw0.trans (hB1.mono (by omega))
  have hst : StB w1 (w.heap.size + 1) w1.heap.size zst (.slice A2 64 c2) := ⟨none, 0, hst0.below hB1 (by omega), OwnC.nil_⟩
  have hou := hou0.below hB1 (by omega)
  have hM2 : w.heap.size + 2 ≤ M := by omega
  have hw1 : w.heap.size + 2 ≤ w1.heap.size := by have := hB1.size; omega
  have HST := Lib.hid hst
  have HOU := Lib.hid hou
  have HM := Lib.hid hm
  obtain ⟨B, hBe⟩ : ∃ B, w1.heap.size = B := ⟨_, rfl⟩
  rw [hBe] at HST hM1 hw1
  have HBE := Lib.hid hBe
  clear hz0 hbw0 hst0 hou0 hB1 hst hou hm hBe
  go_wp2_with fail
  go_loopg [] n (fun fuel wr => ∃ s, StB wr (w.heap.size + 1) B s (.slice A2 64 c2) ∧ s.ok ∧ s.nx < n ∧ s.ld.length ≤ s.st ∧ s.st + fuel = n ∧ n - s.nx ≤ fuel ∧ runF g f fuel s = some (val, sF) ∧ Keep (w.heap.size + 1) B w1 wr ∧ B ≤ wr.heap.size)
  case atStart => exact ⟨zst, HST.out, ⟨by decide, by decide, fun _ => by show 0 < _; decide, fun k hk => by cases hk⟩, hn0, Nat.le_refl _, Nat.zero_add _, by show n - 0 ≤ n; omega, HRUN.out, Keep.refl _ _ _, by have := HBE.out; omega⟩
  case round =>
    obtain ⟨s, hst, hso, hnx, hld, hsf, hfu, hru, hkp, hBw⟩ := hrel
    cases gk with
    | zero => cases hru
    | succ m =>
      have hblt : w.heap.size + 1 < wr.heap.size := by obtain ⟨_, _, r1, _⟩ := hst; exact r1.lt
      have q18 : wr.cell? ⟨w.heap.size + 1, 18, none⟩ = some (.int .i64 s.nx) := by obtain ⟨_, _, r1, _⟩ := hst; exact r1.cell 18 _ rfl
      have q19 : wr.cell? ⟨w.heap.size + 1, 19, none⟩ = some (.int .i64 s.st) := by obtain ⟨_, _, r1, _⟩ := hst; exact r1.cell 19 _ rfl
      have z18 : wr.frozen? ⟨w.heap.size + 1, 18, none⟩ = false := by obtain ⟨_, _, r1, _⟩ := hst; exact r1.frozen 18
      have z19 : wr.frozen? ⟨w.heap.size + 1, 19, none⟩ = false := by obtain ⟨_, _, r1, _⟩ := hst; exact r1.frozen 19
      obtain ⟨pb, off, rfl, hpb, hcc⟩ := HR.out.at_ (by omega)
      have hcell : ∀ j, j < 6 → wr.cell? ⟨pb, off + (s.nx * 6 + j), none⟩ = some ((knA (g s.nx)).getD j undef) := fun j hj => by
        rw [hkp.cell (p := ⟨pb, off + (s.nx * 6 + j), none⟩) (by show pb < B; omega) (by show pb ≠ _; omega), hbw.cell (p := ⟨pb, off + (s.nx * 6 + j), none⟩) hpb, hcc _ (by omega), kcell_at g s.nx j hj]
      obtain ⟨v, hv⟩ : ∃ v, g s.nx = v := ⟨_, rfl⟩
      have hvok : v.ok := by rw [← hv]; exact HOK.out _ hnx
      obtain ⟨a1, a2, a3⟩ := alone_facts _ _ (HAL.out _ hnx)
      have hru' := hru
      unfold runF at hru'
      rw [hv] at hcell a1 a2 a3 hru'
      have p0 : wr.cell? ⟨pb, off + s.nx * 6, none⟩ = some (.int .u16 v.c) := hcell 0 (by decide)
      have p1 : wr.cell? ⟨pb, off + s.nx * 6 + 1, none⟩ = some (.int .u8 v.t) := by rw [Nat.add_assoc]; exact hcell 1 (by decide)
      have p2 : wr.cell? ⟨pb, off + s.nx * 6 + 2, none⟩ = some (.int .u8 v.f) := by rw [Nat.add_assoc]; exact hcell 2 (by decide)
      have p3 : wr.cell? ⟨pb, off + s.nx * 6 + 3, none⟩ = some (.int .u32 v.k) := by rw [Nat.add_assoc]; exact hcell 3 (by decide)
      have p4 : wr.cell? ⟨pb, off + s.nx * 6 + 4, none⟩ = some (.int .i64 (kd v)) := by rw [Nat.add_assoc]; exact hcell 4 (by decide)
      have p5 : wr.cell? ⟨pb, off + s.nx * 6 + 5, none⟩ = some (.bool (xx v)) := by rw [Nat.add_assoc]; exact hcell 5 (by decide)
      have hkr := kd_range v
      obtain ⟨j, hj⟩ := Int.eq_ofNat_of_zero_le hkr.1
      have hj1 : 1 ≤ j := by omega
      have hj28 : j ≤ 28 := by omega
      have hmw : IsMapV .i64 wr M doKV := HM.out.of_block (hkp.block M hM1 (by omega))
      have has : assocV doKV (kd v) = some (.func (.func (fnOf j)) #[] #[]) := by
        have := doKV_at (j - 1) (by omega)
        rw [show (((j - 1 : Nat) : Int) + 1) = kd v from by omega, show j - 1 + 1 = j from by omega] at this
        exact this
      have hlk : ∀ (u u' : Value) (o : Obj), (Instr.lookup 178 (.map (some M)) (.int .i64 (kd v)) false).run Try.prog (((wr.setCell ⟨w.heap.size + 1, 18, none⟩ u).setCell ⟨w.heap.size + 1, 19, none⟩ u').alloc o) = .ok (.func (.func (fnOf j)) #[] #[]) (((wr.setCell ⟨w.heap.size + 1, 18, none⟩ u).setCell ⟨w.heap.size + 1, 19, none⟩ u').alloc o) := fun u u' o =>
        IsMapV.look (hmw.of_block (by
          rw [heap_alloc_old _ _ _ (by have := hmw.lt; simpa [World.setCell] using this), Below.heap_setCell _ _ _ _ (show M ≠ w.heap.size + 1 by omega), Below.heap_setCell _ _ _ _ (show M ≠ w.heap.size + 1 by omega)])) Try.underlying178 Try.underlying78 _ _ has
      have hw7 : ∀ o, StB (((wr.setCell ⟨w.heap.size + 1, 18, none⟩ (.int .i64 ((s.nx : Int) + 1))).setCell ⟨w.heap.size + 1, 19, none⟩ (.int .i64 ((s.st : Int) + 1))).alloc o) (w.heap.size + 1) B s.tick (.slice A2 64 c2) ∧ Keep (w.heap.size + 1) B wr (((wr.setCell ⟨w.heap.size + 1, 18, none⟩ (.int .i64 ((s.nx : Int) + 1))).setCell ⟨w.heap.size + 1, 19, none⟩ (.int .i64 ((s.st : Int) + 1))).alloc o) := fun o => by
        obtain ⟨A3, c3, r1, o1⟩ := hst
        have r2 := (r1.set 18 (.int .i64 ((s.nx : Int) + 1))).set 19 (.int .i64 ((s.st : Int) + 1))
        have e : (((scells s A3 c3 (.slice A2 64 c2)).setIfInBounds 18 (.int .i64 ((s.nx : Int) + 1))).setIfInBounds 19 (.int .i64 ((s.st : Int) + 1))) = scells s.tick A3 c3 (.slice A2 64 c2) := by simp [scells, VS.tick]
        rw [e] at r2
        have o2 := (o1.set_other (show w.heap.size + 1 < B by omega) 18 (.int .i64 ((s.nx : Int) + 1))).set_other (show w.heap.size + 1 < B by omega) 19 (.int .i64 ((s.st : Int) + 1))
        refine ⟨⟨A3, c3, r2.below ((Below.refl _ _).alloc (Nat.le_refl _) o) r2.lt, o2.alloc o⟩, ?_⟩
        exact (((Keep.refl _ B wr).set 18 _).set 19 _).trans (Keep.of ((Below.refl _ _).alloc (Nat.le_refl _) o) (by simpa [World.setCell] using hBw))
      have HW7 := Lib.hid hw7
      have hyw : ∀ W, Keep (w.heap.size + 1) B wr W → Byt W W.heap.size A2 64 c2 f := fun W hW => by
        have h1 : Below w.heap.size w W := hbw.trans ((hkp.trans hW).below (by omega) (by omega))
        exact (HY.out.below h1).more h1.size
      have HYW := Lib.hid hyw
      have HRU := Lib.hid hru'
      have HVV := Lib.hid hv
      have HSO := Lib.hid hso
      have HKP := Lib.hid hkp
      have HJ := Lib.hid hj
      have A2' := Lib.hid a2
      have A3' := Lib.hid a3
      have i1 : (s.nx : Int) < (n : Int) := by omega
      have i2 : (0 : Int) ≤ (s.nx : Int) := by omega
      have hce : ∀ (args : Array Value) (W : World), (callFunc (fnOf j) args).run Try.prog W = .ok (.enter (fnOf j) args) W := fun args W => enter_of (by
        have := (List.all_eq_true.1 doings_body) (j - 1) (List.mem_range.2 (by omega))
        rwa [show j - 1 + 1 = j from by omega] at this) args W
      clear hst hcc hcell hru hru' hv hso hkp hj has hw7 hyw a2 a3 hmw
      go_wp2_with fail
      have hdo := doing_any f v s.tick (w.heap.size + 1) B A2 c2 _ (HW7.out (.cells (knA v) 142)).1 (by omega) (by have := (HW7.out (.cells (knA v) 142)).2.size; omega) ⟨HSO.out.1, HSO.out.2.1, HSO.out.2.2.1, HSO.out.2.2.2⟩ hvok (by show s.nx + 1 < _; omega)
        (HYW.out _ (HW7.out (.cells (knA v) 142)).2) (by show s.ld.length ≤ _; omega) j hj1 hj28 (fun e => by have := A2'.out (by rw [HJ.out, e]; rfl); omega) (fun e => A3'.out (by
          unfold isLd isSt
          rw [HJ.out]
          rcases e with e | e | e | e <;> subst e <;> decide))
      refine hdo.mono ?_
      intro e w8 hpo
      have hstep : step f v s = doK f j v s.tick (oth v s.tick) := by unfold step; rw [HJ.out]; rfl
      have hru2 := HRU.out
      rw [hstep] at hru2
      have hok8 := doK_ok f HF.out j v hvok s.tick ⟨HSO.out.1, HSO.out.2.1, HSO.out.2.2.1, HSO.out.2.2.2⟩ (oth v s.tick) (oth_lt v s.tick hvok ⟨HSO.out.1, HSO.out.2.1, HSO.out.2.2.1, HSO.out.2.2.2⟩)
      have hsn := step_next f g n HAL.out HLAST.out s
      rw [HVV.out, hstep] at hsn
      clear hstep hce hlk
      rcases hd : doK f j v s.tick (oth v s.tick) with s' | ⟨vl, s'⟩
      · rw [hd] at hpo hru2 hok8 hsn
        obtain ⟨rfl, hst8, hk8⟩ := hpo
        obtain ⟨n1, n2, n3, n4⟩ := hsn s' hnx rfl
        have hld8 : s'.ld.length ≤ s'.st := by
          rcases n4 with h | ⟨_, h⟩
          · rw [h]; omega
          · rw [h, List.length_append, List.length_singleton]; omega
        have hbw8 : B ≤ w8.heap.size := by have := (HKP.out.trans ((HW7.out (.cells (knA v) 142)).2)).size; have := hk8.size; have := HBE.out; omega
        have HH := Lib.hid (And.intro hst8 (And.intro hok8 (And.intro hru2 ((HKP.out.trans (HW7.out (.cells (knA v) 142)).2).trans hk8))))
        clear hst8 hk8 hru2 hok8 hd hsn hdo n4
        go_wp2
        go_roundg m
        case measure => omega
        case rel => exact ⟨s', HH.out.1, HH.out.2.1, n2, hld8, by omega, by omega, HH.out.2.2.1, HH.out.2.2.2, hbw8⟩
      · rw [hd] at hpo hru2
        obtain ⟨rfl, hst8, hk8⟩ := hpo
        have he : vl = val ∧ s' = sF := by
          have : some (vl, s') = some (val, sF) := hru2
          injection this with this
          injection this with h1 h2
          exact ⟨h1, h2⟩
        obtain ⟨rfl, rfl⟩ := he
        obtain ⟨A5, c5, r5, o5⟩ := hst8
        have hk9 := (HKP.out.trans (HW7.out (.cells (knA v) 142)).2).trans hk8
        have hb9 : Below w.heap.size w w8 := hbw.trans (hk9.below (by omega) (by omega))
        have ho9 : RowAt w8 w.heap.size #[.int .u32 0, .int .i64 0, .slice none 0 0] 62 := HOU.out.keep hk9 (by omega) (by omega)
        have g0 : w8.cell? ⟨w.heap.size + 1, 19, none⟩ = some (.int .i64 s'.st) := r5.cell 19 _ rfl
        have g1 : w8.cell? ⟨w.heap.size + 1, 20, none⟩ = some (.slice A5 s'.ld.length c5) := r5.cell 20 _ rfl
        have hrow := ((ho9.set 0 (.int .u32 vl)).set 1 (.int .i64 s'.st)).set 2 (.slice A5 s'.ld.length c5)
        have hown := ((o5.set_other (show w.heap.size < B by omega) 0 (.int .u32 vl)).set_other (show w.heap.size < B by omega) 1 (.int .i64 s'.st)).set_other (show w.heap.size < B by omega) 2 (.slice A5 s'.ld.length c5)
        have hbel : Below w.heap.size w (((w8.setCell ⟨w.heap.size, 0, none⟩ (.int .u32 vl)).setCell ⟨w.heap.size, 1, none⟩ (.int .i64 s'.st)).setCell ⟨w.heap.size, 2, none⟩ (.slice A5 s'.ld.length c5)) := ((hb9.setCell (p := ⟨w.heap.size, 0, none⟩) (Nat.le_refl _) _).setCell (p := ⟨w.heap.size, 1, none⟩) (Nat.le_refl _) _).setCell (p := ⟨w.heap.size, 2, none⟩) (Nat.le_refl _) _
        have hct := catch_panicking (w.heap.size + 1) w.heap.size vl s'.st s'.ld.length A5 c5 w8 g0 g1 (ho9.cell 0 _ rfl) (ho9.cell 1 _ rfl) (ho9.cell 2 _ rfl) (ho9.frozen 0) (ho9.frozen 1) (ho9.frozen 2) []
        show bodyPostD Try.prog Try.f73 _ (Exit.panic _) _ _
        refine leaves_cons (f := 96) (args := #[.pointer (some ⟨w.heap.size + 1, 0, none⟩), .pointer (some ⟨w.heap.size, 0, none⟩)]) (by simp) (by simp [go_sem]) ?_
        refine hct.mono ?_
        rintro e u' w'' ⟨rfl, rfl, rfl⟩
        have hrow2 : (((w8.setCell ⟨w.heap.size, 0, none⟩ (.int .u32 vl)).setCell ⟨w.heap.size, 1, none⟩ (.int .i64 s'.st)).setCell ⟨w.heap.size, 2, none⟩ (.slice A5 s'.ld.length c5)).heap[w.heap.size]? = some (.cells #[.int .u32 vl, .int .i64 s'.st, .slice A5 s'.ld.length c5] 62) := hrow
        have hsz : (Try.prog.info? 62).map (·.size) = some (#[.int .u32 (vl : Int), .int .i64 (s'.st : Int), .slice A5 s'.ld.length c5] : Array Value).size := by
          show _ = some 3
          kernel_rfl
        exact ⟨_, results_cell_row Try.results73 _ _ w.heap.size _ _ (0, 0) _ (by rfl) hrow2 Try.underlying62 (by rfl) hsz, A5, c5, rfl, hown.lower (by omega), hbel⟩
end Go.Proofs.Ytmndolojfdekdaa
