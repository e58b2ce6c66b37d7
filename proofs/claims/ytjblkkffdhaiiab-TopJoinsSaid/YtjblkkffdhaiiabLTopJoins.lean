/-
  The law TopJoins holds for every input: a program ahead of which another one jumps behind its own end does what it did. No condition.
-/
import Derived.Test.YtjblkkffdhaiiabFq
import Derived.Test.YtjblkkffdhaiiabIf
import Derived.Test.YtjblkkffdhaiiabDe
import Derived.Test.YtjblkkffdhaiiabRows
import Derived.Below
import Derived.ChangeOld
import Derived.ShutString
import Derived.Lib.SmallJoins
import Derived.OpenShut
import Derived.ProofKit
import Derived.WalkKit
import Derived.Deep.QuietTactic
import Derived.BigQuiet
import Derived.Deep.RegionWith
import Derived.Deep.RegionLaw
namespace Go.Proofs.Ytjblkkffdhaiiab
open Go.RowKit

theorem out_cells {w : World} {b : Nat} (h : w.heap[b]? = some (.cells zOut 42)) : w.cell? ⟨b, 0, none⟩ = some (.int .u32 0) ∧ w.cell? ⟨b, 1, none⟩ = some (.int .i64 0) ∧ w.cell? ⟨b, 2, none⟩ = some (.slice none 0 0) ∧ w.frozen? ⟨b, 0, none⟩ = false ∧ w.frozen? ⟨b, 1, none⟩ = false ∧ w.frozen? ⟨b, 2, none⟩ = false := by
  refine ⟨?_, ?_, ?_, ?_, ?_, ?_⟩
  · rw [cell_of_row _ _ 0 _ _ (0, 0) h]; rfl
  · rw [cell_of_row _ _ 1 _ _ (0, 0) h]; rfl
  · rw [cell_of_row _ _ 2 _ _ (0, 0) h]; rfl
  all_goals simp [World.frozen?, h]
theorem vrun_errL (A : Option Addr) (n c : Nat) (g : Nat → IV) (A2 : Option Addr) (n2 c2 : Nat) (w : World) (y : Nat) (hr : Ins w w.heap.size A n c g) (hy : (checkF g n).2 = y) (he : y ≠ 0) :
    Calls Try.prog 17 #[.slice A n c, .slice A2 n2 c2] w fun e w' => e = .returned (.tuple #[.agg #[.int .u32 0, .int .i64 0, .slice none 0 0], .int .i64 (y : Int)]) ∧ Below w.heap.size w w' := by
  subst hy
  exact vrun_err A n c g A2 n2 c2 w hr he
/-- A state with one step more. -/
def VS.inc (s : VS) : VS := ⟨s.a, s.x, s.cl, s.nx, s.st + 1, s.ld⟩
def Res.inc : Res → Res
  | .go s => .go s.inc
  | .stop n s => .stop n s.inc
theorem doK_inc (f : Nat → Nat) (j : Nat) (v : IV) (s : VS) (o : Nat) : doK f j v s.inc o = (doK f j v s o).inc := by
  unfold doK
  split
  case h_19 => split <;> rfl
  all_goals rfl
theorem step_inc (f : Nat → Nat) (v : IV) (s : VS) : step f v s.inc = (step f v s).inc := by
  unfold step
  have e1 : s.inc.tick = s.tick.inc := rfl
  have e2 : oth v s.inc = oth v s := by unfold oth; split <;> rfl
  rw [e1, e2, doK_inc]
theorem run_inc (g : Nat → IV) (f : Nat → Nat) : ∀ m s, runF g f m s.inc = (runF g f m s).map fun p => (p.1, p.2.inc) := by
  intro m
  induction m with
  | zero => intro s; rfl
  | succ m ih =>
    intro s
    unfold runF
    show (match step f (g s.nx) s.inc with
      | .go s' => runF g f m s'
      | .stop v s' => some (v, s')) = _
    rw [step_inc]
    cases step f (g s.nx) s with
    | go t => exact ih t
    | stop n t => rfl

/-- A program ahead of which another one jumps behind its own end. -/
def gY (n : Nat) (g : Nat → IV) (i : Nat) : IV := if i = 0 then ⟨5, 0, 0, n⟩ else if i ≤ n then ⟨0x84, 0, 0, 0⟩ else g (i - (n + 1))
section
variable {g : Nat → IV} {n m : Nat}
theorem gY_zero : gY n g 0 = ⟨5, 0, 0, n⟩ := rfl
theorem gY_neg {i : Nat} (h0 : i ≠ 0) (h : i ≤ n) : gY n g i = ⟨0x84, 0, 0, 0⟩ := by unfold gY; rw [if_neg h0, if_pos h]
theorem gY_at (i : Nat) : gY n g (i + (n + 1)) = g i := by unfold gY; rw [if_neg (by omega), if_neg (by omega), Nat.add_sub_cancel]
theorem ja_kd (n : Nat) : kd ⟨5, 0, 0, n⟩ = 13 := by
  have : kd ⟨5, 0, 0, n⟩ = kd ⟨5, 0, 0, 0⟩ := kd_of rfl
  rw [this]; decide +kernel
theorem ja_fars (n : Nat) : fars ⟨5, 0, 0, n⟩ = [n] := fars_j (ja_kd n)
theorem ja_next (n : Nat) : nexts ⟨5, 0, 0, n⟩ 0 = [n + 1] := by unfold nexts; rw [ja_fars]; simp; omega
theorem emb_gY (F : Fmd g m) : Emb g (gY n g) (fun i => i + (n + 1)) (fun i => i < m) where
  code i _ := by rw [gY_at]
  ks i _ _ := by rw [gY_at]
  jump i hi h13 := by
    rw [gY_at]
    have := next_lt F hi (List.mem_map.2 ⟨(g i).k, by rw [fars_j h13]; simp, rfl⟩ : i + 1 + (g i).k ∈ nexts (g i) i)
    exact ⟨by omega, this⟩
  bt i hi hb := by
    rw [gY_at]
    have := next_lt F hi (List.mem_map.2 ⟨(g i).t, by rw [fars_b hb]; simp, rfl⟩ : i + 1 + (g i).t ∈ nexts (g i) i)
    exact ⟨by omega, this⟩
  bf i hi hb := by
    rw [gY_at]
    have := next_lt F hi (List.mem_map.2 ⟨(g i).f, by rw [fars_b hb]; simp, rfl⟩ : i + 1 + (g i).f ∈ nexts (g i) i)
    exact ⟨by omega, this⟩
  on i hi h13 hb hr := by
    have := next_lt F hi (List.mem_map.2 ⟨0, by rw [fars_o h13 hb hr]; simp, rfl⟩ : i + 1 + 0 ∈ nexts (g i) i)
    exact ⟨by omega, this⟩
theorem reach_gY (F : Fmd g m) (k : Nat) : ∀ p, reach (gY n g) k (n + 1 + m) p = true → p = 0 ∨ ∃ i, i < m ∧ p = i + (n + 1) ∧ reach g k m i = true := by
  intro p
  induction p using Nat.strongRecOn with
  | _ p ih =>
    intro hr
    rcases reach_back k p hr with h | ⟨q, hq, hqp, hrq, hst, hm⟩
    · exact .inl h
    · right
      rcases ih q hqp hrq with rfl | ⟨j, hj, rfl, hrj⟩
      · rw [gY_zero, ja_next] at hm
        have : p = n + 1 := by simpa using hm
        exact ⟨0, F.pos, by omega, reach_zero _ _ _⟩
      · have hm' : p ∈ nexts (gY n g (j + (n + 1))) (j + (n + 1)) := hm
        rw [((emb_gY F).nexts j hj).1] at hm'
        obtain ⟨x, hx, rfl⟩ := List.mem_map.1 hm'
        rw [gY_at] at hst
        exact ⟨x, next_lt F hj hx, rfl, reach_next k hj hrj hst hx⟩
theorem gY_check (hc : (checkF g m).2 = 0) (hM : n + 1 + m ≤ 4096) : (checkF (gY n g) (n + 1 + m)).2 = 0 := by
  have F := fmd_of hc
  have hpos := F.pos
  refine check_of ⟨by omega, hM, ?_, ?_⟩ ?_
  · intro p hp
    by_cases h0 : p = 0
    · subst h0
      rw [gY_zero]
      unfold alone
      have e1 : isLd ⟨5, 0, 0, n⟩ = false := by unfold isLd; rw [ja_kd]; rfl
      have e2 : isSt ⟨5, 0, 0, n⟩ = false := by unfold isSt; rw [ja_kd]; rfl
      have e3 : isBr ⟨5, 0, 0, n⟩ = false := by unfold isBr; rw [ja_kd]; rfl
      rw [ja_kd, e1, e2, e3]
      simp
      omega
    · by_cases h1 : p ≤ n
      · rw [gY_neg h0 h1]
        exact neg_facts.2.2.2 _
      · obtain ⟨i, rfl⟩ : ∃ i, p = i + (n + 1) := ⟨p - (n + 1), by omega⟩
        rw [gY_at, show n + 1 + m - 1 - (i + (n + 1)) = m - 1 - i by omega]
        exact F.al i (by omega)
  · rw [show n + 1 + m - 1 = (m - 1) + (n + 1) by omega, gY_at]
    exact F.last
  · intro p hp hl
    by_cases h0 : p = 0
    · subst h0
      rw [gY_zero] at hl
      unfold isLd at hl
      rw [ja_kd] at hl
      exact absurd hl (by decide)
    · by_cases h1 : p ≤ n
      · rw [gY_neg h0 h1] at hl
        rw [neg_facts.2.2.1] at hl
        exact absurd hl (by decide)
      · obtain ⟨i, rfl⟩ : ∃ i, p = i + (n + 1) := ⟨p - (n + 1), by omega⟩
        rw [gY_at] at hl ⊢
        cases hr : reach (gY n g) (g i).k (n + 1 + m) (i + (n + 1))
        · rfl
        · rcases reach_gY F (g i).k _ hr with h | ⟨j, hj, he, hrj⟩
          · omega
          · obtain rfl : i = j := by omega
            rw [check_loads hc i hj hl] at hrj
            exact absurd hrj (by decide)
theorem gY_ok (hok : ∀ i, i < m → (g i).ok) (hn : n < 256) (p : Nat) (hp : p < n + 1 + m) : (gY n g p).ok := by
  unfold gY
  split
  · exact ⟨show 5 < 65536 by decide, show 0 < 256 by decide, show 0 < 256 by decide, by show n < 4294967296; omega⟩
  · split
    · exact ⟨by decide, by decide, by decide, by decide⟩
    · exact hok _ (by omega)
theorem gY_run (hc : (checkF g m).2 = 0) (f : Nat → Nat) {val : Nat} {sF : VS} (hr : runF g f m zst = some (val, sF)) : ∃ sY, runF (gY n g) f (n + 1 + m) zst = some (val, sY) ∧ sY.st = sF.st + 1 ∧ sY.ld = sF.ld := by
  have F := fmd_of hc
  have h1 := run_inc g f m zst
  rw [hr] at h1
  have h2 := (emb_gY (n := n) F).run f m zst.inc F.pos
  rw [h1] at h2
  have e : zst.inc.setn ((fun i => i + (n + 1)) zst.inc.nx) = zst.tick.setn (1 + n) := by
    show (zst.inc.setn (0 + (n + 1))) = _
    rw [show 0 + (n + 1) = 1 + n by omega]; rfl
  rw [e] at h2
  cases hq : runF (gY n g) f m (zst.tick.setn (1 + n)) with
  | none => rw [hq] at h2; cases h2
  | some r =>
    rw [hq] at h2
    obtain ⟨v, sY⟩ := r
    simp [obs] at h2
    obtain ⟨rfl, h3, h4⟩ := h2
    refine ⟨sY, ?_, h3, h4⟩
    have h5 : runF (gY n g) f (m + 1) zst = some (v, sY) := by
      unfold runF
      show (match step f (gY n g 0) zst with
        | .go s' => runF (gY n g) f m s'
        | .stop v s' => some (v, s')) = _
      have hst : step f (gY n g 0) zst = .go (zst.tick.setn (1 + n)) := by
        unfold step
        rw [gY_zero, ja_kd]
        rfl
      rw [hst]
      exact hq
    have := runF_more _ _ _ n _ _ h5
    rwa [show m + 1 + n = n + 1 + m by omega] at this
theorem gY_lng (hc : (checkF g m).2 = 0) : lng (gY n g) (n + 1 + m) = lng g m + 1 := by
  have F := fmd_of hc
  have hpos := F.pos
  rw [lng_steps, lng_steps, stepsF_eq _ _ 0 (by omega), gY_zero, ja_next]
  have h := (emb_gY (n := n) F).steps (n := m) (N := n + 1 + m) (fun i h => h) (fun i h => by show i + (n + 1) < _; omega) m 0 F.pos (by omega)
  have h' : stepsF (gY n g) (n + 1 + m) (n + 1) = stepsF g m 0 := by
    have h2 : stepsF (gY n g) (n + 1 + m) (0 + (n + 1)) = stepsF g m 0 := h
    rwa [Nat.zero_add] at h2
  show 1 + max 0 (stepsF (gY n g) (n + 1 + m) (n + 1)) = _
  rw [h']
  omega
end
theorem vrun_okS (A : Option Addr) (n c : Nat) (g : Nat → IV) (A2 : Option Addr) (c2 : Nat) (f : Nat → Nat) (w : World) (val : Nat) (sF : VS) (st' : Int) (L' : Nat) (hst : (sF.st : Int) = st') (hL : sF.ld.length = L') (hr : Ins w w.heap.size A n c g) (he : (checkF g n).2 = 0)
    (hby : Byt w w.heap.size A2 64 c2 f) (hf : ∀ i, f i < 256) (hrun : runF g f n zst = some (val, sF)) :
    Calls Try.prog 17 #[.slice A n c, .slice A2 64 c2] w fun e w' => ∃ A' c', e = .returned (.tuple #[.agg #[.int .u32 val, .int .i64 st', .slice A' L' c'], .int .i64 0]) ∧ Below w.heap.size w w' := by
  subst hst hL
  exact (vrun_ok A n c g A2 c2 f w val sF hr he hby hf hrun).mono fun _ _ ⟨A', c', he, _, hb⟩ => ⟨A', c', he, hb⟩
theorem lng_le (g : Nat → IV) (n : Nat) : lng g n ≤ n := by
  have := lgL_le g (List.finRange n).reverse 0
  simpa [lng] using this
theorem topAwake_any (w : World) : Calls Try.prog 19 #[] w fun e w' => e = .returned (.bool true) ∧ w = w' := by
  go_enter Try.func19, Try.ntmps19
  go_wp2_with (go_at_call 50; refine (halves_any _ _ (by omega) (by omega)).mono ?_; rintro e w' ⟨rfl, rfl⟩)
  go_ret
  exact ⟨rfl, rfl⟩
theorem lit_ownJ (w : World) (q : Nat) (E : TypeId) : OwnC (w.alloc (.cells #[.int .u16 5, .int .u8 0, .int .u8 0, .int .u32 q] E)) w.heap.size E 4 (some ⟨w.heap.size, 0, none⟩) 1 1 (icell fun _ => ⟨5, 0, 0, q⟩) :=
  World.ownsRow_lit (base := w.heap.size) (e := E) (size := 4) w #[.int .u16 5, .int .u8 0, .int .u8 0, .int .u32 q] 1 (Nat.le_refl _) (by decide) rfl
theorem lit1H (w : World) (code : Nat) (E : TypeId) (H : Nat) (hH : w.heap.size = H) :
    Cel (w.alloc (.cells #[.int .u16 code, .int .u8 0, .int .u8 0, .int .u32 0] E)) (H + 1) 4 (some ⟨H, 0, none⟩) 1 1 (icell fun _ => ⟨code, 0, 0, 0⟩) := by
  subst hH
  exact Cel.mk_ (by omega) (by decide) (by decide) (fun i hi => by
    match i, hi with
    | 0, _ => simp [icell]
    | 1, _ => simp [icell]
    | 2, _ => simp [icell]
    | 3, _ => simp [icell])
theorem gY_first (q : Nat) (g : Nat → IV) : ∀ i, i < 1 * 4 → (icell fun _ => (⟨5, 0, 0, q⟩ : IV)) i = icell (gY q g) i := fun i hi => by
  unfold icell
  rw [show i / 4 = 0 by omega]; rfl
theorem gY_catN (q : Nat) (g : Nat → IV) (k : Nat) (hk : k < q) : ∀ i, i < (k + 1 + 1) * 4 → catC ((k + 1) * 4) (icell (gY q g)) (icell fun _ => ⟨0x84, 0, 0, 0⟩) i = icell (gY q g) i := by
  have h := icell_cat (gY q g) (k + 1)
  rw [gY_neg (by omega) (by omega)] at h
  exact h
theorem gY_catG (q : Nat) (g : Nat → IV) (m : Nat) : ∀ i, i < (q + 1 + m) * 4 → catC ((q + 1) * 4) (icell (gY q g)) (icell g) i = icell (gY q g) i := fun i hi => by
  unfold catC
  split
  · rfl
  · rename_i h
    unfold icell
    rw [show (i - (q + 1) * 4) % 4 = i % 4 by omega, show i / 4 = (i - (q + 1) * 4) / 4 + (q + 1) by omega, gY_at]
/-- What is read of the end of a run. -/
def OutB (W : World) (blk val : Nat) (st : Int) (n : Nat) (A : Option Addr) (c : Nat) : Prop := RowAt W blk #[.int .u32 val, .int .i64 st, .slice A n c] 42
theorem OutB.new (w : World) (val : Nat) (st : Int) (n : Nat) (A : Option Addr) (c : Nat) : OutB (w.alloc (.cells #[.int .u32 val, .int .i64 st, .slice A n c] 42)) w.heap.size val st n A c := heap_alloc_last w _
theorem OutB.fill {w : World} {blk : Nat} (h : RowAt w blk zOut 42) (val : Nat) (st : Int) (n : Nat) (A : Option Addr) (c : Nat) : OutB (((w.setCell ⟨blk, 0, none⟩ (.int .u32 (val : Int))).setCell ⟨blk, 1, none⟩ (.int .i64 st)).setCell ⟨blk, 2, none⟩ (.slice A n c)) blk val st n A c :=
  ((RowAt.set h 0 (.int .u32 (val : Int))).set 1 (.int .i64 st)).set 2 (.slice A n c)
theorem OutB.setOther {w : World} {blk b val n c : Nat} {st : Int} {A : Option Addr} (h : OutB w blk val st n A c) (i : Nat) (v : Value) (hn : blk ≠ b) : OutB (w.setCell ⟨b, i, none⟩ v) blk val st n A c := (Below.heap_setCell _ _ _ _ hn).trans h

set_option maxRecDepth 100000 in
set_option maxHeartbeats 8000000 in
theorem walk_TopJoins {w0 : World} (A : Option Addr) (m c : Nat) (g : Nat → IV) (hr : Ins w0 w0.heap.size A m c g) (a : Int) (ha : (Lit.int .u8 a).wf = true) (f : Nat → Nat) (hf : ∀ i, i < 64 → f i < 256) :
    Calls Try.prog 6 #[.slice A m c, .int .u8 a, .agg (arrB 64 f)] w0 fun e w' => e = .returned (.bool true) ∧ Below w0.heap.size w0 w' := by
  simp [Lit.wf, IntKind.min, IntKind.max, IntKind.signed, IntKind.bits] at ha
  obtain ⟨q, rfl⟩ := Int.eq_ofNat_of_zero_le ha.1
  have hq : q < 256 := by omega
  have hmx := hr.1.le
  unfold maxLen at hmx
  obtain ⟨m1, m2⟩ := hmx
  obtain ⟨D, hD⟩ : ∃ D, arrB 64 f = D := ⟨_, rfl⟩
  have hb0 : Below w0.heap.size w0 (w0.alloc (.cells D 39)) := (Below.refl _ _).alloc (Nat.le_refl _) _
  have ha0 : ArB (w0.alloc (.cells D 39)) w0.heap.size 64 39 f := by rw [← hD]; exact heap_alloc_last w0 _
  have hby0 : Byt (w0.alloc (.cells D 39)) (w0.alloc (.cells D 39)).heap.size (some ⟨w0.heap.size, 0, none⟩) 64 64 (lim f) := byt_lim (ha0.byt (by decide) ha0.lt hf)
  have hin0 : Ins (w0.alloc (.cells D 39)) (w0.alloc (.cells D 39)).heap.size A m c g := (hr.below hb0).more hb0.size
  have hsl := sl_all
  rw [hD]
  clear ha
  by_cases h1 : 100 < m
  · have hbb := Lib.hid hb0
    clear hr hD ha0 hby0 hin0
    go_enter Try.func6, Try.ntmps6
    go_wp2
    go_ret
    exact ⟨rfl, hbb.out⟩
  · have HB0 := Lib.hid hb0
    have HY0 := Lib.hid hby0
    have HI0 := Lib.hid hin0
    clear hr hD ha0 hby0 hin0 hb0
    go_enter Try.func6, Try.ntmps6
    go_wp2_with fail
    generalize w0.alloc (.cells D 39) = W1 at *
    refine (allT_any A m c g _ (by omega) HI0.out).mono ?_
    rintro e w2 ⟨A2, c2, rfl, hown2, hB2⟩
    have HI2 : Hid (Ins w2 w2.heap.size A2 m c2 g) := Lib.hid ⟨hown2.cel, HI0.out.2⟩
    have HB2 := Lib.hid (HB0.out.trans (hB2.mono HB0.out.size))
    have HY2 := Lib.hid ((HY0.out.below hB2).more hB2.size)
    clear hown2 hB2
    by_cases hce : (checkF g m).2 = 0
    · obtain ⟨c1, c2', c3, c4⟩ := checkF_facts hce
      obtain ⟨val, sF, hrun⟩ := run_total (lim f) g m c3 c4 m zst c1 (by show m - 0 ≤ m; omega)
      obtain ⟨b1, b2, b3, b4⟩ := run_bounds (lim f) g m c3 c4 m zst val sF c1 hrun (Nat.le_refl _) (fun k hk => by cases hk)
      have b3' : sF.st ≤ m := by have : zst.st = 0 := rfl; omega
      obtain ⟨S1, hS1⟩ : ∃ S, sF.st = S := ⟨_, rfl⟩
      obtain ⟨L1, hL1⟩ : ∃ L, sF.ld.length = L := ⟨_, rfl⟩
      rw [hS1] at b3'
      obtain ⟨sY, hrunY, hstY, hldY⟩ := gY_run (n := q) hce (lim f) hrun
      have hcY := gY_check (n := q) hce (by omega)
      have hlY := gY_lng (n := q) hce
      have hokY := fun p hp => gY_ok (n := q) (m := m) HI0.out.2 hq p hp
      have hLm := lng_le g m
      obtain ⟨L2, hL2⟩ : ∃ L, lng g m = L := ⟨_, rfl⟩
      rw [hL2] at hlY hLm
      have HV1 := Lib.hid fun (W : World) (h1 : Ins W W.heap.size A2 m c2 g) (h2 : Byt W W.heap.size (some ⟨w0.heap.size, 0, none⟩) 64 64 (lim f)) => vrun_okS A2 m c2 g _ 64 (lim f) W val sF (S1 : Int) L1 (by rw [hS1]) hL1 h1 hce h2 (lim_lt f hf) hrun
      have HLG := Lib.hid hL2
      have HCE := Lib.hid hce
      have HLY := Lib.hid hlY
      have HCY := Lib.hid hcY
      have HOKY := Lib.hid hokY
      have HRY := Lib.hid (And.intro hrunY (And.intro (show (sY.st : Int) = (S1 : Int) + 1 by omega) (show sY.ld.length = L1 by rw [hldY]; exact hL1)))
      clear hrun b1 b2 b3 b4 c3 c4 hS1 hL1 hrunY hstY hldY hcY hlY hokY hL2 hce
      go_wp2_with fail
      refine (HV1.out _ HI2.out HY2.out).mono ?_
      rintro e w3 ⟨A3, c3, rfl, hB3⟩
      have hz3 := hB3.size
      have hz2 := HB2.out.size
      have HO3 := Lib.hid (OutB.new w3 val S1 L1 A3 c3)
      have HB3 : Hid (Below w0.heap.size w0 (w3.alloc (.cells #[.int .u32 val, .int .i64 S1, .slice A3 L1 c3] 42))) := Lib.hid ((HB2.out.trans (hB3.mono HB2.out.size)).alloc (by omega) _)
      have HI3 : Hid (Ins (w3.alloc (.cells #[.int .u32 val, .int .i64 S1, .slice A3 L1 c3] 42)) (w3.alloc (.cells #[.int .u32 val, .int .i64 S1, .slice A3 L1 c3] 42)).heap.size A2 m c2 g) := Lib.hid ((HI2.out.below (hB3.alloc hB3.size _)).more (by simp; omega))
      have HY3 : Hid (Byt (w3.alloc (.cells #[.int .u32 val, .int .i64 S1, .slice A3 L1 c3] 42)) (w3.alloc (.cells #[.int .u32 val, .int .i64 S1, .slice A3 L1 c3] 42)).heap.size (some ⟨w0.heap.size, 0, none⟩) 64 64 (lim f)) := Lib.hid ((HY2.out.below (hB3.alloc hB3.size _)).more (by simp; omega))
      have v0 : IntKind.u32.wrap (q : Int) = (q : Int) := by rw [IntKind.wrap_u32]; omega
      clear hB3 hz2 hz3
      go_wp2
      have HS3 : Hid ((w3.alloc (.cells #[.int .u32 val, .int .i64 S1, .slice A3 L1 c3] 42)).heap.size = w3.heap.size + 1) := Lib.hid (by simp)
      generalize (w3.alloc (.cells #[.int .u32 val, .int .i64 S1, .slice A3 L1 c3] 42)) = W3 at *
      generalize w3.heap.size = B3 at *
      have hown := lit_ownJ W3 q 27
      rw [HS3.out] at hown
      have HW := Lib.hid (hown.congr (gY_first q g))
      clear hown
      go_loopw [11, 12] (fun y i wr => ∃ (k : Nat) (A' : Option Addr) (c' : Nat), k ≤ q ∧ i = .int .i64 k ∧ y = .slice A' (k + 1) c' ∧ OwnC wr (B3 + 1) 27 4 A' (k + 1) c' (icell (gY q g)) ∧ Below W3.heap.size W3 wr)
        (fun _ i _ => q - (intOf i).toNat)
      case atStart => exact ⟨0, _, _, Nat.zero_le _, rfl, rfl, HW.out, (Below.refl _ _).alloc (Nat.le_refl _) _⟩
      case round =>
        obtain ⟨k, A', c', hk, rfl, rfl, hown, hB⟩ := hrel
        have hs := hB.size
        have hs3 := HS3.out
        have HO := Lib.hid hown
        clear hown
        by_cases hlt : k < q
        · have HSB : Hid (W3.heap.size = B3 + 1) := Lib.hid hs3
          have hle : B3 + 1 ≤ wr.heap.size := by omega
          clear hs3
          go_wp2_with (at_builtin; go_must (refine app_cells _ rfl _ _ _ 27 rfl Try.underlying23 infoI rfl (by decide) rfl (HO.out.alloc _) rfl (lit1H _ 132 27 wr.heap.size rfl) (fun i _ => icell_one _ i) (by unfold maxLen; omega) (by omega) (by simp; omega) (k + 1 + 1) rfl (icell (gY q g)) (gY_catN q g k hlt) ?_; rintro A4 c4 w4 hown4 hB4; have HO4 := Lib.hid hown4; clear hown4))
          exact ⟨⟨k + 1, A4, c4, by omega, by go_num, rfl, HO4.out, (hB.alloc hs _).trans (hB4.mono (by have := HSB.out; omega))⟩, by simp [intOf]; omega⟩
        · obtain rfl : k = q := by omega
          have HSB : Hid (W3.heap.size = B3 + 1) := Lib.hid hs3
          have hle : B3 + 1 ≤ wr.heap.size := by omega
          have HBr := Lib.hid hB
          clear hs3 hB
          go_wp2_with (at_builtin; go_must (refine app_cells _ rfl _ _ _ 27 rfl Try.underlying23 infoI rfl (by decide) rfl HO.out rfl (HI3.out.below HBr.out).1 (fun i _ => icell_one _ i) (by unfold maxLen; omega) (by omega) (by omega) (k + 1 + m) rfl (icell (gY k g)) (gY_catG k g m) ?_; rintro A5 c5 w5 hown5 hB5; have HO5 := Lib.hid hown5; have HB5 := Lib.hid hB5; clear hown5 hB5))
          have hb5 : Below W3.heap.size W3 w5 := HBr.out.trans (by rw [HSB.out]; exact HB5.out)
          have HI5 : Hid (Ins w5 w5.heap.size A5 (k + 1 + m) c5 (gY k g)) := Lib.hid ⟨HO5.out.cel, HOKY.out⟩
          have HIx5 := Lib.hid ((HI3.out.below hb5).more hb5.size)
          have HY5 := Lib.hid ((HY3.out.below hb5).more hb5.size)
          have HO35 := Lib.hid (show OutB w5 B3 val S1 L1 A3 c3 from RowAt.below HO3.out hb5 (by have := HSB.out; omega))
          have HB05 := Lib.hid (HB3.out.trans (hb5.mono HB3.out.size))
          obtain ⟨M, hM⟩ : ∃ M, k + 1 + m = M := ⟨_, rfl⟩
          have hM1 : M ≤ 400 := by omega
          rw [hM] at HI5 HCY HLY HRY ⊢
          have HM := Lib.hid hM
          clear hb5 HO5 HB5 HO HBr HOKY HI3 HY3 HO3 HB3 HW hM
          refine (vrun_okS A5 M c5 (gY k g) _ 64 (lim f) w5 val sY ((S1 : Int) + 1) L1 HRY.out.2.1 HRY.out.2.2 HI5.out HCY.out HY5.out (lim_lt f hf) HRY.out.1).mono ?_
          rintro e w6 ⟨A6, c6, rfl, hB6⟩
          have hz6 := hB6.size
          have hz5 := HB05.out.size
          have HIQ : Hid (Ins (w6.alloc (.cells #[.int .u32 val, .int .i64 ((S1 : Int) + 1), .slice A6 L1 c6] 42)) (w6.alloc (.cells #[.int .u32 val, .int .i64 ((S1 : Int) + 1), .slice A6 L1 c6] 42)).heap.size A5 M c5 (gY k g)) := Lib.hid ((HI5.out.below (hB6.alloc hB6.size _)).more (by simp; omega))
          have HIxQ : Hid (Ins (w6.alloc (.cells #[.int .u32 val, .int .i64 ((S1 : Int) + 1), .slice A6 L1 c6] 42)) (w6.alloc (.cells #[.int .u32 val, .int .i64 ((S1 : Int) + 1), .slice A6 L1 c6] 42)).heap.size A2 m c2 g) := Lib.hid ((HIx5.out.below (hB6.alloc hB6.size _)).more (by simp; omega))
          have HYQ : Hid (Byt (w6.alloc (.cells #[.int .u32 val, .int .i64 ((S1 : Int) + 1), .slice A6 L1 c6] 42)) (w6.alloc (.cells #[.int .u32 val, .int .i64 ((S1 : Int) + 1), .slice A6 L1 c6] 42)).heap.size (some ⟨w0.heap.size, 0, none⟩) 64 64 (lim f)) := Lib.hid ((HY5.out.below (hB6.alloc hB6.size _)).more (by simp; omega))
          have HO3Q : Hid (OutB (w6.alloc (.cells #[.int .u32 val, .int .i64 ((S1 : Int) + 1), .slice A6 L1 c6] 42)) B3 val S1 L1 A3 c3) := Lib.hid (RowAt.below HO35.out (hB6.alloc hB6.size _) (RowAt.lt HO35.out))
          have HO6Q := Lib.hid (OutB.new w6 val ((S1 : Int) + 1) L1 A6 c6)
          have HBQ : Hid (Below w0.heap.size w0 (w6.alloc (.cells #[.int .u32 val, .int .i64 ((S1 : Int) + 1), .slice A6 L1 c6] 42))) := Lib.hid ((HB05.out.trans (hB6.mono hz5)).alloc (by omega) _)
          obtain ⟨sG, hrunG, hstG, hldG⟩ := prn_run HCY.out (lim f) HRY.out.1
          obtain ⟨P, N, hP, hN, hN0, hNn, hc2, hok2, hway, hcN, hpN, hlng⟩ := prn_facts HCY.out HI5.out.2
          rw [hP, hN] at hrunG
          have HPN := Lib.hid (And.intro hP hN)
          have HOKP := Lib.hid hok2
          have HCP := Lib.hid hc2
          have HRG := Lib.hid (And.intro hrunG (And.intro (show (sG.st : Int) = (S1 : Int) + 1 by have := HRY.out.2.1; omega) (show sG.ld.length = L1 by rw [hldG]; exact HRY.out.2.2)))
          clear hP hN hc2 hok2 hway hcN hpN hlng hrunG hstG hldG hB6 HI5 HIx5 HY5 HO35 HB05 hz5
          go_wp2_with fail
          generalize (w6.alloc (.cells #[.int .u32 val, .int .i64 ((S1 : Int) + 1), .slice A6 L1 c6] 42)) = WQ at *
          generalize w6.heap.size = B6 at *
          go_region_with (first
            | (go_at_call 13
               refine (prune_ok A5 M c5 (gY k g) _ (by first | exact HIQ.out.below (Below.refl _ WQ).drew | exact (HIQ.out.below ((Below.refl _ WQ).alloc (Nat.le_refl _) _).drew).more (by simp)) HCY.out).mono ?_
               rw [HPN.out.1, HPN.out.2]
               rintro e w7 ⟨A7, c7, rfl, hown7, hB7⟩
               have HI7 : Hid (Ins w7 w7.heap.size A7 N c7 P) := Lib.hid ⟨hown7.cel, HOKP.out⟩
               have hb7 : Below WQ.heap.size WQ w7 := by first | exact (Below.refl _ WQ).drew.trans hB7 | exact ((Below.refl _ WQ).alloc (Nat.le_refl _) _).drew.trans (hB7.mono (by simp))
               have HB7 := Lib.hid hb7
               try (have hl7 : w7.heap[WQ.heap.size]? = some (.cells zOut 42) := (hB7.block WQ.heap.size (by show _ < (World.alloc _ _).heap.size; simp)).trans (heap_alloc_last WQ _)
                    have HL7 := Lib.hid hl7
                    obtain ⟨p0, p1, p2, p3, p4, p5⟩ := out_cells hl7
                    clear hl7)
               clear hown7 hb7 hB7)
            | (go_at_call 17
               refine (vrun_okS A7 N c7 P _ 64 (lim f) _ val sG ((S1 : Int) + 1) L1 HRG.out.2.1 HRG.out.2.2 (by first | exact HI7.out | exact (HI7.out.below ((Below.refl _ w7).alloc (Nat.le_refl _) _)).more (by simp)) HCP.out (by first | exact (HYQ.out.below HB7.out).more HB7.out.size | exact (((HYQ.out.below HB7.out).more HB7.out.size).below ((Below.refl _ w7).alloc (Nat.le_refl _) _)).more (by simp)) (lim_lt f hf) HRG.out.1).mono ?_
               rintro e w8 ⟨A8, c8, rfl, hB8⟩
               have hb8 : Below WQ.heap.size WQ w8 := by first | exact HB7.out.trans (hB8.mono HB7.out.size) | exact (HB7.out.alloc HB7.out.size _).trans (hB8.mono (by have := HB7.out.size; simp; omega))
               have HB8 := Lib.hid hb8
               try (have hl8 : w8.heap[w7.heap.size]? = some (.cells zOut 42) := (hB8.block w7.heap.size (by simp)).trans (heap_alloc_last w7 _)
                    have HL8 := Lib.hid hl8
                    obtain ⟨p0, p1, p2, p3, p4, p5⟩ := out_cells hl8
                    clear hl8)
               try (have hl9 : w8.heap[WQ.heap.size]? = some (.cells zOut 42) := (hB8.block WQ.heap.size (Array.getElem?_eq_some_iff.1 HL7.out).1).trans HL7.out
                    have HL9 := Lib.hid hl9
                    obtain ⟨p0, p1, p2, p3, p4, p5⟩ := out_cells hl9
                    clear hl9)
               clear hb8 hB8))
          · have hV := HB8.out.alloc HB8.out.size (.cells #[.int .u32 val, .int .i64 ((S1 : Int) + 1), .slice A8 L1 c8] 42)
            have hout := OutB.new w8 val ((S1 : Int) + 1) L1 A8 c8
            generalize (w8.alloc (.cells #[.int .u32 val, .int .i64 ((S1 : Int) + 1), .slice A8 L1 c8] 42)) = V at *
            generalize w8.heap.size = blk at *
            clear HB8 HI7
            have x0 := RowAt.cell (RowAt.below HO3Q.out hV (RowAt.lt HO3Q.out)) 0 _ rfl
            have x1 := RowAt.cell (RowAt.below HO3Q.out hV (RowAt.lt HO3Q.out)) 1 _ rfl
            have y0 := RowAt.cell (RowAt.below HO6Q.out hV (RowAt.lt HO6Q.out)) 0 _ rfl
            have y1 := RowAt.cell (RowAt.below HO6Q.out hV (RowAt.lt HO6Q.out)) 1 _ rfl
            have z0 := RowAt.cell hout 0 _ rfl
            have z1 := RowAt.cell hout 1 _ rfl
            have HIV := Lib.hid ((HIQ.out.below hV).more hV.size)
            have HIxV := Lib.hid ((HIxQ.out.below hV).more hV.size)
            have HBV := Lib.hid (HBQ.out.trans (hV.mono HBQ.out.size))
            have hLM : ∀ W, Ins W W.heap.size A5 M c5 (gY k g) → Calls Try.prog 12 #[.slice A5 M c5] W fun e w' => e = .returned (.int .i64 ((L2 : Int) + 1)) ∧ Below W.heap.size W w' := fun W h => by
              have := longest_ok A5 M c5 (gY k g) W h HCY.out
              rw [HLY.out] at this
              exact this
            have HLM := Lib.hid hLM
            clear hV hout hLM
            go_wp2_with fail
            refine (HLM.out _ HIV.out).mono ?_
            rintro e w9 ⟨rfl, hB9⟩
            have HI9 := Lib.hid ((HIxV.out.below hB9).more hB9.size)
            have HB9 := Lib.hid (HBV.out.trans (hB9.mono HBV.out.size))
            clear hB9 x0 x1 y0 y1 z0 z1
            go_wp2_with fail
            refine (longest_ok _ m _ g _ HI9.out HCE.out).mono ?_
            rw [HLG.out]
            rintro e w10 ⟨rfl, hB10⟩
            have HB10 := Lib.hid (HB9.out.trans (hB10.mono HB9.out.size))
            clear hB10
            go_wp2_with (go_at_call 19; refine (topAwake_any _).mono ?_; rintro e w11 ⟨rfl, rfl⟩)
            go_ret
            exact ⟨rfl, HB10.out⟩
          · have hV := ((HB8.out.setCell (p := ⟨w7.heap.size, 0, none⟩) HB7.out.size (.int .u32 (val : Int))).setCell (p := ⟨w7.heap.size, 1, none⟩) HB7.out.size (.int .i64 ((S1 : Int) + 1))).setCell (p := ⟨w7.heap.size, 2, none⟩) HB7.out.size (.slice A8 L1 c8)
            have hout := OutB.fill HL8.out val ((S1 : Int) + 1) L1 A8 c8
            generalize (((w8.setCell ⟨w7.heap.size, 0, none⟩ (.int .u32 (val : Int))).setCell ⟨w7.heap.size, 1, none⟩ (.int .i64 ((S1 : Int) + 1))).setCell ⟨w7.heap.size, 2, none⟩ (.slice A8 L1 c8)) = V at *
            generalize w7.heap.size = blk at *
            clear HB8 HI7 HL8 p0 p1 p2 p3 p4 p5
            have x0 := RowAt.cell (RowAt.below HO3Q.out hV (RowAt.lt HO3Q.out)) 0 _ rfl
            have x1 := RowAt.cell (RowAt.below HO3Q.out hV (RowAt.lt HO3Q.out)) 1 _ rfl
            have y0 := RowAt.cell (RowAt.below HO6Q.out hV (RowAt.lt HO6Q.out)) 0 _ rfl
            have y1 := RowAt.cell (RowAt.below HO6Q.out hV (RowAt.lt HO6Q.out)) 1 _ rfl
            have z0 := RowAt.cell hout 0 _ rfl
            have z1 := RowAt.cell hout 1 _ rfl
            have HIV := Lib.hid ((HIQ.out.below hV).more hV.size)
            have HIxV := Lib.hid ((HIxQ.out.below hV).more hV.size)
            have HBV := Lib.hid (HBQ.out.trans (hV.mono HBQ.out.size))
            have hLM : ∀ W, Ins W W.heap.size A5 M c5 (gY k g) → Calls Try.prog 12 #[.slice A5 M c5] W fun e w' => e = .returned (.int .i64 ((L2 : Int) + 1)) ∧ Below W.heap.size W w' := fun W h => by
              have := longest_ok A5 M c5 (gY k g) W h HCY.out
              rw [HLY.out] at this
              exact this
            have HLM := Lib.hid hLM
            clear hV hout hLM
            go_wp2_with fail
            refine (HLM.out _ HIV.out).mono ?_
            rintro e w9 ⟨rfl, hB9⟩
            have HI9 := Lib.hid ((HIxV.out.below hB9).more hB9.size)
            have HB9 := Lib.hid (HBV.out.trans (hB9.mono HBV.out.size))
            clear hB9 x0 x1 y0 y1 z0 z1
            go_wp2_with fail
            refine (longest_ok _ m _ g _ HI9.out HCE.out).mono ?_
            rw [HLG.out]
            rintro e w10 ⟨rfl, hB10⟩
            have HB10 := Lib.hid (HB9.out.trans (hB10.mono HB9.out.size))
            clear hB10
            go_wp2_with (go_at_call 19; refine (topAwake_any _).mono ?_; rintro e w11 ⟨rfl, rfl⟩)
            go_ret
            exact ⟨rfl, HB10.out⟩
          · have hV := ((HB8.out.setCell (p := ⟨WQ.heap.size, 0, none⟩) (Nat.le_refl _) (.int .u32 (val : Int))).setCell (p := ⟨WQ.heap.size, 1, none⟩) (Nat.le_refl _) (.int .i64 ((S1 : Int) + 1))).setCell (p := ⟨WQ.heap.size, 2, none⟩) (Nat.le_refl _) (.slice A8 L1 c8)
            have hout := OutB.fill HL9.out val ((S1 : Int) + 1) L1 A8 c8
            generalize (((w8.setCell ⟨WQ.heap.size, 0, none⟩ (.int .u32 (val : Int))).setCell ⟨WQ.heap.size, 1, none⟩ (.int .i64 ((S1 : Int) + 1))).setCell ⟨WQ.heap.size, 2, none⟩ (.slice A8 L1 c8)) = V at *
            clear HB8 HI7 HL9 p0 p1 p2 p3 p4 p5
            have x0 := RowAt.cell (RowAt.below HO3Q.out hV (RowAt.lt HO3Q.out)) 0 _ rfl
            have x1 := RowAt.cell (RowAt.below HO3Q.out hV (RowAt.lt HO3Q.out)) 1 _ rfl
            have y0 := RowAt.cell (RowAt.below HO6Q.out hV (RowAt.lt HO6Q.out)) 0 _ rfl
            have y1 := RowAt.cell (RowAt.below HO6Q.out hV (RowAt.lt HO6Q.out)) 1 _ rfl
            have z0 := RowAt.cell hout 0 _ rfl
            have z1 := RowAt.cell hout 1 _ rfl
            have HIV := Lib.hid ((HIQ.out.below hV).more hV.size)
            have HIxV := Lib.hid ((HIxQ.out.below hV).more hV.size)
            have HBV := Lib.hid (HBQ.out.trans (hV.mono HBQ.out.size))
            have hLM : ∀ W, Ins W W.heap.size A5 M c5 (gY k g) → Calls Try.prog 12 #[.slice A5 M c5] W fun e w' => e = .returned (.int .i64 ((L2 : Int) + 1)) ∧ Below W.heap.size W w' := fun W h => by
              have := longest_ok A5 M c5 (gY k g) W h HCY.out
              rw [HLY.out] at this
              exact this
            have HLM := Lib.hid hLM
            clear hV hout hLM
            go_wp2_with fail
            refine (HLM.out _ HIV.out).mono ?_
            rintro e w9 ⟨rfl, hB9⟩
            have HI9 := Lib.hid ((HIxV.out.below hB9).more hB9.size)
            have HB9 := Lib.hid (HBV.out.trans (hB9.mono HBV.out.size))
            clear hB9 x0 x1 y0 y1 z0 z1
            go_wp2_with fail
            refine (longest_ok _ m _ g _ HI9.out HCE.out).mono ?_
            rw [HLG.out]
            rintro e w10 ⟨rfl, hB10⟩
            have HB10 := Lib.hid (HB9.out.trans (hB10.mono HB9.out.size))
            clear hB10
            go_wp2_with (go_at_call 19; refine (topAwake_any _).mono ?_; rintro e w11 ⟨rfl, rfl⟩)
            go_ret
            exact ⟨rfl, HB10.out⟩
    · obtain ⟨y, hy⟩ : ∃ y, (checkF g m).2 = y := ⟨_, rfl⟩
      rw [hy] at hce
      have hyz : ((y : Int) != 0) = true := by simp; omega
      have HV := Lib.hid fun (W : World) (h : Ins W W.heap.size A2 m c2 g) => vrun_errL A2 m c2 g (some ⟨w0.heap.size, 0, none⟩) 64 64 W y h hy hce
      clear hy hce
      go_wp2_with fail
      refine (HV.out _ HI2.out).mono ?_
      rintro e w3 ⟨rfl, hB3⟩
      have HB3 := Lib.hid ((HB2.out.trans (hB3.mono HB2.out.size)).alloc (by have := HB2.out.size; have := hB3.size; omega) (.cells #[.int .u32 0, .int .i64 0, .slice none 0 0] 42))
      clear hB3
      go_wp2_with (go_at_call 19; refine (topAwake_any _).mono ?_; rintro e w9 ⟨rfl, rfl⟩)
      go_ret
      exact ⟨rfl, HB3.out⟩

namespace topJoinsRow
open Go.ChangeShapes Go.WideShapes Go.ChangeAt Go.RowKit Go.Joins
open Go.ChangeMaps (open_string shut_string)
set_option linter.unusedVariables false
theorem own : ownKnob Try.prog.godebug = none := by kernel_rfl
theorem laidOut : laidOutB Try.prog = true := by kernel_rfl
set_option maxRecDepth 100000 in
theorem lifted (os : Os) (started : os.Started) (H : Type) (enc : TypeId × Value → H) :
    ReturnsInHanded {} Try.checked os 6 .any (Rows.topJoinsSpec.pre6 enc Try.prog Try.f6 Rows.topJoinsRow.domain false) (Rows.topJoinsSpec.post enc Try.prog Try.f6 false true false false) := by
  refine returnsInHanded_of_change (C := Try.checked) own started (by kernel_rfl) Try.func6
    (ChangeSpec.witness6 (enc := enc) (C := Try.checked) false ⟨#[], #[.slice none 0 0, .int .u8 0, .agg #[.int .u8 0, .int .u8 0, .int .u8 0, .int .u8 0, .int .u8 0, .int .u8 0, .int .u8 0, .int .u8 0, .int .u8 0, .int .u8 0, .int .u8 0, .int .u8 0, .int .u8 0, .int .u8 0, .int .u8 0, .int .u8 0, .int .u8 0, .int .u8 0, .int .u8 0, .int .u8 0, .int .u8 0, .int .u8 0, .int .u8 0, .int .u8 0, .int .u8 0, .int .u8 0, .int .u8 0, .int .u8 0, .int .u8 0, .int .u8 0, .int .u8 0, .int .u8 0, .int .u8 0, .int .u8 0, .int .u8 0, .int .u8 0, .int .u8 0, .int .u8 0, .int .u8 0, .int .u8 0, .int .u8 0, .int .u8 0, .int .u8 0, .int .u8 0, .int .u8 0, .int .u8 0, .int .u8 0, .int .u8 0, .int .u8 0, .int .u8 0, .int .u8 0, .int .u8 0, .int .u8 0, .int .u8 0, .int .u8 0, .int .u8 0, .int .u8 0, .int .u8 0, .int .u8 0, .int .u8 0, .int .u8 0, .int .u8 0, .int .u8 0, .int .u8 0]], []⟩ 8 (by kernel_rfl) (by kernel_rfl) (by kernel_rfl) (by kernel_rfl)) ?_
  intro W base args ds gs before hval0 hW hcnd _
  have hval : ∀ (j : Nat) t v, Try.f6.params[j]? = some t → args[j]? = some v → Value.okWide Try.prog W .any base t v := hval0
  have hW' := hW
  obtain ⟨p, q, hA0, hV, rfl, hfz, hnd⟩ := hW
  have hA : DataW.TrodAll enc Try.prog W 0 (fun _ => true) true Try.f6.params.toList args.toList ds p := hA0
  rw [Try.params6] at hA hval
  obtain ⟨v0, vs0, d0, ds0, p0, q0, hargs, rfl, rfl, h0, r0⟩ := trodAll_cons hA
  obtain ⟨v1, vs1, d1, ds1, p1, q1, rfl, rfl, rfl, h1, r1⟩ := trodAll_cons r0
  obtain ⟨v2, vs2, d2, ds2, p2, q2, rfl, rfl, rfl, h2, r2⟩ := trodAll_cons r1
  obtain ⟨rfl, rfl, rfl⟩ := trodAll_nil r2
  obtain rfl : args = #[v0, v1, v2] := by cases args; simp_all
  obtain ⟨rfl, rfl⟩ := trodVars_none hV
  have k0 := h0
  have lt0 : ∀ x ∈ p0, x.block < W.heap.size := by obtain ⟨m, hm⟩ := k0; exact DataW.trod_lt m _ _ _ hm
  have k1 := h1
  have lt1 : ∀ x ∈ p1, x.block < W.heap.size := by obtain ⟨m, hm⟩ := k1; exact DataW.trod_lt m _ _ _ hm
  have k2 := h2
  have lt2 : ∀ x ∈ p2, x.block < W.heap.size := by obtain ⟨m, hm⟩ := k2; exact DataW.trod_lt m _ _ _ hm
  obtain ⟨a0, len0, cap0, rfl⟩ := okWide_slice Try.underlying33 (hval 0 33 v0 rfl rfl)
  obtain ⟨g0, w0⟩ := open_ins h0
  obtain ⟨a1, rfl, rfl, rfl, w1⟩ := open_int Try.underlying5 (hval 1 5 v1 rfl rfl) h1
  obtain ⟨f2, rfl, w2⟩ := open_arrB (hval 2 39 v2 rfl rfl) h2
  clear hA0 hval0
  refine (walk_TopJoins (w0 := W) a0 len0 cap0 g0 w0 a1 w1 f2 w2).mono fun e W' ⟨he, bel⟩ => ?_
  subst he
  exact ⟨_, rfl, _, _, _, [], _, [], hW', trodAll_mk1 (shut_bool Try.underlying4 _), (trodAll_cons_mk (Below.trod laidOut (by kernel_rfl) (of_decide_eq_true (by kernel_rfl)) k0 bel lt0) (trodAll_cons_mk (Below.trod laidOut (by kernel_rfl) (of_decide_eq_true (by kernel_rfl)) k1 bel lt1) (trodAll_cons_mk (Below.trod laidOut (by kernel_rfl) (of_decide_eq_true (by kernel_rfl)) k2 bel lt2) trodAll_mk0))), rfl, bel.frame _, fun h => by cases h⟩

theorem over : Rows.topJoinsRow.holds Try.pinned (OpenSpec.ofChange Rows.topJoinsSpec) :=
  OpenClaim.holds_of_wide 6 Try.f6 rfl rfl rfl rfl rfl rfl rfl ⟨rfl, rfl, rfl, rfl, rfl⟩ rfl rfl rfl rfl rfl (by kernel_rfl) Try.func6 (by kernel_rfl)
    (of_decide_eq_true (by kernel_rfl)) (by unfold Func.isWrapper; first | (rw [if_pos (by decide +kernel)]; kernel_rfl) | (rw [if_neg (by decide +kernel)]; exact ⟨rfl, rfl⟩))
    (fun os started H enc _ => lifted os started H enc)
end topJoinsRow

theorem topJoins_proved : Rows.TopJoinsSaid := topJoinsRow.over
#print axioms topJoins_proved
end Go.Proofs.Ytjblkkffdhaiiab
