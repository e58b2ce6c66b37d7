/-
  The law StackStrictest holds for every input: the strictest of any actions is the document's. No condition.
-/
import Derived.Test.YtnlnddmnbeilfaaSkd
import Derived.Test.YtnlnddmnbeilfaaRows
import Derived.Below
import Derived.ChangeOld
import Derived.ShutString
import Derived.OpenShut
import Derived.ProofKit
namespace Go.Proofs.Ytnlnddmnbeilfaa
open Go.RowKit Go.ChangeShapes Go.WideShapes Go.Deep
set_option linter.unusedVariables false

theorem step_cells2k {P : Program} {w : World} {ops : Array Oper} {o : Oper} {a : Act} {K : Act → World → Prop} {Q : Exit → Act → World → Prop} {R : Prop} (hgd : o.guard = none) (s x : Operand) (t E : TypeId)
    (ho : o.op = .call { callee := .builtin .append, args := #[s, x], argTypes := #[t, t] })
    (ht : P.underlying t = some (.slice E)) {zv : Value} {z by_ : Nat} (hinfo : (P.info? E).map (fun i => (i.zero, i.size, i.bytes)) = some (some zv, z, by_)) (hzs : zv.cells.size = z) (hz : 0 < z)
    {base n c m d : Nat} {A C : Option Addr} {F G : Nat → Value} (hs : a.eval s = .slice A n c) (hown : OwnC w base E z A n c F) (hx : a.eval x = .slice C m d) {B : Nat} (hr : Cel w B z C m d G) (h1c : ∀ i, i < m * z → (G i).oneCell' = true)
    (hn : n + m ≤ maxLen) (hby : (n + m) * by_ ≤ 140737488355328) (hbase : base ≤ w.heap.size) (N : Nat) (hN : n + m = N) (H : Nat → Value) (hH : ∀ i, i < N * z → catC (n * z) F G i = H i)
    (h : ∀ A' c' w', OwnC w' base E z A' N c' H → Below base w w' → K (a.put o.dst (.slice A' N c')) w') :
    if Region.wanted o (yielded ops a.tmps) = true then Oper.wp P o a w K Q else R := by
  subst hN
  have hw : Region.wanted o (yielded ops a.tmps) = true := by simp [Region.wanted, hgd]
  rw [if_pos hw]
  exact wp_cells w s x t E ho ht hinfo hzs hz hs hown hx hr h1c hn hby hbase fun A' c' w' h1 _ h3 => h A' c' w' (h1.congr hH) h3
theorem infoAct : (Try.prog.info? 26).map (fun i => (i.zero, i.size, i.bytes)) = some (some (.agg #[.int .i64 0, .int .i64 0]), 2, 16) := by kernel_rfl
theorem one_ac (w : World) (x : AC) (E : TypeId) : Cel (w.alloc (.cells #[.int .i64 x.k, .int .i64 x.n] E)) (w.heap.size + 1) 2 (some ⟨w.heap.size, 0, none⟩) 1 1 (acell fun _ => x) :=
  Cel.mk_ (Nat.lt_succ_self _) (Nat.le_refl _) (by decide) fun i hi => by
    have hi' : i < 2 := by omega
    rw [Nat.zero_add, cell_of_row _ _ _ _ _ _ (heap_alloc_last w _)]
    match i, hi' with
    | 0, _ | 1, _ => rfl
theorem acell_one (G : Nat → AC) (i : Nat) : (acell G i).oneCell' = true := by unfold acell; split <;> rfl
theorem acell_cat (G : Nat → AC) (k : Nat) (x : AC) (hx : G k = x) : ∀ i, i < (k + 1) * 2 → catC (k * 2) (acell G) (acell fun _ => x) i = acell G i := fun i hi => by
  unfold catC
  split
  · rfl
  · unfold acell
    rw [show i / 2 = k by omega, hx, show (i - k * 2) % 2 = i % 2 by omega]
def allOk (G : Nat → AC) (n : Nat) : Bool := (List.range n).all fun i => rgt9 (G i).k (G i).n
theorem allOk_succ (G : Nat → AC) (n : Nat) : allOk G (n + 1) = (allOk G n && rgt9 (G n).k (G n).n) := by unfold allOk; rw [List.range_succ, List.all_append]; simp
theorem allOk_bad (G : Nat → AC) (n : Nat) : anyBad G n = !allOk G n := by unfold allOk anyBad; rw [List.not_all_eq_any_not]
section
variable {H : Type} {enc : TypeId × Value → H}
set_option maxRecDepth 100000 in
theorem open_acs {w : World} {base : Nat} {spare : Nat → Bool} {held : Bool} {A : Option Addr} {n c : Nat} {d : DataW H} {p : List MemPlace} (h : DataW.Trod enc Try.prog w base spare held 22 (.slice A n c) d p) :
    ∃ g : Nat → AC, Cel w w.heap.size 2 A n c (acell g) := by
  obtain ⟨fuel, hf⟩ := h
  have hC : Try.prog.cellsOf 25 = 2 := by kernel_rfl
  rcases open_slice Try.underlying22 hf with ⟨hcs, _⟩ | ⟨a, len, cap, m, k, D, Pl, hcs, _, hl, hm, hmm, _, hi⟩
  · simp [Value.cells] at hcs
    obtain ⟨rfl, rfl, rfl⟩ := hcs
    exact ⟨fun _ => ⟨0, 0⟩, Cel.nil_⟩
  · simp [Value.cells] at hcs
    obtain ⟨rfl, rfl, rfl⟩ := hcs
    have hel : ∀ i, i < n → ∃ v : AC, a.block < w.heap.size ∧ ∀ j, j < 2 → w.cell? (a.add (i * 2 + j)) = some (acell (fun _ => v) j) := fun i hin => by
      obtain ⟨cs', hc, ht⟩ := hi i (by rw [hmm]; split <;> omega)
      rw [hC] at hc
      obtain ⟨_, hlen, hat⟩ := World.cells?_some hc
      obtain ⟨xs, q, _, _, _, hxl, hg⟩ := DataW.trod_struct Try.underlying25 ht
      have k3 : Try.prog.cellsOf 3 = 1 := by kernel_rfl
      match cs', hlen with
      | [c0, c1], _ =>
        have hx : ∀ j, j < 2 → ∃ y, xs[j]? = some y := fun j hj => ⟨xs[j]'(by rw [hxl]; exact hj), List.getElem?_eq_getElem _⟩
        obtain ⟨y0, z0⟩ := hx 0 (by decide)
        obtain ⟨y1, z1⟩ := hx 1 (by decide)
        have g0 : DataW.trod enc Try.prog w base spare held q 3 [c0] = some y0 := by
          have h : DataW.trod enc Try.prog w base spare held q 3 (([c0, c1].drop 0).take (Try.prog.cellsOf 3)) = xs[0]? := hg 0 _ rfl
          rw [k3, z0] at h
          exact h
        have g1 : DataW.trod enc Try.prog w base spare held q 3 [c1] = some y1 := by
          have h : DataW.trod enc Try.prog w base spare held q 3 (([c0, c1].drop 1).take (Try.prog.cellsOf 3)) = xs[1]? := hg 1 _ rfl
          rw [k3, z1] at h
          exact h
        obtain ⟨n0, e0, _, w0⟩ := DataW.trod_int Try.underlying3 g0
        obtain ⟨n1, e1, _, w1⟩ := DataW.trod_int Try.underlying3 g1
        simp only [List.cons.injEq, and_true] at e0 e1
        subst e0 e1
        have f0 := hat 0 (by decide)
        have f1 := hat 1 (by decide)
        simp only [List.getElem?_cons_zero, List.getElem?_cons_succ] at f0 f1
        have hblk := World.block_lt_of_cell? w _ f0
        have eb : ((a.add (i * 2)).add 0).block = a.block := by unfold Addr.add; split <;> split <;> rfl
        rw [eb] at hblk
        rw [add_add] at f0 f1
        refine ⟨⟨n0, n1⟩, hblk, fun j hj => ?_⟩
        match j, hj with
        | 0, _ => rw [f0]; rfl
        | 1, _ => rw [f1]; rfl
    have hex : ∃ g : Nat → AC, ∀ i, i < n → a.block < w.heap.size ∧ ∀ j, j < 2 → w.cell? (a.add (i * 2 + j)) = some (acell (fun _ => g i) j) :=
      ⟨fun i => if h : i < n then Classical.choose (hel i h) else ⟨0, 0⟩, fun i hi' => by
        have := Classical.choose_spec (hel i hi')
        simpa [hi'] using this⟩
    obtain ⟨g, hg⟩ := hex
    refine ⟨g, .inr ⟨a, rfl, hl, hm, fun j hj => ?_⟩⟩
    have h1 : j / 2 < n := by omega
    obtain ⟨hb, hcell⟩ := hg (j / 2) h1
    have h2 := hcell (j % 2) (Nat.mod_lt _ (by decide))
    rw [show j / 2 * 2 + j % 2 = j from by omega] at h2
    refine ⟨hb, h2.trans ?_⟩
    unfold acell
    simp only [Nat.mod_mod]
end
set_option maxRecDepth 100000 in
set_option maxHeartbeats 8000000 in
theorem walk_StackStrictest {w0 : World} (A : Option Addr) (n c : Nat) (G : Nat → AC) (hC : Cel w0 w0.heap.size 2 A n c (acell G)) :
    Calls Try.prog 3 #[.slice A n c] w0 fun e w' => e = .returned (.bool true) ∧ Below w0.heap.size w0 w' := by
  have HC := Lib.hid hC
  clear hC
  by_cases h50 : 50 < n
  · have i1 : (n : Int) > 50 := by omega
    go_enter Try.func3, Try.ntmps3
    go_wp2
    go_ret
    exact ⟨rfl, Below.refl _ _⟩
  have i1 : ¬ (n : Int) > 50 := by omega
  go_enter Try.func3, Try.ntmps3
  go_wp2
  go_loopw [3, 4, 5] (fun s b i wr => ∃ (k : Nat) (A' : Option Addr) (c' : Nat), k ≤ n ∧ i = .int .i64 k ∧ s = .slice A' k c' ∧ b = .bool (allOk G k) ∧ OwnC wr w0.heap.size 26 2 A' k c' (acell G) ∧ Below w0.heap.size w0 wr)
    (fun _ _ i _ => n - (intOf i).toNat)
  case atStart => exact ⟨0, none, 0, Nat.zero_le _, rfl, rfl, rfl, OwnC.nil_, Below.refl _ _⟩
  case round =>
    obtain ⟨k, A', c', hk, rfl, rfl, rfl, hown, hB⟩ := hrel
    by_cases hlt : k < n
    · obtain ⟨x, hx⟩ : ∃ x, G k = x := ⟨_, rfl⟩
      obtain ⟨b, off, rfl, hb, q0, q1⟩ := ac_at (HC.out.below hB) hlt hx
      have HW := Lib.hid (acell_cat G k x hx)
      have HAS := Lib.hid (allOk_succ G k)
      have HX := Lib.hid hx
      have i1 : (0 : Int) ≤ (k : Int) := by omega
      have i2 : (k : Int) < (n : Int) := by omega
      clear hx
      generalize allOk G k = ok at *
      go_wp2
      go_region_held3 (fun w' => w'.cell? ⟨b, off + k * 2, none⟩ = some (.int .i64 x.k) ∧ w'.cell? ⟨b, off + k * 2 + 1, none⟩ = some (.int .i64 x.n))
        (first
          | go_keep
          | exact ⟨(hK.cell (p := ⟨b, off + k * 2, none⟩) hb).trans q0, (hK.cell (p := ⟨b, off + k * 2 + 1, none⟩) hb).trans q1⟩)
        (first | (refine step_cells2k (by rfl) _ _ _ 26 (by rfl) Try.underlying23 infoAct (by rfl) (by decide) (by rfl) (hown.alloc _).drew (by rfl) (one_ac wr x 26) (fun i _ => acell_one _ i) (by unfold maxLen; omega) (by omega) (by have := hB.size; simp; omega) (k + 1) rfl (acell G) HW.out ?_; rintro A2 c2 w2 hown2 hB2; have hK : Below w0.heap.size wr w2 := ((Below.refl _ _).alloc hB.size _).drew.trans hB2))
      have hb2 := hB.trans hK
      have HB2 := Lib.hid hb2
      have HO2 := Lib.hid hown2
      have p0 := (hK.cell (p := ⟨b, off + k * 2, none⟩) hb).trans q0
      have p1 := (hK.cell (p := ⟨b, off + k * 2 + 1, none⟩) hb).trans q1
      have HR := Lib.hid (right9_all x.k x.n w2)
      have HAX : Hid (allOk G (k + 1) = (ok && rgt9 x.k x.n)) := Lib.hid (by rw [← HX.out]; exact HAS.out)
      clear hK hB q0 q1 hown hb2 hown2 HAS HX
      generalize rgt9 x.k x.n = q at *
      cases ok
      · go_wp2
        exact ⟨⟨k + 1, A2, c2, by omega, by go_num, rfl, by rw [HAX.out]; rfl, HO2.out, HB2.out⟩, by simp [intOf]; omega⟩
      · go_wp2_with (go_at_call 6; refine HR.out.mono ?_; rintro e w3 ⟨rfl, hB3⟩)
        exact ⟨⟨k + 1, A2, c2, by omega, by go_num, rfl, by rw [HAX.out]; simp, HO2.out.below hB3 (Nat.le_refl _), HB2.out.trans (hB3.mono HB2.out.size)⟩, by simp [intOf]; omega⟩
    · obtain rfl : k = n := by omega
      have i2 : ¬ (k : Int) < (k : Int) := by omega
      have HAW := Lib.hid (awake25_any)
      by_cases h0 : k = 0
      · subst h0
        have HS := Lib.hid (str_empty A' c' wr)
        have HB := Lib.hid hB
        clear hB hown
        go_wp2_with (first
          | (go_at_call 7
             refine HS.out.mono ?_
             rintro e w1 ⟨rfl, hB1⟩
             have r1 : RowC (w1.alloc (.cells ac0 26)) w1.heap.size ac0 26 := RowC.new _ _ _ _ rfl
             have hb1 := HB.out.trans (hB1.mono HB.out.size)
             have HB1 := Lib.hid (hb1.alloc hb1.size (.cells ac0 26))
             have d0 := r1.cell 0 _ rfl
             have d1 := r1.cell 1 _ rfl
             clear r1 hb1 hB1)
          | (go_at_call 8
             refine (HAW.out _).mono ?_
             rintro e w5 ⟨rfl, hB5⟩
             have HB5 := Lib.hid (HB1.out.trans (hB5.mono HB1.out.size))
             clear hB5))
        go_ret
        exact ⟨rfl, HB5.out⟩
      have i3 : ¬ (k : Int) = 0 := by omega
      cases hok : allOk G k
      · have hbad : anyBad G k = true := by rw [allOk_bad, hok]; rfl
        have HS := Lib.hid (str_bad A' k c' G wr (by omega) (by omega) hown.cel hbad)
        have HB := Lib.hid hB
        clear hB hown
        go_wp2_with (first
          | (go_at_call 7
             refine HS.out.mono ?_
             rintro e w1 ⟨rfl, hB1⟩
             have r1 : RowC (w1.alloc (.cells ac0 26)) w1.heap.size ac0 26 := RowC.new _ _ _ _ rfl
             have hb1 := HB.out.trans (hB1.mono HB.out.size)
             have HB1 := Lib.hid (hb1.alloc hb1.size (.cells ac0 26))
             have d0 := r1.cell 0 _ rfl
             have d1 := r1.cell 1 _ rfl
             clear r1 hb1 hB1)
          | (go_at_call 8
             refine (HAW.out _).mono ?_
             rintro e w5 ⟨rfl, hB5⟩
             have HB5 := Lib.hid (HB1.out.trans (hB5.mono HB1.out.size))
             clear hB5))
        go_ret
        exact ⟨rfl, HB5.out⟩
      · have hbad : anyBad G k = false := by rw [allOk_bad, hok]; rfl
        have HS := Lib.hid (str_good A' k c' G wr (by omega) (by omega) hown.cel hbad)
        have HC2 := Lib.hid ((HC.out.below hB).more hB.size)
        have HRF : Hid (∀ W, Below wr.heap.size wr W → Calls Try.prog 9 #[.slice A k c] W fun e w' => (∃ p, StrP G k p ∧ e = .returned (.agg #[.int .i64 (G p).k, .int .i64 (G p).n])) ∧ Below W.heap.size W w') := Lib.hid fun W hW => ref_str A k c G W (by omega) (by omega) ((HC2.out.below hW).more hW.size)
        have HB := Lib.hid hB
        clear hB hown
        go_wp2_with (first
          | (go_at_call 7
             refine HS.out.mono ?_
             rintro e w1 ⟨⟨p, hp, rfl⟩, hB1⟩
             have HP := Lib.hid hp
             obtain ⟨y, hy⟩ : ∃ y, G p = y := ⟨_, rfl⟩
             have HY := Lib.hid hy
             rw [hy]
             have r1 : RowC (w1.alloc (.cells #[.int .i64 y.k, .int .i64 y.n] 26)) w1.heap.size #[.int .i64 y.k, .int .i64 y.n] 26 := RowC.new _ _ _ _ rfl
             have HW1 := Lib.hid (hB1.alloc hB1.size (.cells #[.int .i64 y.k, .int .i64 y.n] 26))
             have R1 := Lib.hid r1
             clear r1 hB1 hp hy)
          | (go_at_call 9
             refine (HRF.out _ HW1.out).mono ?_
             rintro e w2 ⟨⟨p2, hp2, rfl⟩, hB2⟩
             have e2 : G p2 = y := by rw [strP_uniq hp2 HP.out]; exact HY.out
             rw [e2]
             have r1 := (R1.out.below hB2 R1.out.lt).alloc (.cells #[.int .i64 y.k, .int .i64 y.n] 25)
             have r2 : RowC (w2.alloc (.cells #[.int .i64 y.k, .int .i64 y.n] 25)) w2.heap.size #[.int .i64 y.k, .int .i64 y.n] 25 := RowC.new _ _ _ _ rfl
             have hw2 := HW1.out.trans (hB2.mono HW1.out.size)
             have HB2 := Lib.hid (HB.out.trans ((hw2.alloc hw2.size (.cells #[.int .i64 y.k, .int .i64 y.n] 25)).mono HB.out.size))
             have d0 := r1.cell 0 _ rfl
             have d1 := r1.cell 1 _ rfl
             have e0 := r2.cell 0 _ rfl
             have e1 := r2.cell 1 _ rfl
             clear r1 r2 hw2 hB2 hp2 e2)
          | (go_at_call 8
             refine (HAW.out _).mono ?_
             rintro e w5 ⟨rfl, hB5⟩
             have HB5 := Lib.hid (HB2.out.trans (hB5.mono HB2.out.size))
             clear hB5))
        go_ret
        exact ⟨rfl, HB5.out⟩

namespace stackStrictestRow
open Go.ChangeShapes Go.WideShapes Go.ChangeAt Go.RowKit Go.Joins
open Go.ChangeMaps (open_string shut_string)
set_option linter.unusedVariables false
theorem own : ownKnob Try.prog.godebug = none := by kernel_rfl
theorem laidOut : laidOutB Try.prog = true := by kernel_rfl
set_option maxRecDepth 100000 in
theorem lifted (os : Os) (started : os.Started) (H : Type) (enc : TypeId × Value → H) :
    ReturnsInHanded {} Try.checked os 3 .any (Rows.stackStrictestSpec.pre6 enc Try.prog Try.f3 Rows.stackStrictestRow.domain false) (Rows.stackStrictestSpec.post enc Try.prog Try.f3 false true false false) := by
  refine returnsInHanded_of_change (C := Try.checked) own started (by kernel_rfl) Try.func3
    (ChangeSpec.witness6 (enc := enc) (C := Try.checked) false ⟨#[], #[.slice none 0 0], []⟩ 8 (by kernel_rfl) (by kernel_rfl) (by kernel_rfl) (by kernel_rfl)) ?_
  intro W base args ds gs before hval0 hW hcnd _
  have hval : ∀ (j : Nat) t v, Try.f3.params[j]? = some t → args[j]? = some v → Value.okWide Try.prog W .any base t v := hval0
  have hW' := hW
  obtain ⟨p, q, hA0, hV, rfl, hfz, hnd⟩ := hW
  have hA : DataW.TrodAll enc Try.prog W 0 (fun _ => true) true Try.f3.params.toList args.toList ds p := hA0
  rw [Try.params3] at hA hval
  obtain ⟨v0, vs0, d0, ds0, p0, q0, hargs, rfl, rfl, h0, r0⟩ := trodAll_cons hA
  obtain ⟨rfl, rfl, rfl⟩ := trodAll_nil r0
  obtain rfl : args = #[v0] := by cases args; simp_all
  obtain ⟨rfl, rfl⟩ := trodVars_none hV
  have k0 := h0
  have lt0 : ∀ x ∈ p0, x.block < W.heap.size := by obtain ⟨m, hm⟩ := k0; exact DataW.trod_lt m _ _ _ hm
  obtain ⟨a0, len0, cap0, rfl⟩ := okWide_slice Try.underlying22 (hval 0 22 v0 rfl rfl)
  obtain ⟨g0, w0⟩ := open_acs h0
  clear hA0 hval0
  refine (walk_StackStrictest (w0 := W) a0 len0 cap0 g0 w0).mono fun e W' ⟨he, bel⟩ => ?_
  subst he
  exact ⟨_, rfl, _, _, _, [], _, [], hW', trodAll_mk1 (shut_bool Try.underlying4 _), (trodAll_cons_mk (Below.trod laidOut (by kernel_rfl) (of_decide_eq_true (by kernel_rfl)) k0 bel lt0) trodAll_mk0), rfl, bel.frame _, fun h => by cases h⟩

theorem over_inPlace : (Rows.stackStrictestRow.inPlace == Try.prog.inPlace 3) = true := by kernel_rfl
theorem over_unfollowed : (Rows.stackStrictestRow.unfollowed == Try.prog.unfollowed 3) = true := by kernel_rfl
theorem over_recurses : (Rows.stackStrictestRow.recurses == Try.prog.recurses 3) = true := by kernel_rfl
theorem over_named : (Rows.stackStrictestRow.named == Try.prog.varsNamed 3) = true := by kernel_rfl
theorem over_closed : joinedFacts Try.prog 3 Try.f3 Rows.stackStrictestSpec Rows.stackStrictestRow = true := by
  unfold joinedFacts
  rw [over_inPlace, over_unfollowed, over_recurses, over_named, laidOut]
  kernel_rfl
theorem over_found : Try.prog.funcNamed Rows.stackStrictestRow.func = some 3 := by kernel_rfl
theorem over : Rows.stackStrictestRow.holds Try.pinned (OpenSpec.ofChange Rows.stackStrictestSpec) :=
  OpenClaim.holds_of_wide 3 Try.f3 rfl rfl rfl rfl rfl rfl rfl ⟨rfl, rfl, rfl, rfl, rfl⟩ rfl rfl rfl rfl rfl over_found Try.func3 over_closed
    (of_decide_eq_true (by kernel_rfl)) (by unfold Func.isWrapper; first | (rw [if_pos (by decide +kernel)]; kernel_rfl) | (rw [if_neg (by decide +kernel)]; exact ⟨rfl, rfl⟩))
    (fun os started H enc _ => lifted os started H enc)
end stackStrictestRow

theorem stackStrictest_proved : Rows.StackStrictestSaid := stackStrictestRow.over
#print axioms stackStrictest_proved
end Go.Proofs.Ytnlnddmnbeilfaa
