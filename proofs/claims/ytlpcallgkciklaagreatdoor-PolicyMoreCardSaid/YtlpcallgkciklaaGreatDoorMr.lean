/-
  Layer 16: the laws' own of: a document's policy as the program's.
-/
import Derived.Test.YtlpcallgkciklaaGreatDoorRdk
import Derived.Deep.RegionHeld3
import Derived.Test.YtlpcallgkciklaaGreatDoorRek
import Derived.Maps.OwnSet
import Derived.Maps.OwnOps
import Derived.StringKeys
import Derived.Maps.AppendAt
import Derived.Deep.Cut
import Derived.Deep.CutRange
namespace Go.Proofs.YtlpcallgkciklaaGreatDoor
open Go.RowKit Go.Shelf
set_option linter.unusedVariables false

theorem RowL.alloc {w : World} {base : Nat} {A : Option Addr} {l : List RL} {c : Nat} (h : RowL w base A l c) (o : Obj) : RowL (w.alloc o) base A l c := h.below ((Below.refl w.heap.size w).alloc (Nat.le_refl _) o) (Nat.le_refl _)
theorem RowL.drew {w : World} {base : Nat} {A : Option Addr} {l : List RL} {c : Nat} (h : RowL w base A l c) : RowL w.drew base A l c := h.below (B := w.heap.size) (Below.refl _ w).drew (Nat.le_refl _)
/-- A rule appended, as a step of a region that draws its order. -/
theorem step_rule {w : World} {ops : Array Oper} {o : Oper} {a : Act} {K : Act → World → Prop} {Q : Exit → Act → World → Prop} {R : Prop} (hgd : o.guard = none) (s x : Operand)
    (ho : o.op = .call { callee := .builtin .append, args := #[s, x], argTypes := #[29, 29] })
    {base c d g1 : Nat} {A : Option Addr} {l : List RL} (hs : a.eval s = .slice A l.length c) (hown : RowL w base A l c) {r : RL} (hx : a.eval x = .slice (some ⟨g1, 0, none⟩) 1 d) (hg1 : RowC w g1 (rrow r).toArray 58) (hr : RuT w r)
    (hn : l.length ≤ 100000) (hbase : base ≤ w.heap.size)
    (h : ∀ g c' w', RowL w' base (some ⟨g, 0, none⟩) (l ++ [r]) c' → w.grownBy w' (Value.slice A l.length c).ownBlock → ((Value.slice A l.length c).ownBlock = some g ∨ g = w.heap.size) → KeepC w w' → Below base w w' → K (a.put o.dst (.slice (some ⟨g, 0, none⟩) (l.length + 1) c')) w') :
    if Region.wanted o (yielded ops a.tmps) = true then Oper.wp Tryz.prog o a w K Q else R := by
  obtain ⟨i, hi, hz, hsz, hby⟩ := info_parts infoRu2
  refine step_append_lies w hgd s x 29 ho base 58 i _ 4 56 Tryz.underlying29 hi hz hsz hby (by rfl) (by decide) _ l.length _ hs hown.1 ⟨g1, 0, none⟩ 1 d (rrow r) hx (by rfl) (World.news_of_block hg1) (rrow_one r) (by decide) (by unfold maxLen; omega) (by omega) hbase _ rfl ?_
  intro g cap w' h1 h2 h3 h4
  have hk : KeepC w w' := KeepC.grown h2 fun b hb => ⟨_, hown.ty b hb, by decide⟩
  have hB : Below base w w' := (Below.refl _ _).grown h2 hbase (fun k hk => (hown.1.lt k hk).1)
  refine h g cap w' ⟨?_, fun q hq => ?_⟩ h2 h3 hk hB
  · rw [flat_snoc] at h1
    simpa using h1
  · rcases List.mem_append.1 hq with hq | hq
    · exact (hown.2 q hq).keep hk
    · rw [List.mem_singleton] at hq
      subst hq
      exact hr.keep hk
abbrev zPol : Array Value := polA 0 0 false none 0 0
theorem infoPol : (Tryz.prog.info? 31).map (·.size) = some 4 := by kernel_rfl
end Go.Proofs.YtlpcallgkciklaaGreatDoor

/-
  Layer 16: slices.Equal at conditions; norm.unhidden.
-/
namespace Go.Proofs.YtlpcallgkciklaaGreatDoor
open Go.RowKit Go.Shelf
set_option linter.unusedVariables false

theorem cd_cases (x y : CD) : x = y ∨ (x.a == y.a) = false ∨ (x.a = y.a ∧ (x.o == y.o) = false) ∨ (x.a = y.a ∧ x.o = y.o ∧ (((x.m : Nat) : Int) == ((y.m : Nat) : Int)) = false) ∨ (x.a = y.a ∧ x.o = y.o ∧ x.m = y.m ∧ (((x.v : Nat) : Int) == ((y.v : Nat) : Int)) = false) := by
  obtain ⟨a, o, m, v⟩ := x
  obtain ⟨a', o', m', v'⟩ := y
  simp only [beq_eq_false_iff_ne, ne_eq, Int.ofNat_inj, CD.mk.injEq]
  by_cases h1 : a = a'
  · by_cases h2 : o = o'
    · by_cases h3 : m = m'
      · by_cases h4 : v = v'
        · left; exact ⟨h1, h2, h3, h4⟩
        · exact .inr (.inr (.inr (.inr ⟨h1, h2, h3, h4⟩)))
      · exact .inr (.inr (.inr (.inl ⟨h1, h2, h3⟩)))
    · exact .inr (.inr (.inl ⟨h1, h2⟩))
  · exact .inr (.inl h1)
theorem ConA.four {w : World} {A : Option Addr} {n : Nat} {C : Nat → CD} (h : ConA w A n C) {i : Nat} (hi : i < n) {x : CD} (hx : C i = x) : ∃ b o, A = some ⟨b, o, none⟩ ∧
    w.cell? ⟨b, o + i * 4, none⟩ = some (.int .i64 x.a) ∧ w.cell? ⟨b, o + i * 4 + 1, none⟩ = some (.int .i64 x.o) ∧ w.cell? ⟨b, o + i * 4 + 2, none⟩ = some (.int .u64 x.m) ∧ w.cell? ⟨b, o + i * 4 + 3, none⟩ = some (.int .u64 x.v) := by
  subst hx
  rcases h with h0 | ⟨b, o, rfl, _, hc⟩
  · omega
  · obtain ⟨h0, h1, h2, h3, _⟩ := hc i hi
    rw [Nat.add_zero] at h0
    exact ⟨b, o, rfl, h0, h1, h2, h3⟩
theorem range_ne {C C' : Nat → CD} {n q : Nat} (hq : q < n) (h : C q ≠ C' q) : (List.range n).map C ≠ (List.range n).map C' := fun e => h (by
  have := congrArg (fun l : List CD => l[q]?) e
  simpa [hq] using this)
set_option maxRecDepth 100000 in
set_option maxHeartbeats 8000000 in
theorem eqConds_any (A A' : Option Addr) (n c m c' : Nat) (C C' : Nat → CD) (w : World) (hn : n ≤ 100000) (hA : ConA w A n C) (hA' : ConA w A' m C') :
    Calls Tryz.prog 39 #[.slice A n c, .slice A' m c'] w fun e w' => e = .returned (.bool (decide ((List.range n).map C = (List.range m).map C'))) ∧ Below w.heap.size w w' := by
  by_cases hnm : n = m
  · subst hnm
    have HA := Lib.hid hA
    have HA' := Lib.hid hA'
    clear hA hA'
    go_enter Tryz.func39, Tryz.ntmps39
    go_wp2
    go_loopw [13] (fun i wr => ∃ q : Nat, q ≤ n ∧ i = .int .i64 q ∧ Hid (Below w.heap.size w wr ∧ ∀ j, j < q → C j = C' j)) (fun i _ => n - (intOf i).toNat)
    case atStart => exact ⟨0, Nat.zero_le _, rfl, Lib.hid ⟨Below.refl _ _, fun j hj => absurd hj (Nat.not_lt_zero _)⟩⟩
    case round =>
      obtain ⟨q, hq, rfl, HI⟩ := hrel
      by_cases hlt : q < n
      · obtain ⟨x, hx⟩ : ∃ x, C q = x := ⟨_, rfl⟩
        obtain ⟨y, hy⟩ : ∃ y, C' q = y := ⟨_, rfl⟩
        obtain ⟨b, o, rfl, c0, c1, c2, c3⟩ := (HA.out.below HI.out.1 (Nat.le_refl _)).four hlt hx
        obtain ⟨b', o', rfl, d0, d1, d2, d3⟩ := (HA'.out.below HI.out.1 (Nat.le_refl _)).four hlt hy
        have HXY := Lib.hid (And.intro hx hy)
        clear hx hy
        have i1 : (0 : Int) ≤ (q : Int) := by omega
        have i2 : (q : Int) < (n : Int) := by omega
        by_cases he : x = y
        · subst he
          obtain ⟨a1, o1, m1, v1⟩ := x
          simp only at c0 c1 c2 c3 d0 d1 d2 d3
          go_wp2_with fail
          go_quiet (fail)
          go_wp2
          exact ⟨⟨q + 1, by omega, by go_num, Lib.hid ⟨bdn HI.out.1 nq, fun j hj => by
            by_cases e : j = q
            · subst e; rw [HXY.out.1, HXY.out.2]
            · exact HI.out.2 j (by omega)⟩⟩, by simp [intOf]; omega⟩
        · have hcs := cd_cases x y
          have HNE := Lib.hid he
          rcases hcs with h | h | ⟨h', h⟩ | ⟨h', h'', h⟩ | ⟨h', h'', h''', h⟩
          · exact absurd h he
          all_goals
            obtain ⟨a1, o1, m1, v1⟩ := x
            obtain ⟨a2, o2, m2, v2⟩ := y
            simp only at c0 c1 c2 c3 d0 d1 d2 d3
            simp only at h
            (try simp only at h')
            (try simp only at h'')
            (try simp only at h''')
            (try subst h')
            (try subst h'')
            (try subst h''')
            clear he
            go_wp2_with fail
            go_quiet (fail)
            go_wp2
            go_ret
            refine ⟨?_, bdn HI.out.1 nq⟩
            rw [decide_eq_false (range_ne hlt (by rw [HXY.out.1, HXY.out.2]; exact HNE.out))]
            rfl
      · obtain rfl : q = n := by omega
        go_wp2
        go_ret
        refine ⟨?_, HI.out.1⟩
        rw [decide_eq_true (List.map_congr_left fun j hj => HI.out.2 j (List.mem_range.1 hj))]
        rfl
  · have hne : ¬ (n : Int) = (m : Int) := by omega
    have hd : ¬ (List.range n).map C = (List.range m).map C' := fun e => hnm (by simpa using congrArg List.length e)
    have HD := Lib.hid hd
    clear hd hA hA'
    go_enter Tryz.func39, Tryz.ntmps39
    go_wp2
    go_ret
    refine ⟨?_, Below.refl _ _⟩
    rw [decide_eq_false HD.out]
    rfl
theorem hides_val (r e : RL) : hides r.val e.val = (decide (e.n = 0) || decide ((List.range e.n).map e.C = (List.range r.n).map r.C)) := by
  unfold hides RL.val
  simp only
  congr 1
  by_cases h : e.n = 0
  · simp [h]
  · simp [h]
end Go.Proofs.YtlpcallgkciklaaGreatDoor

/-
  Layer 14: the laws' own light and of.
-/
namespace Go.Proofs.YtlpcallgkciklaaGreatDoor
open Go.RowKit Go.Shelf
set_option linter.unusedVariables false

set_option maxRecDepth 100000 in
set_option maxHeartbeats 4000000 in
theorem light14_any (k u : Int) (x : Bool) (A : Option Addr) (n c : Nat) (R : Nat → RL) (w : World) (hc : n ≤ c) (hm : c ≤ maxLen) (hR : RlA w A n R) :
    Calls Tryz.prog 10 #[.agg (polA k u x A n c)] w fun e w' => (∃ b, e = .returned (.bool b) ∧ (b = true → LightP n R)) ∧ Below w.heap.size w w' := by
  obtain ⟨W0, hW0⟩ : ∃ W, w.alloc (.cells (polA k u x A n c) 26) = W := ⟨_, rfl⟩
  have HB := Lib.hid (show Below w.heap.size w W0 by rw [← hW0]; exact (Below.refl _ _).alloc (Nat.le_refl _) _)
  have HP := Lib.hid (show RowC W0 w.heap.size (polA k u x A n c) 26 by rw [← hW0]; exact RowC.new _ _ _ _ rfl)
  have HR := Lib.hid (hR.below HB.out (Nat.le_refl _))
  have HW := Lib.hid hW0
  have x3 := HP.out.cell 3 (.slice A n c) rfl
  clear hW0 hR
  by_cases h40 : n ≤ 40
  · have q0 : decide ((n : Int) > 40) = false := decide_eq_false (by omega)
    go_enter Tryz.func10, Tryz.ntmps10
    go_upto_region 1 with fail
    rw [HW.out]
    go_wp2
    go_loopw [3] (fun i wr => ∃ q : Nat, q ≤ n ∧ i = .int .i64 q ∧ wr = W0 ∧ Hid (∀ j, j < q → (R j).nm.size ≤ 60 ∧ (R j).n ≤ 12)) (fun i _ => n - (intOf i).toNat)
    case atStart => exact ⟨0, Nat.zero_le _, rfl, rfl, Lib.hid fun j hj => absurd hj (Nat.not_lt_zero _)⟩
    case round =>
      obtain ⟨q, hq, rfl, rfl, hok⟩ := hrel
      by_cases hlt : q < n
      · rcases HR.out with h0 | ⟨b, o, rfl, hb, hcs⟩
        · omega
        · obtain ⟨c0, _, _, c3, _⟩ := hcs q hlt
          have i1 : (0 : Int) ≤ (q : Int) := by omega
          have i2 : (q : Int) < (n : Int) := by omega
          rw [Nat.add_zero] at c0
          clear hcs
          by_cases h60 : (R q).nm.size ≤ 60
          · have q1 : decide (((R q).nm.size : Int) > 60) = false := decide_eq_false (by omega)
            by_cases h12 : (R q).n ≤ 12
            · have q2 : decide (((R q).n : Int) > 12) = false := decide_eq_false (by omega)
              go_wp2
              exact ⟨⟨q + 1, by omega, by go_num, trivial, Lib.hid fun j hj => by
                by_cases e : j = q
                · subst e; exact ⟨h60, h12⟩
                · exact hok.out j (by omega)⟩, by simp [intOf]; omega⟩
            · have q2 : decide (((R q).n : Int) > 12) = true := decide_eq_true (by omega)
              go_wp2
              go_ret
              exact ⟨⟨false, rfl, fun h => by cases h⟩, HB.out⟩
          · have q1 : decide (((R q).nm.size : Int) > 60) = true := decide_eq_true (by omega)
            go_wp2
            go_ret
            exact ⟨⟨false, rfl, fun h => by cases h⟩, HB.out⟩
      · obtain rfl : q = n := by omega
        go_wp2
        go_ret
        exact ⟨⟨true, rfl, fun _ => ⟨h40, hok.out⟩⟩, HB.out⟩
  · have q0 : decide ((n : Int) > 40) = true := decide_eq_true (by omega)
    go_enter Tryz.func10, Tryz.ntmps10
    go_upto_region 1 with fail
    rw [HW.out]
    go_wp2
    go_ret
    exact ⟨⟨false, rfl, fun h => by cases h⟩, HB.out⟩

theorem ownC_setX {W : World} {base z n c b : Nat} {E T : TypeId} {A : Option Addr} {F : Nat → Value} {D : Array Value} (h : OwnC W base E z A n c F) (hb : RowC W b D T) (hne : T ≠ E) (i : Nat) (v : Value) : OwnC (W.setCell ⟨b, i, none⟩ v) base E z A n c F := by
  obtain ⟨h1, h2⟩ := h
  refine ⟨h1, ?_⟩
  rcases h2 with h2 | ⟨gg, cap, cur, hv, hgb, hh, r⟩
  · exact .inl h2
  · refine .inr ⟨gg, cap, cur, hv, hgb, (Below.heap_setCell _ _ _ _ ?_).trans hh, r⟩
    intro e
    subst e
    rw [show W.heap[gg]? = _ from hb] at hh
    injection hh with hh
    injection hh with _ h3
    exact hne h3
theorem bD1 {w w' : World} {b : Nat} (h : Below b w w') (o : Obj) (hb : b ≤ w.heap.size) : Below b w (w'.alloc o) := h.alloc (Nat.le_trans hb h.size) o
set_option maxRecDepth 100000 in
set_option maxHeartbeats 8000000 in
theorem of14_any (k u : Int) (x : Bool) (A : Option Addr) (n c : Nat) (R : Nat → RL) (w : World) (hn : n ≤ 100) (hl : ∀ i, i < n → (R i).n ≤ 12) (hR : RlA w A n R) :
    Calls Tryz.prog 11 #[.agg (polA k u x A n c)] w fun e w' => ∃ A' c' l, e = .returned (.agg (polA k u x A' n c')) ∧ l.length = n ∧ RowL w' w.heap.size A' l c' ∧ l.map RL.val = (List.range n).map (fun i => (R i).val) ∧ Below w.heap.size w w' := by
  obtain ⟨B, hBs⟩ : ∃ B, w.heap.size = B := ⟨_, rfl⟩
  obtain ⟨W0, hW0⟩ : ∃ W, (w.alloc (.cells (polA k u x A n c) 26)).alloc (.cells zPol 31) = W := ⟨_, rfl⟩
  obtain ⟨W1, hW1⟩ : ∃ W, W0.alloc (.cells (polA k u x none 0 0) 31) = W := ⟨_, rfl⟩
  have hs0 : W0.heap.size = B + 2 := by rw [← hW0, ← hBs]; simp
  have hs1 : W1.heap.size = B + 3 := by rw [← hW1]; simp; omega
  have HB := Lib.hid (show Below B w W1 by rw [← hW1, ← hW0, ← hBs]; exact (((Below.refl _ _).alloc (Nat.le_refl _) _).alloc (by simp) _).alloc (by simp; omega) _)
  have HP := Lib.hid (show RowC W1 B (polA k u x A n c) 26 by rw [← hW1, ← hW0, ← hBs]; exact ((RowC.new _ _ _ _ rfl).alloc _).alloc _)
  have HP0 := Lib.hid (show RowC W0 B (polA k u x A n c) 26 by rw [← hW0, ← hBs]; exact (RowC.new _ _ _ _ rfl).alloc _)
  have HZ := Lib.hid (show RowC W1 (B + 1) zPol 31 by rw [← hW1, ← hW0, ← hBs]; exact (RowC.new _ _ _ _ (by simp)).alloc _)
  have HX := Lib.hid (show RowC W1 (B + 2) (polA k u x none 0 0) 31 by rw [← hW1]; exact RowC.new _ _ _ _ hs0.symm)
  have HR := Lib.hid hR
  have HL := Lib.hid hl
  have HW0 := Lib.hid hW0
  have HW1 := Lib.hid hW1
  have HS := Lib.hid (And.intro hs0 hs1)
  have HBS := Lib.hid hBs
  clear hW0 hW1 hR hl
  have z0 := HP0.out.cell 0 (.int .i64 k) rfl
  have z1 := HP0.out.cell 1 (.int .i64 u) rfl
  have z2 := HP0.out.cell 2 (.bool x) rfl
  have z3 := HP0.out.cell 3 (.slice A n c) rfl
  clear hs1
  go_enter Tryz.func11, Tryz.ntmps11
  go_upto_region 1 with fail
  rw [HW0.out]
  go_upto_region 2 with fail
  rw [HW1.out]
  clear z0 z1 z2 z3
  go_wp2
  go_loopw [4] (fun i wr => ∃ (q : Nat) (A' : Option Addr) (c' : Nat) (l : List RL), q ≤ n ∧ i = .int .i64 q ∧ Hid (l.length = q ∧ RowL wr (B + 3) A' l c' ∧ l.map RL.val = (List.range q).map (fun i => (R i).val) ∧ RowC wr (B + 2) (polA k u x A' q c') 31 ∧ RowC wr B (polA k u x A n c) 26 ∧ RowC wr (B + 1) zPol 31 ∧ Below B w wr ∧ B + 3 ≤ wr.heap.size))
    (fun i _ => n - (intOf i).toNat)
  case atStart => exact ⟨0, none, 0, [], Nat.zero_le _, rfl, Lib.hid ⟨rfl, RowL.nil_ _ _, rfl, HX.out, HP.out, HZ.out, HB.out, by rw [HS.out.2]; exact Nat.le_refl _⟩⟩
  case round =>
    obtain ⟨q, A', c', l, hq, rfl, HI⟩ := hrel
    by_cases hlt : q < n
    · have hRr := HR.out.below HI.out.2.2.2.2.2.2.1 (by rw [HBS.out]; exact Nat.le_refl _)
      rcases HR.out with h0 | ⟨bb, o, rfl, hbl, _⟩
      · omega
      rcases hRr with h0 | ⟨bb', o', he, hbl', hcs⟩
      · omega
      obtain ⟨rfl, rfl⟩ : bb = bb' ∧ o = o' := by simpa using he
      obtain ⟨q0, q1, q2, q3, v1, v2, v3, v4, v5, v6⟩ := hcs q hlt
      obtain ⟨r, hr⟩ : ∃ r, R q = r := ⟨_, rfl⟩
      have h12 : r.n ≤ 12 := by rw [← hr]; exact HL.out q hlt
      have HVal := Lib.hid (show r.val = (R q).val by rw [hr])
      rw [hr] at q0 q1 q2 q3 v1 v2 v3 v4 v5 v6
      rw [Nat.add_zero] at q0
      have i1 : (0 : Int) ≤ (q : Int) := by omega
      have i2 : (q : Int) < (n : Int) := by omega
      have p3 := HI.out.2.2.2.2.1.cell 3 (.slice (some ⟨bb, o, none⟩) n c) rfl
      obtain ⟨nm, kk, uu, AA, nn, cc, CC⟩ := r
      simp only at q0 q1 q2 q3 v1 v2 v3 v4 v5 v6 h12
      obtain ⟨wo, rfl⟩ : ∃ z, z = wr := ⟨_, rfl⟩
      obtain ⟨E, hE⟩ : ∃ E, wo.heap.size = E := ⟨_, rfl⟩
      have hE3 : B + 3 ≤ E := by rw [← hE]; exact HI.out.2.2.2.2.2.2.2
      obtain ⟨W2, hW2⟩ : ∃ W, wo.alloc (.cells (rulA nm kk uu AA nn cc) 44) = W := ⟨_, rfl⟩
      obtain ⟨W3, hW3⟩ : ∃ W, W2.alloc (.cells (rulA nm kk uu none 0 0) 58) = W := ⟨_, rfl⟩
      have hs2 : W2.heap.size = E + 1 := by rw [← hW2, ← hE]; simp
      have hs3 : W3.heap.size = E + 2 := by rw [← hW3]; simp; omega
      have hB2 : Below E wo W2 := by rw [← hW2, ← hE]; exact (Below.refl _ _).alloc (Nat.le_refl _) _
      have hB3 : Below E wo W3 := by rw [← hW3]; exact hB2.alloc (by omega) _
      have hr2 : RowC W2 E (rulA nm kk uu AA nn cc) 44 := by rw [← hW2, ← hE]; exact RowC.new _ _ _ _ rfl
      have HR2 := Lib.hid hr2
      have HR3 := Lib.hid (show RowC W3 E (rulA nm kk uu AA nn cc) 44 by rw [← hW3]; exact hr2.alloc _)
      have HX3 := Lib.hid (show RowC W3 (E + 1) (rulA nm kk uu none 0 0) 58 by rw [← hW3]; exact RowC.new _ _ _ _ hs2.symm)
      have HB3 := Lib.hid hB3
      have HC0 := Lib.hid v6
      have HW2 := Lib.hid hW2
      have HW3 := Lib.hid hW3
      have HE := Lib.hid (And.intro hE (And.intro hs2 hs3))
      have HVV := Lib.hid (And.intro v1 (And.intro v2 v3))
      have t0 := hr2.cell 0 (.string nm) rfl
      have t1 := hr2.cell 1 (.int .i64 kk) rfl
      have t2 := hr2.cell 2 (.int .i64 uu) rfl
      have t3 := hr2.cell 3 (.slice AA nn cc) rfl
      have HBD := Lib.hid (show ∀ i, i < nn → (CC i).m ≤ 18446744073709551615 ∧ (CC i).v ≤ 18446744073709551615 from fun i hi => by
        rcases v6 with h0 | ⟨_, _, _, _, h⟩
        · omega
        · exact ⟨(h i hi).2.2.2.2.1, (h i hi).2.2.2.2.2⟩)
      clear hcs hr he hW2 hW3 hB2 hB3 hr2 v1 v2 v3 v4 v5 v6 hs2 hs3 hs0 hBs
      go_upto_region 6 with fail
      (try rw [hE])
      (try rw [HW2.out])
      go_upto_region 7 with fail
      (try rw [HE.out.2.1])
      (try rw [HW3.out])
      clear hE t0 t1 t2 t3 q0 q1 q2 q3 p3
      go_wp2
      go_loopw [7] (fun iv wy => ∃ (p : Nat) (A5 : Option Addr) (c5 : Nat), p ≤ nn ∧ iv = .int .i64 p ∧ Hid (OwnC wy (E + 2) 62 4 A5 p c5 (ccell CC) ∧ RowC wy (E + 1) (rulA nm kk uu A5 p c5) 58 ∧ Below (E + 1) W3 wy))
        (fun iv _ => nn - (intOf iv).toNat)
      case atStart => exact ⟨0, none, 0, Nat.zero_le _, rfl, Lib.hid ⟨OwnC.nil_, HX3.out, Below.refl _ _⟩⟩
      case round =>
        obtain ⟨p, A5, c5, hp, rfl, HJ⟩ := hrel
        have hsz : E + 2 ≤ wr.heap.size := by have := HJ.out.2.2.size; have := HE.out.2.2; omega
        have hR4 := HR3.out.below HJ.out.2.2 (by omega)
        have r3 := hR4.cell 3 (.slice AA nn cc) rfl
        have hBy : Below E wo wr := HB3.out.trans (HJ.out.2.2.mono (by omega))
        by_cases hlp : p < nn
        · obtain ⟨cx, hcx⟩ : ∃ cx, CC p = cx := ⟨_, rfl⟩
          obtain ⟨cb, co, rfl, c0, c1, c2, c3⟩ := (HC0.out.below hBy (by rw [HE.out.1]; exact Nat.le_refl _)).four hlp hcx
          have HCat := Lib.hid (ccell_cat CC p cx hcx)
          obtain ⟨F, hF⟩ : ∃ F, wr.heap.size = F := ⟨_, rfl⟩
          obtain ⟨W5, hW5⟩ : ∃ W, wr.alloc (.cells #[.int .i64 cx.a, .int .i64 cx.o, .int .u64 cx.m, .int .u64 cx.v] 67) = W := ⟨_, rfl⟩
          have hs5 : W5.heap.size = F + 1 := by rw [← hW5, ← hF]; simp
          have hB5 : Below F wr W5 := by rw [← hW5, ← hF]; exact (Below.refl _ _).alloc (Nat.le_refl _) _
          have hc5 : RowC W5 F #[.int .i64 cx.a, .int .i64 cx.o, .int .u64 cx.m, .int .u64 cx.v] 67 := by rw [← hW5, ← hF]; exact RowC.new _ _ _ _ rfl
          have hx5 := HJ.out.2.1.below hB5 (by omega)
          have HX5 := Lib.hid hx5
          have HO5 := Lib.hid (HJ.out.1.below hB5 (by rw [hF]; exact Nat.le_refl _))
          have HB5 := Lib.hid hB5
          have HW5 := Lib.hid hW5
          have HS5 := Lib.hid (And.intro hF hs5)
          have x3 := hx5.cell 3 (.slice A5 p c5) rfl
          have e0 := hc5.cell 0 (.int .i64 cx.a) rfl
          have e1 := hc5.cell 1 (.int .i64 cx.o) rfl
          have e2 := hc5.cell 2 (.int .u64 cx.m) rfl
          have e3 := hc5.cell 3 (.int .u64 cx.v) rfl
          have j1 : (0 : Int) ≤ (p : Int) := by omega
          have j2 : (p : Int) < (nn : Int) := by omega
          have hsE : E + 2 ≤ W5.heap.size := by omega
          have HSE := Lib.hid hsE
          clear hcx hW5 hs5 hB5 hc5 hx5 hR4
          go_upto_region 11 with fail
          (try rw [hF])
          (try rw [HW5.out])
          clear hF c0 c1 c2 c3
          go_wp2_with (first
            | (at_builtin
               refine app_cells (zv := .agg zN) (z := 4) (by_ := 32) _ rfl _ _ 56 62 rfl Tryz.underlying56 infoC2 rfl (by omega) (base := E + 2) rfl (HO5.out.alloc _) rfl (one_cond W5 cx _) (crow_one cx) (by unfold maxLen; omega) (by omega) (by simp; omega) (p + 1) rfl (ccell CC) HCat.out ?_
               intro A6 c6 w6 hown6 hB6
               have hb6 : Below (E + 2) W5 w6 := ((Below.refl _ W5).alloc HSE.out _).trans hB6
               have hx6 := HX5.out.below hb6 (by omega)
               have x3 := hx6.cell 3 (.slice A5 p c5) rfl
               have y3 := hx6.frozen 3
               have HQ6 := Lib.hid (And.intro hown6 (And.intro hb6 hx6))
               clear hown6 hb6 hx6 hB6))
          obtain ⟨hown6, hb6, hx6⟩ := HQ6.out
          have hsW := HB5.out.size
          refine ⟨⟨p + 1, A6, c6, by omega, by go_num, Lib.hid ⟨ownC_setX hown6 hx6 (by decide) 3 _, hx6.set 3 _, ((HJ.out.2.2.trans (HB5.out.mono (by have := HS5.out.1; omega))).trans (hb6.mono (by omega))).setCell (p := ⟨E + 1, 3, none⟩) (Nat.le_refl _) _⟩⟩, by simp [intOf]; omega⟩
        · obtain rfl : p = nn := by omega
          have j2 : ¬ (p : Int) < (p : Int) := by omega
          have hbd5 : Below (B + 3) wo wr := hBy.mono (by omega)
          have ho4 := HI.out.2.2.2.1.below hBy (by omega)
          have HO4 := Lib.hid ho4
          have o3 := ho4.cell 3 (.slice A' q c') rfl
          have x0 := HJ.out.2.1.cell 0 (.string nm) rfl
          have x1 := HJ.out.2.1.cell 1 (.int .i64 kk) rfl
          have x2 := HJ.out.2.1.cell 2 (.int .i64 uu) rfl
          have x3 := HJ.out.2.1.cell 3 (.slice A5 p c5) rfl
          have hct := ConT.of_own HJ.out.1 HBD.out
          have HRU := Lib.hid (show RuT wr ⟨nm, kk, uu, A5, p, c5, CC⟩ from ⟨HVV.out.1, HVV.out.2.1, HVV.out.2.2, hct.2.1, hct.2.2, hct.1⟩)
          have HRW := Lib.hid (HI.out.2.1.below hBy (by rw [HE.out.1]; exact Nat.le_refl _))
          have HLN := Lib.hid HI.out.1
          have hsz3 : B + 3 ≤ wr.heap.size := by omega
          have HBY := Lib.hid hbd5
          clear hct ho4 hR4 hBy hbd5
          go_wp2_with (first
            | (at_builtin
               refine app_rule (base := B + 3) (l := l) (r := ⟨nm, kk, uu, A5, p, c5, CC⟩) rfl _ _ rfl (by rw [HLN.out]; rfl) (HRW.out.alloc _) rfl (RowC.new _ _ _ _ rfl) (HRU.out.keep ((KeepC.refl _).alloc _)) (by rw [HLN.out]; omega) (by simp; omega) ?_
               rintro g2 c2 w2 hown2 _ _ _ hB2
               have hk2 : Below (B + 3) wo w2 := HBY.out.trans (((Below.refl _ wr).alloc hsz3 _).trans hB2)
               have hx2 := HI.out.2.2.2.1.below hk2 (by omega)
               have x3 := hx2.cell 3 (.slice A' q c') rfl
               have y3 := hx2.frozen 3
               have HQ2 := Lib.hid (And.intro hown2 (And.intro hk2 hx2))
               clear hown2 hk2 hx2 hB2))
          obtain ⟨hown2, hk2, hx2⟩ := HQ2.out
          exact ⟨⟨q + 1, some ⟨g2, 0, none⟩, c2, l ++ [⟨nm, kk, uu, A5, p, c5, CC⟩], by omega, by go_num, Lib.hid ⟨by simp [HLN.out], hown2.setLow hx2.ty (by decide) (by decide) 3 _, by rw [List.map_append, List.range_succ, List.map_append, HI.out.2.2.1]; show _ ++ [(⟨nm, kk, uu, AA, p, cc, CC⟩ : RL).val] = _ ++ [(R q).val]; rw [HVal.out], by rw [← HLN.out]; exact hx2.set 3 (.slice (some ⟨g2, 0, none⟩) (l.length + 1) c2), (HI.out.2.2.2.2.1.below hk2 (by omega)).setOther 3 _ (by omega), (HI.out.2.2.2.2.2.1.below hk2 (by omega)).setOther 3 _ (by omega), (HI.out.2.2.2.2.2.2.1.trans (hk2.mono (by omega))).setCell (by show B ≤ B + 2; omega) _, by have := hk2.size; have := HI.out.2.2.2.2.2.2.2; simp; omega⟩⟩, by simp [intOf]; omega⟩
    · obtain rfl : q = n := by omega
      have x0 := HI.out.2.2.2.1.cell 0 (.int .i64 k) rfl
      have x1 := HI.out.2.2.2.1.cell 1 (.int .i64 u) rfl
      have x2 := HI.out.2.2.2.1.cell 2 (.bool x) rfl
      have x3 := HI.out.2.2.2.1.cell 3 (.slice A' q c') rfl
      have p3 := HI.out.2.2.2.2.1.cell 3 (.slice A q c) rfl
      have z0 := HI.out.2.2.2.2.2.1.cell 0 (.int .i64 0) rfl
      have z1 := HI.out.2.2.2.2.2.1.cell 1 (.int .i64 0) rfl
      have z2 := HI.out.2.2.2.2.2.1.cell 2 (.bool false) rfl
      have z3 := HI.out.2.2.2.2.2.1.cell 3 (.slice none 0 0) rfl
      have y0 := HI.out.2.2.2.2.2.1.frozen 0
      have y1 := HI.out.2.2.2.2.2.1.frozen 1
      have y2 := HI.out.2.2.2.2.2.1.frozen 2
      have y3 := HI.out.2.2.2.2.2.1.frozen 3
      go_wp2
      have s0 := HI.out.2.2.2.2.2.1
      have s1 := s0.set 0 (.int .i64 k)
      have s2 := s1.set 1 (.int .i64 u)
      have s3 := s2.set 2 (.bool x)
      exact bodyPost_ret (results_cN Tryz.results11 _ _ (B + 1) _ (polA k u x A' q c') (0, 0) _ (by rfl) (set4U HI.out.2.2.2.2.2.1) Tryz.underlying31 (by rfl) infoPol) rfl
        ⟨A', c', l, rfl, HI.out.1, ((((HI.out.2.1.setLow s0.ty (by decide) (by decide) 0 _).setLow s1.ty (by decide) (by decide) 1 _).setLow s2.ty (by decide) (by decide) 2 _).setLow s3.ty (by decide) (by decide) 3 _).lower (by rw [HBS.out]; omega), HI.out.2.2.1, by rw [HBS.out]; exact below4N HI.out.2.2.2.2.2.2.1 (by omega) _ _ _ _⟩
end Go.Proofs.YtlpcallgkciklaaGreatDoor

/-
  Layer 16: norm.byName: the normal forms of rules by their names.
-/
namespace Go.Proofs.YtlpcallgkciklaaGreatDoor
open Go.RowKit Go.Shelf Go.Maps Go.ChangeMaps Go.WideMaps
set_option linter.unusedVariables false

structure RS where
  A : Option Addr
  l : List RL
  c : Nat
def RS.v (r : RS) : Value := .slice r.A r.l.length r.c
/-- How a map's value reads: as itself. -/
def RR : Value → Option (DataW Value × List MemPlace) := fun v => some (.held v, [])
abbrev nilV : Value := .slice none 0 0
/-- A map of rules by names. -/
structure Named (w : World) (base bm q : Nat) (pre : List RV) (T : List UInt8 → RS) : Prop where
  map : ∃ D n, w.ownsMap Tryz.prog 9 RR bm n D ∧ n ≤ q ∧ (∀ s, D.atKey (.string s) (.held nilV) = .held (T s).v) ∧ ∀ s, has D (.string s) = true ↔ (T s).l ≠ []
  row : ∀ s, RowL w base (T s).A (T s).l (T s).c
  val : ∀ s, (T s).l.map RL.val = grp pre s
  apart : ∀ s s' g, s ≠ s' → (T s).v.ownBlock = some g → (T s').v.ownBlock ≠ some g
theorem map_not_cells {w : World} {bm n : Nat} {D : DataW Value} {T : TypeId} (h : w.ownsMap Tryz.prog 9 RR bm n D) : ¬ TyAt w bm T := fun ⟨cs, fr, h2⟩ => by
  obtain ⟨es, clock, h1, _⟩ := h
  rw [h1] at h2
  cases h2
theorem KeepC.grownMap {w w' : World} {bm n : Nat} {D : DataW Value} (h : w.ownsMap Tryz.prog 9 RR bm n D) (hg : w.grownBy w' (some bm)) : KeepC w w' := fun b cs fr hb => hg.block b (Array.getElem?_eq_some_iff.1 hb).1 fun e => by
  cases e
  exact map_not_cells h ⟨cs, fr, hb⟩
theorem ownsMap_block {w w' : World} {bm n : Nat} {D : DataW Value} (h : w.ownsMap Tryz.prog 9 RR bm n D) (he : w'.heap[bm]? = w.heap[bm]?) : w'.ownsMap Tryz.prog 9 RR bm n D := by
  obtain ⟨es, clock, h1, h2⟩ := h
  exact ⟨es, clock, he.trans h1, h2⟩
theorem Named.below {w w' : World} {base bm q B : Nat} {pre : List RV} {T : List UInt8 → RS} (h : Named w base bm q pre T) (hb : Below B w w') (hB : w.heap.size ≤ B) : Named w' base bm q pre T where
  map := by
    obtain ⟨D, n, h1, h2, h3, h4⟩ := h.map
    exact ⟨D, n, ownsMap_block h1 (hb.block bm (Nat.lt_of_lt_of_le h1.lt hB)), h2, h3, h4⟩
  row := fun s => (h.row s).below hb hB
  val := h.val
  apart := h.apart
theorem Named.start (w : World) (base : Nat) : Named (w.alloc (.map #[] 0)) base w.heap.size 0 [] (fun _ => ⟨none, [], 0⟩) where
  map := ⟨.map [], 0, World.ownsMap_made w _ _ _, Nat.le_refl _, fun s => by simp [DataW.atKey, RS.v], fun s => by simp [has]⟩
  row := fun s => RowL.nil_ _ _
  val := fun s => by simp [grp]
  apart := fun s s' g _ h => by cases h
theorem grp_one (v : RV) (s : List UInt8) : grp [v] s = match nR v with
    | none => []
    | some x => if x.key = s then [x] else [] := by
  unfold grp
  rw [List.filterMap_cons]
  cases hv : nR v with
  | none => rfl
  | some x =>
    simp only [List.filterMap_nil, List.filter_cons, List.filter_nil]
    by_cases e : x.key = s
    · simp [e]
    · simp [e]
theorem Named.skip {w : World} {base bm q : Nat} {pre : List RV} {T : List UInt8 → RS} (h : Named w base bm q pre T) {v : RV} (hv : nR v = none) : Named w base bm (q + 1) (pre ++ [v]) T where
  map := by
    obtain ⟨D, n, h1, h2, h3, h4⟩ := h.map
    exact ⟨D, n, h1, by omega, h3, h4⟩
  row := h.row
  val := fun s => by rw [h.val, grp_append, grp_one, hv, List.append_nil]
  apart := h.apart
def putT (T : List UInt8 → RS) (s0 : List UInt8) (x : RS) : List UInt8 → RS := fun s => if s = s0 then x else T s
theorem putT_same (T : List UInt8 → RS) (s0 : List UInt8) (x : RS) : putT T s0 x s0 = x := by simp [putT]
theorem putT_other (T : List UInt8 → RS) {s0 s : List UInt8} (x : RS) (h : s ≠ s0) : putT T s0 x s = T s := by simp [putT, h]
/-- An append onto one name's row leaves the map's block. -/
theorem Named.mapKept {w w2 : World} {base bm q : Nat} {pre : List RV} {T : List UInt8 → RS} (h : Named w base bm q pre T) (s0 : List UInt8) (hg : w.grownBy w2 (T s0).v.ownBlock) :
    ∃ D n, w2.ownsMap Tryz.prog 9 RR bm n D ∧ n ≤ q ∧ (∀ s, D.atKey (.string s) (.held nilV) = .held (T s).v) ∧ ∀ s, has D (.string s) = true ↔ (T s).l ≠ [] := by
  obtain ⟨D, n, h1, h2, h3, h4⟩ := h.map
  refine ⟨D, n, ownsMap_block h1 (hg.block bm h1.lt fun e => ?_), h2, h3, h4⟩
  exact map_not_cells h1 ((h.row s0).ty bm e.symm)
theorem Named.put {w w2 w3 : World} {base bm q : Nat} {pre : List RV} {T : List UInt8 → RS} (h : Named w base bm q pre T) (s0 : List UInt8) {g c' : Nat} {r : RL} {v : RV} (hbase : base ≤ w.heap.size)
    (hrow : RowL w2 base (some ⟨g, 0, none⟩) ((T s0).l ++ [r]) c') (hg : w.grownBy w2 (T s0).v.ownBlock) (hl : (T s0).v.ownBlock = some g ∨ g = w.heap.size) (hk : KeepC w w2)
    {D : DataW Value} {n : Nat} (h1 : w2.ownsMap Tryz.prog 9 RR bm n D) (h2 : n ≤ q) (h3 : ∀ s, D.atKey (.string s) (.held nilV) = .held (T s).v) (h4 : ∀ s, has D (.string s) = true ↔ (T s).l ≠ [])
    (hm : w3.ownsMap Tryz.prog 9 RR bm (n + 1) (D.put (.string s0) (.held (.slice (some ⟨g, 0, none⟩) ((T s0).l.length + 1) c')))) (hg3 : w2.grownBy w3 (some bm))
    (hv : nR v = some r.val) (hs : r.val.key = s0) : Named w3 base bm (q + 1) (pre ++ [v]) (putT T s0 ⟨some ⟨g, 0, none⟩, (T s0).l ++ [r], c'⟩) := by
  have hK3 : KeepC w2 w3 := KeepC.grownMap h1 hg3
  have hne : ∀ {A : Option Addr} {l : List RL} {c : Nat}, RowL w2 base A l c → (Value.slice A l.length c).ownBlock ≠ some bm := fun hr e => map_not_cells h1 (hr.ty bm e)
  have hother : ∀ s, s ≠ s0 → RowL w2 base (T s).A (T s).l (T s).c := fun s hs' => by
    refine (h.row s).kept hg ?_ hk
    rcases ho : (Value.slice (T s).A (T s).l.length (T s).c).ownBlock with _ | gg
    · exact .inl rfl
    · refine .inr fun e => ?_
      exact h.apart s s0 gg hs' ho e.symm
  have hI : Go.Maps.IsMap D := h1.isMap
  refine ⟨⟨_, n + 1, hm, by omega, fun s => ?_, fun s => ?_⟩, fun s => ?_, fun s => ?_, fun s s' gg hss hgg hgg' => ?_⟩
  · by_cases e : s = s0
    · subst e
      rw [putT_same, atKey_put_same hI (show WideAt.IsKeyLit (.string _) from trivial)]
      simp [RS.v]
    · rw [putT_other _ _ e, atKey_put_other (by simpa using e), h3]
  · by_cases e : s = s0
    · subst e
      rw [putT_same, has_put_same hI (show WideAt.IsKeyLit (.string _) from trivial)]
      simp
    · rw [putT_other _ _ e, has_put_other (by simpa using e), h4]
  · by_cases e : s = s0
    · subst e
      rw [putT_same]
      exact hrow.kept hg3 (.inr (hne hrow)) hK3
    · rw [putT_other _ _ e]
      exact (hother s e).kept hg3 (.inr (hne (hother s e))) hK3
  · rw [grp_append, grp_one, hv]
    by_cases e : s = s0
    · subst e
      rw [putT_same]
      simp only [hs, if_true]
      rw [List.map_append, h.val]
      rfl
    · rw [putT_other _ _ e, h.val]
      simp only [hs]
      rw [if_neg (fun h => e h.symm), List.append_nil]
  · have hold : ∀ t, (T t).v.ownBlock = some gg → gg < w.heap.size := fun t ht => ((h.row t).1.lt gg ht).2
    by_cases e : s = s0
    · subst e
      rw [putT_same] at hgg
      rw [putT_other _ _ (fun x => hss x.symm)] at hgg'
      cases hgg
      rcases hl with hl | hl
      · exact h.apart _ _ _ hss hl hgg'
      · have := hold _ hgg'; simp only at this; omega
    · rw [putT_other _ _ e] at hgg
      by_cases e' : s' = s0
      · subst e'
        rw [putT_same] at hgg'
        cases hgg'
        rcases hl with hl | hl
        · exact h.apart _ _ _ hss hgg hl
        · have := hold _ hgg; simp only at this; omega
      · rw [putT_other _ _ e'] at hgg'
        exact h.apart _ _ _ hss hgg hgg'
theorem Named.mapKept' {w w2 : World} {base bm q : Nat} {pre : List RV} {T : List UInt8 → RS} (h : Named w base bm q pre T) {s0 : List UInt8} {rA : Option Addr} {rl : List RL} {rc : Nat} (hx : T s0 = ⟨rA, rl, rc⟩) (hg : w.grownBy w2 (Value.slice rA rl.length rc).ownBlock) :
    ∃ D n, w2.ownsMap Tryz.prog 9 RR bm n D ∧ n ≤ q ∧ (∀ s, D.atKey (.string s) (.held nilV) = .held (T s).v) ∧ ∀ s, has D (.string s) = true ↔ (T s).l ≠ [] :=
  h.mapKept s0 (by rw [hx]; exact hg)
theorem Named.put' {w w2 w3 : World} {base bm q : Nat} {pre : List RV} {T : List UInt8 → RS} (h : Named w base bm q pre T) {s0 : List UInt8} {rA : Option Addr} {rl : List RL} {rc : Nat} (hx : T s0 = ⟨rA, rl, rc⟩) {g c' : Nat} {r : RL} {v : RV} (hbase : base ≤ w.heap.size)
    (hrow : RowL w2 base (some ⟨g, 0, none⟩) (rl ++ [r]) c') (hg : w.grownBy w2 (Value.slice rA rl.length rc).ownBlock) (hl : (Value.slice rA rl.length rc).ownBlock = some g ∨ g = w.heap.size) (hk : KeepC w w2)
    {D : DataW Value} {n : Nat} (h1 : w2.ownsMap Tryz.prog 9 RR bm n D) (h2 : n ≤ q) (h3 : ∀ s, D.atKey (.string s) (.held nilV) = .held (T s).v) (h4 : ∀ s, has D (.string s) = true ↔ (T s).l ≠ [])
    (hm : w3.ownsMap Tryz.prog 9 RR bm (n + 1) (D.put (.string s0) (.held (.slice (some ⟨g, 0, none⟩) (rl.length + 1) c')))) (hg3 : w2.grownBy w3 (some bm))
    (hv : nR v = some r.val) (hs : r.val.key = s0) : Named w3 base bm (q + 1) (pre ++ [v]) (putT T s0 ⟨some ⟨g, 0, none⟩, rl ++ [r], c'⟩) := by
  obtain rfl : rl = (T s0).l := by rw [hx]
  obtain rfl : rA = (T s0).A := by rw [hx]
  obtain rfl : rc = (T s0).c := by rw [hx]
  exact h.put s0 hbase hrow hg hl hk h1 h2 h3 h4 hm hg3 hv hs
/-- A store into the map, as a step of a region that draws its order. -/
theorem step_put {w : World} {ops : Array Oper} {o : Oper} {a : Act} {K : Act → World → Prop} {Q : Exit → Act → World → Prop} {R : Prop} (hgd : o.guard = none) (m x v : Operand) (t : TypeId)
    (hop : o.op = Op.mapUpdate t m x v) (ht : Tryz.prog.underlying t = some (.map 9 29)) {bm n : Nat} {D : DataW Value} (hm : a.eval m = .map (some bm)) (hown : w.ownsMap Tryz.prog 9 RR bm n D) (hn : n < maxLen)
    {s : ByteArray} {val : Value} (hx : a.eval x = .string s) (hv : a.eval v = val) (hs : s.size ≤ maxLen)
    (h : ∀ w', w'.ownsMap Tryz.prog 9 RR bm (n + 1) (D.put (.string s.data.toList) (.held val)) → w.grownBy w' (some bm) → K (a.put o.dst undef) w') :
    if Region.wanted o (yielded ops a.tmps) = true then Oper.wp Tryz.prog o a w K Q else R := by
  have hw : Region.wanted o (yielded ops a.tmps) = true := by simp [Region.wanted, hgd]
  rw [if_pos hw]
  obtain ⟨w', hrun, r1, r2⟩ := hown.update (string_keyed Tryz.underlying9) ht hn (keyOf_string_mk Tryz.underlying9 hs) (show RR val = some (.held val, []) from rfl)
  unfold Oper.wp
  simp [execOp, hop, hm, hx, hv, hrun, Result.andThen]
  exact h w' r1 r2
theorem val_key (r : RL) : r.val.key = r.nm.data.toList := rfl
end Go.Proofs.YtlpcallgkciklaaGreatDoor

/-
  Layer 16: norm.upToLast; several rules appended; the names of a map, sorted.
-/
namespace Go.Proofs.YtlpcallgkciklaaGreatDoor
open Go.RowKit Go.Shelf Go.Maps Go.Sort
set_option linter.unusedVariables false

theorem RlL.take {w : World} {A : Option Addr} {l : List RL} (h : RlL w A l) (m : Nat) : RlL w A (l.take m) := by
  refine ⟨?_, fun r hr => h.2 r (List.mem_of_mem_take hr)⟩
  rcases h.1 with h0 | ⟨b, o, rfl, hl, hc⟩
  · exact .inl (by rw [h0]; simp)
  · refine .inr ⟨b, o, rfl, hl, fun i hi => ?_⟩
    have hi' : i < l.length := by rw [List.length_take] at hi; omega
    have e : (l.take m)[i]! = l[i]! := by
      rw [getElem!_pos (l.take m) i hi, getElem!_pos l i hi', List.getElem_take]
    rw [e]
    exact hc i hi'
theorem act_cases (k u k' u' : Int) : (k = k' ∧ u = u') ∨ (k == k') = false ∨ (k = k' ∧ (u == u') = false) := by
  simp only [beq_eq_false_iff_ne]
  by_cases h1 : k = k'
  · by_cases h2 : u = u'
    · exact .inl ⟨h1, h2⟩
    · exact .inr (.inr ⟨h1, h2⟩)
  · exact .inr (.inl h1)
theorem isAct_no {k u : Int} {r : RV} (h : ¬ (r.k = k ∧ r.u = u)) : isAct k u r = false := by
  unfold isAct
  by_cases h1 : r.k = k
  · by_cases h2 : r.u = u
    · exact absurd ⟨h1, h2⟩ h
    · simp [h2]
  · simp [h1]
/-- Rules appended, as a step of a region that draws its order. -/
theorem step_rules {w : World} {ops : Array Oper} {o : Oper} {a : Act} {K : Act → World → Prop} {Q : Exit → Act → World → Prop} {R : Prop} (hgd : o.guard = none) (s x : Operand)
    (ho : o.op = .call { callee := .builtin .append, args := #[s, x], argTypes := #[29, 29] })
    {base c d : Nat} {A A5 : Option Addr} {l l5 : List RL} (hs : a.eval s = .slice A l.length c) (hown : RowL w base A l c) (hx : a.eval x = .slice A5 l5.length d) (h5 : RlL w A5 l5)
    (hn : l.length + l5.length ≤ 1000000000) (hd : l5.length ≤ d) (hz : A5 = none → d = 0) (hbase : base ≤ w.heap.size)
    (h : ∀ A' c' w', RowL w' base A' (l ++ l5) c' → w.grownBy w' (Value.slice A l.length c).ownBlock → KeepC w w' → Below base w w' → K (a.put o.dst (.slice A' (l ++ l5).length c')) w') :
    if Region.wanted o (yielded ops a.tmps) = true then Oper.wp Tryz.prog o a w K Q else R := by
  have hw : Region.wanted o (yielded ops a.tmps) = true := by simp [Region.wanted, hgd]
  rw [if_pos hw]
  obtain ⟨i, hi, hz0, hsz, hby⟩ := info_parts infoRu2
  rcases A5 with _ | ⟨ab, ao, asp⟩
  · have hd0 : d = 0 := hz rfl
    have h50 : l5 = [] := List.eq_nil_of_length_eq_zero (by omega)
    subst h50 hd0
    have hrun := run_append_owned_none (P := Tryz.prog) (w := w) base 29 o.type 58 i 4 Tryz.underlying29 hi (.slice A l.length c) l.length _ hown.1
    have hK := h A c w (by rw [List.append_nil]; exact hown) (World.grownBy.refl _ _) (KeepC.refl _) (Below.refl _ _)
    rw [List.append_nil] at hK
    unfold Oper.wp execOp
    simp only [ho, resolve, invoke, builtin, Sem.run_bind, Sem.run_pure, Result.andThen_ok, List.map_toArray, List.map_cons, List.map_nil, hs, hx, List.length_nil, hrun]
    exact hK
  · have hnews : ∀ j v, (l5.flatMap rrow)[j]? = some v → w.cell? ((⟨ab, ao, asp⟩ : Addr).add j) = some v := fun j v hv => by
      rcases h5.1 with h0 | ⟨b, o5, he, hl, hc⟩
      · rw [h0] at hv; simp at hv
      · obtain ⟨rfl, rfl, rfl⟩ : ab = b ∧ ao = o5 ∧ asp = none := by simpa using he
        have hj : j < l5.length * 4 := by
          rw [← flat_len rrow (fun _ => rfl) l5]
          exact (List.getElem?_eq_some_iff.1 hv).1
        obtain ⟨q, t, hq, ht, rfl⟩ : ∃ q t, q < l5.length ∧ t < 4 ∧ j = q * 4 + t := ⟨j / 4, j % 4, by omega, by omega, by omega⟩
        rw [flat_at rrow (fun _ => rfl) l5 q t hq ht] at hv
        rw [addR, ← Nat.add_assoc]
        obtain ⟨h0, h1, h2, h3⟩ := hc q hq
        have : t = 0 ∨ t = 1 ∨ t = 2 ∨ t = 3 := by omega
        rcases this with rfl | rfl | rfl | rfl
        · exact h0.trans hv
        · exact h1.trans hv
        · exact h2.trans hv
        · exact h3.trans hv
    obtain ⟨v', w', hr, h2, h3, _, _⟩ := run_append_own_at (P := Tryz.prog) w base 29 o.type 58 i _ 4 56 Tryz.underlying29 hi hz0 hsz hby (by rfl) (by decide) _ l.length _ hown.1 ⟨ab, ao, asp⟩ l5.length d (l5.flatMap rrow) (flat_len rrow (fun _ => rfl) l5) hnews (flat_one rrow rrow_one l5) (by unfold maxLen; omega) (by omega) hbase
    have hk : KeepC w w' := KeepC.grown h3 fun b hb => ⟨_, hown.ty b hb, by decide⟩
    have hB : Below base w w' := (Below.refl _ _).grown h3 hbase (fun k hk => (hown.1.lt k hk).1)
    rcases ownsRow_parts h2 with ⟨A', c', rfl⟩
    have hK := h A' c' w' ⟨by rw [List.length_append, List.flatMap_append]; exact h2, fun q hq => by
      rcases List.mem_append.1 hq with hq | hq
      · exact (hown.2 q hq).keep hk
      · exact (h5.2 q hq).keep hk⟩ h3 hk hB
    unfold Oper.wp execOp
    simp only [ho, resolve, invoke, builtin, Sem.run_bind, Sem.run_pure, Result.andThen_ok, List.map_toArray, List.map_cons, List.map_nil, hs, hx, hr]
    rw [List.length_append] at hK
    exact hK
/-- The names' list. -/
theorem Named.keys {w : World} {base bm q : Nat} {pre : List RV} {T : List UInt8 → RS} (h : Named w base bm q pre T) {D : DataW Value} {n : Nat} (h1 : w.ownsMap Tryz.prog 9 RR bm n D) (h4 : ∀ s, has D (.string s) = true ↔ (T s).l ≠ []) {ss : List (List UInt8)} (hp : ss.Perm (strKeys D)) :
    ss.mergeSort leB = kys pre := by
  obtain ⟨es, hD, hpw, _⟩ := h1.entries (string_keyed Tryz.underlying9)
  obtain ⟨es', hD', hko⟩ := h1.keysOf
  obtain rfl : es = es' := by rw [hD] at hD'; simpa using hD'
  subst hD
  have hg : ∀ s, grp pre s ≠ [] ↔ (T s).l ≠ [] := fun s => by
    rw [← h.val s, Ne, Ne, List.map_eq_nil_iff]
  have hp2 : (nms pre).Perm (strKeys (.map es)) := perm_strKeys hpw (fun p hp => by obtain ⟨v, hv⟩ := hko p hp; obtain ⟨x, _, hx, _⟩ := Maps.keyOf_str Tryz.underlying9 hv; exact ⟨x, hx⟩) (nodup_nub _) (fun x => by rw [mem_nms, hg, h4])
  exact mergeSort_of_perm (hp.trans hp2.symm)
end Go.Proofs.YtlpcallgkciklaaGreatDoor

/-
  policy.Same.
-/
namespace Go.Proofs.YtlpcallgkciklaaGreatDoor
open Go.RowKit Go.Shelf
set_option linter.unusedVariables false

theorem bytes_ext {a b : ByteArray} (h : (a.toList == b.toList) = true) : a = b := by
  have h' : a.toList = b.toList := by simpa using h
  rw [ByteArray.toList_eq, ByteArray.toList_eq] at h'
  obtain ⟨⟨x⟩⟩ := a
  obtain ⟨⟨y⟩⟩ := b
  exact congrArg (fun l => ByteArray.mk ⟨l⟩) h'
def sameV (x y : RV) : Bool := (x.nm.toList == y.nm.toList) && ((x.k == y.k) && (x.u == y.u)) && decide (x.L = y.L)
theorem sameV_iff (x y : RV) : sameV x y = true ↔ x = y := by
  unfold sameV
  constructor
  · intro h
    simp only [Bool.and_eq_true, beq_iff_eq, decide_eq_true_eq] at h
    obtain ⟨⟨h1, h2, h3⟩, h4⟩ := h
    obtain ⟨a, b, c, d⟩ := x
    obtain ⟨a', b', c', d'⟩ := y
    simp only at h1 h2 h3 h4
    obtain rfl := bytes_ext (by simpa using h1)
    subst h2 h3 h4
    rfl
  · rintro rfl
    simp
set_option maxRecDepth 100000 in
set_option maxHeartbeats 8000000 in
theorem sameRule_any (a b : RL) (w : World) (hn : a.n ≤ 100000) (ha : ConA w a.A a.n a.C) (hb : ConA w b.A b.n b.C) :
    Calls Tryz.prog 25 #[.agg (rulA a.nm a.k a.u a.A a.n a.c), .agg (rulA b.nm b.k b.u b.A b.n b.c)] w fun e w' => e = .returned (.bool (sameV a.val b.val)) ∧ Below w.heap.size w w' := by
  obtain ⟨W0, hW0⟩ : ∃ W, (w.alloc (.cells (rulA a.nm a.k a.u a.A a.n a.c) 58)).alloc (.cells (rulA b.nm b.k b.u b.A b.n b.c) 58) = W := ⟨_, rfl⟩
  have hB0 : Below w.heap.size w W0 := by rw [← hW0]; exact ((Below.refl _ _).alloc (Nat.le_refl _) _).alloc (by simp) _
  have hP0 : RowC W0 w.heap.size (rulA a.nm a.k a.u a.A a.n a.c) 58 := by rw [← hW0]; exact (RowC.new _ _ _ _ rfl).alloc _
  have hQ0 : RowC W0 (w.heap.size + 1) (rulA b.nm b.k b.u b.A b.n b.c) 58 := by rw [← hW0]; exact RowC.new _ _ _ _ (by simp)
  have HEQ := Lib.hid (eqConds_any a.A b.A a.n a.c b.n b.c a.C b.C W0 hn (ha.below hB0 (Nat.le_refl _)) (hb.below hB0 (Nat.le_refl _)))
  have HV := Lib.hid (show sameV a.val b.val = ((a.nm.toList == b.nm.toList) && ((a.k == b.k) && (a.u == b.u)) && decide ((List.range a.n).map a.C = (List.range b.n).map b.C)) from rfl)
  obtain ⟨sv, hsv⟩ : ∃ sv, sameV a.val b.val = sv := ⟨_, rfl⟩
  rw [hsv] at HV ⊢
  have p0 := hP0.cell 0 (.string a.nm) rfl
  have p1 := hP0.cell 1 (.int .i64 a.k) rfl
  have p2 := hP0.cell 2 (.int .i64 a.u) rfl
  have p3 := hP0.cell 3 (.slice a.A a.n a.c) rfl
  have r0 := hQ0.cell 0 (.string b.nm) rfl
  have r1 := hQ0.cell 1 (.int .i64 b.k) rfl
  have r2 := hQ0.cell 2 (.int .i64 b.u) rfl
  have r3 := hQ0.cell 3 (.slice b.A b.n b.c) rfl
  have HB0 := Lib.hid hB0
  have HW := Lib.hid hW0
  clear ha hb hW0 hB0 hP0 hQ0 hsv
  obtain ⟨an, ak, au, aA, aN, aC, aF⟩ := a
  obtain ⟨bn, bk, bu, bA, bN, bC, bF⟩ := b
  simp only at HEQ HV p0 p1 p2 p3 r0 r1 r2 r3 HW
  rcases hnm : (an.toList == bn.toList) with _ | _
  · rw [hnm] at HV
    go_enter Tryz.func25, Tryz.ntmps25
    go_upto_region 1 with fail
    rw [HW.out]
    go_wp2
    go_ret
    exact ⟨by rw [HV.out]; rfl, HB0.out⟩
  · rw [hnm] at HV
    rcases act_cases ak au bk bu with ⟨h1, h2⟩ | h | ⟨h1, h⟩
    · subst h1 h2
      have HV := Lib.hid (HV.out.trans (by simp : _ = decide ((List.range aN).map aF = (List.range bN).map bF)))
      go_enter Tryz.func25, Tryz.ntmps25
      go_upto_region 1 with fail
      rw [HW.out]
      go_wp2_with fail
      refine HEQ.out.mono ?_
      rintro x w2 ⟨rfl, hB2⟩
      go_wp2
      go_ret
      exact ⟨by rw [HV.out]; rfl, HB0.out.trans (hB2.mono HB0.out.size)⟩
    · rw [h] at HV
      go_enter Tryz.func25, Tryz.ntmps25
      go_upto_region 1 with fail
      rw [HW.out]
      go_wp2
      go_ret
      exact ⟨by rw [HV.out]; rfl, HB0.out⟩
    · subst h1
      rw [h] at HV
      have HV := Lib.hid (HV.out.trans (by simp : _ = false))
      go_enter Tryz.func25, Tryz.ntmps25
      go_upto_region 1 with fail
      rw [HW.out]
      go_wp2
      go_ret
      exact ⟨by rw [HV.out]; rfl, HB0.out⟩
set_option maxRecDepth 100000 in
set_option maxHeartbeats 8000000 in
theorem equalRules_any (A A' : Option Addr) (l l' : List RL) (c c' : Nat) (w : World) (hl : RlL w A l) (hl' : RlL w A' l') (hn : l.length ≤ 1000000) (h12 : ∀ e ∈ l, e.n ≤ 100000) :
    Calls Tryz.prog 24 #[.slice A l.length c, .slice A' l'.length c', .func (.func 25) #[] #[]] w fun e w' => (∃ b, e = .returned (.bool b) ∧ (b = true ↔ l.map RL.val = l'.map RL.val)) ∧ Below w.heap.size w w' := by
  obtain ⟨n, hnl⟩ : ∃ n, l.length = n := ⟨_, rfl⟩
  obtain ⟨m, hml⟩ : ∃ m, l'.length = m := ⟨_, rfl⟩
  have HNL := Lib.hid hnl
  have HML := Lib.hid hml
  have HL := Lib.hid hl
  have HL' := Lib.hid hl'
  have H12 := Lib.hid h12
  rw [hnl] at hn ⊢
  rw [hml]
  clear hnl hml hl hl' h12
  by_cases hnm : n = m
  · subst hnm
    go_enter Tryz.func24, Tryz.ntmps24
    go_wp2
    go_loopw [17] (fun i wr => ∃ q : Nat, q ≤ n ∧ i = .int .i64 q ∧ Hid (Below w.heap.size w wr ∧ (l.take q).map RL.val = (l'.take q).map RL.val)) (fun i _ => n - (intOf i).toNat)
    case atStart => exact ⟨0, Nat.zero_le _, rfl, Lib.hid ⟨Below.refl _ _, rfl⟩⟩
    case round =>
      obtain ⟨q, hq, rfl, HI⟩ := hrel
      by_cases hlt : q < n
      · have hlq : q < l.length := by rw [HNL.out]; exact hlt
        have hlq' : q < l'.length := by rw [HML.out]; exact hlt
        have hmem : l[q]! ∈ l := by rw [getElem!_pos l q hlq]; exact List.getElem_mem hlq
        have hmem' : l'[q]! ∈ l' := by rw [getElem!_pos l' q hlq']; exact List.getElem_mem hlq'
        have hLr := HL.out.below HI.out.1 (Nat.le_refl _)
        have hLr' := HL'.out.below HI.out.1 (Nat.le_refl _)
        have hru := hLr.2 _ hmem
        have hru' := hLr'.2 _ hmem'
        have h1000 := H12.out _ hmem
        rcases hLr.1 with h0 | ⟨bb, o, rfl, hbl, hcs⟩
        · rw [h0] at hlq; exact absurd hlq (Nat.not_lt_zero _)
        rcases hLr'.1 with h0 | ⟨bb', o', rfl, hbl', hcs'⟩
        · rw [h0] at hlq'; exact absurd hlq' (Nat.not_lt_zero _)
        obtain ⟨q0, q1, q2, q3⟩ := hcs q hlq
        obtain ⟨k0, k1, k2, k3⟩ := hcs' q hlq'
        obtain ⟨r, hr⟩ : ∃ r, l[q]! = r := ⟨_, rfl⟩
        obtain ⟨s, hs⟩ : ∃ s, l'[q]! = s := ⟨_, rfl⟩
        rw [hr] at q0 q1 q2 q3 hru h1000
        rw [hs] at k0 k1 k2 k3 hru'
        rw [Nat.add_zero] at q0 k0
        have HTK := Lib.hid (show (l.take (q + 1)).map RL.val = (l.take q).map RL.val ++ [r.val] by rw [List.take_add_one, List.getElem?_eq_getElem hlq, List.map_append, ← hr, getElem!_pos l q hlq]; rfl)
        have HTK' := Lib.hid (show (l'.take (q + 1)).map RL.val = (l'.take q).map RL.val ++ [s.val] by rw [List.take_add_one, List.getElem?_eq_getElem hlq', List.map_append, ← hs, getElem!_pos l' q hlq']; rfl)
        have HGT := Lib.hid (show (l.map RL.val)[q]? = some r.val ∧ (l'.map RL.val)[q]? = some s.val by
          rw [List.getElem?_map, List.getElem?_map, List.getElem?_eq_getElem hlq, List.getElem?_eq_getElem hlq', ← hr, ← hs, getElem!_pos l q hlq, getElem!_pos l' q hlq']
          exact ⟨rfl, rfl⟩)
        have HCL := Lib.hid fun X (hX : Below wr.heap.size wr X) => sameRule_any r s X h1000 (hru.2.2.2.2.2.conA.below hX (Nat.le_refl _)) (hru'.2.2.2.2.2.conA.below hX (Nat.le_refl _))
        have HSV := Lib.hid (sameV_iff r.val s.val)
        obtain ⟨sv, hsv⟩ : ∃ sv, sameV r.val s.val = sv := ⟨_, rfl⟩
        rw [hsv] at HCL HSV
        have i1 : (0 : Int) ≤ (q : Int) := by omega
        have i2 : (q : Int) < (n : Int) := by omega
        have h2 : ∀ (X Y : Obj), Below wr.heap.size wr ((wr.alloc X).alloc Y) := fun X Y => ((Below.refl _ _).alloc (Nat.le_refl _) _).alloc (by simp) _
        have HH2 := Lib.hid h2
        obtain ⟨W2, hW2⟩ : ∃ W, (wr.alloc (.cells (rulA r.nm r.k r.u r.A r.n r.c) 58)).alloc (.cells (rulA s.nm s.k s.u s.A s.n s.c) 58) = W := ⟨_, rfl⟩
        have hB2 : Below wr.heap.size wr W2 := by rw [← hW2]; exact h2 _ _
        have HB2 := Lib.hid hB2
        have hb1 : RowC W2 wr.heap.size (rulA r.nm r.k r.u r.A r.n r.c) 58 := by rw [← hW2]; exact (RowC.new _ _ _ _ rfl).alloc _
        have hb2 : RowC W2 (wr.heap.size + 1) (rulA s.nm s.k s.u s.A s.n s.c) 58 := by rw [← hW2]; exact RowC.new _ _ _ _ (by simp)
        have e0 := hb1.cell 0 (.string r.nm) rfl
        have e1 := hb1.cell 1 (.int .i64 r.k) rfl
        have e2 := hb1.cell 2 (.int .i64 r.u) rfl
        have e3 := hb1.cell 3 (.slice r.A r.n r.c) rfl
        have f0 := hb2.cell 0 (.string s.nm) rfl
        have f1 := hb2.cell 1 (.int .i64 s.k) rfl
        have f2 := hb2.cell 2 (.int .i64 s.u) rfl
        have f3 := hb2.cell 3 (.slice s.A s.n s.c) rfl
        have HW2 := Lib.hid hW2
        clear hW2 hb1 hb2
        clear hcs hcs' hr hs hlq hlq' hmem hmem' hru hru' hLr hLr' h1000 hsv h2 hB2
        go_upto_region 7 with fail
        rw [HW2.out]
        go_wp2_with fail
        refine (HCL.out _ HB2.out).mono ?_
        rintro x w3 ⟨rfl, hB3⟩
        have HB3 := Lib.hid (HI.out.1.trans ((HB2.out.trans (hB3.mono HB2.out.size)).mono HI.out.1.size))
        clear hB3
        cases sv with
        | true =>
          go_wp2
          exact ⟨⟨q + 1, by omega, by go_num, Lib.hid ⟨HB3.out, by rw [HTK.out, HTK'.out, HI.out.2, HSV.out.1 (by first | rfl | trivial)]⟩⟩, by simp [intOf]; omega⟩
        | false =>
          go_wp2
          go_ret
          refine ⟨⟨false, rfl, fun h => by (cases h), fun h => ?_⟩, HB3.out⟩
          have := HGT.out.1
          rw [h, HGT.out.2] at this
          exact by simpa using HSV.out.2 (Option.some.inj this).symm
      · obtain rfl : q = n := by omega
        have htk : l.take q = l := List.take_of_length_le (by rw [HNL.out]; exact Nat.le_refl _)
        have htk' : l'.take q = l' := List.take_of_length_le (by rw [HML.out]; exact Nat.le_refl _)
        have HTK := Lib.hid (And.intro htk htk')
        clear htk htk'
        go_wp2
        go_ret
        exact ⟨⟨true, rfl, fun _ => by have := HI.out.2; rw [HTK.out.1, HTK.out.2] at this; exact this, fun _ => rfl⟩, HI.out.1⟩
  · have hne : ¬ (n : Int) = (m : Int) := by omega
    have HD := Lib.hid (show ¬ l.map RL.val = l'.map RL.val from fun e => hnm (by have := congrArg List.length e; rw [List.length_map, List.length_map, HNL.out, HML.out] at this; exact this))
    go_enter Tryz.func24, Tryz.ntmps24
    go_wp2
    go_ret
    exact ⟨⟨false, rfl, fun h => by (cases h), fun h => absurd h HD.out⟩, Below.refl _ _⟩
set_option maxRecDepth 100000 in
set_option maxHeartbeats 8000000 in
theorem same_any (k u k' u' : Int) (x x' : Bool) (A A' : Option Addr) (l l' : List RL) (c c' : Nat) (w : World) (hl : RlL w A l) (hl' : RlL w A' l') (hn : l.length ≤ 1000000) (h12 : ∀ e ∈ l, e.n ≤ 100000) :
    Calls Tryz.prog 12 #[.agg (polA k u x A l.length c), .agg (polA k' u' x' A' l'.length c')] w fun e w' => (∃ b, e = .returned (.bool b) ∧ (b = true ↔ k = k' ∧ u = u' ∧ x = x' ∧ l.map RL.val = l'.map RL.val)) ∧ Below w.heap.size w w' := by
  obtain ⟨W0, hW0⟩ : ∃ W, (w.alloc (.cells (polA k u x A l.length c) 31)).alloc (.cells (polA k' u' x' A' l'.length c') 31) = W := ⟨_, rfl⟩
  have hB0 : Below w.heap.size w W0 := by rw [← hW0]; exact ((Below.refl _ _).alloc (Nat.le_refl _) _).alloc (by simp) _
  have hP0 : RowC W0 w.heap.size (polA k u x A l.length c) 31 := by rw [← hW0]; exact (RowC.new _ _ _ _ rfl).alloc _
  have hQ0 : RowC W0 (w.heap.size + 1) (polA k' u' x' A' l'.length c') 31 := by rw [← hW0]; exact RowC.new _ _ _ _ (by simp)
  have HEQ := Lib.hid (equalRules_any A A' l l' c c' W0 (hl.below hB0 (Nat.le_refl _)) (hl'.below hB0 (Nat.le_refl _)) hn h12)
  have p0 := hP0.cell 0 (.int .i64 k) rfl
  have p1 := hP0.cell 1 (.int .i64 u) rfl
  have p2 := hP0.cell 2 (.bool x) rfl
  have p3 := hP0.cell 3 (.slice A l.length c) rfl
  have r0 := hQ0.cell 0 (.int .i64 k') rfl
  have r1 := hQ0.cell 1 (.int .i64 u') rfl
  have r2 := hQ0.cell 2 (.bool x') rfl
  have r3 := hQ0.cell 3 (.slice A' l'.length c') rfl
  have HB0 := Lib.hid hB0
  have HW := Lib.hid hW0
  clear hl hl' hW0 hB0 hP0 hQ0 hn h12
  rcases act_cases k u k' u' with ⟨h1, h2⟩ | h | ⟨h1, h⟩
  · subst h1 h2
    rcases hx : (x == x') with _ | _
    · have HX := Lib.hid hx
      go_enter Tryz.func12, Tryz.ntmps12
      go_upto_region 1 with fail
      rw [HW.out]
      go_wp2
      go_ret
      exact ⟨⟨false, rfl, fun h => by (cases h), fun h => by have := HX.out; rw [h.2.2.1] at this; simp at this⟩, HB0.out⟩
    · have HX := Lib.hid hx
      go_enter Tryz.func12, Tryz.ntmps12
      go_upto_region 1 with fail
      rw [HW.out]
      go_wp2_with fail
      refine HEQ.out.mono ?_
      rintro e w2 ⟨⟨b, rfl, hb⟩, hB2⟩
      go_wp2
      go_ret
      exact ⟨⟨b, rfl, fun h => ⟨by first | rfl | trivial, by first | rfl | trivial, by simpa using HX.out, hb.1 h⟩, fun h => hb.2 h.2.2.2⟩, HB0.out.trans (hB2.mono HB0.out.size)⟩
  · have HX := Lib.hid h
    go_enter Tryz.func12, Tryz.ntmps12
    go_upto_region 1 with fail
    rw [HW.out]
    go_wp2
    go_ret
    exact ⟨⟨false, rfl, fun h => by (cases h), fun h => by have := HX.out; rw [h.1] at this; simp at this⟩, HB0.out⟩
  · subst h1
    have HX := Lib.hid h
    go_enter Tryz.func12, Tryz.ntmps12
    go_upto_region 1 with fail
    rw [HW.out]
    go_wp2
    go_ret
    exact ⟨⟨false, rfl, fun h => by (cases h), fun h => by have := HX.out; rw [h.2.1] at this; simp at this⟩, HB0.out⟩
end Go.Proofs.YtlpcallgkciklaaGreatDoor

/-
  Layer 14: the laws' own told: is a policy of the program the document's?
-/
namespace Go.Proofs.YtlpcallgkciklaaGreatDoor
open Go.RowKit Go.Shelf
set_option linter.unusedVariables false

theorem RowC.next {w : World} {cs : Array Value} {T : TypeId} {o : Obj} : RowC ((w.alloc o).alloc (.cells cs T)) (w.heap.size + 1) cs T := RowC.new _ _ _ _ (by simp)
theorem bel_two {w : World} {o o' : Obj} : Below w.heap.size w ((w.alloc o).alloc o').drew := (((Below.refl _ w).alloc (Nat.le_refl _) _).alloc (by simp) _).drew
/-- All fields are the same. -/
def TP (k u k' u' : Int) (x x' : Bool) (l : List RL) (n : Nat) (R : Nat → RL) : Prop := k = k' ∧ u = u' ∧ x = x' ∧ l.map RL.val = (List.range n).map fun i => (R i).val
/-- The answer tells whether P. -/
def Tells (e : Ending) (P : Prop) : Prop := ∃ b, e = .returned (.bool b) ∧ (b = true ↔ P)
theorem tells_no {P : Prop} (h : ¬ P) {e : Ending} (he : e = .returned (.bool false)) : Tells e P := ⟨false, he, by simp [h]⟩
theorem tells_yes {P : Prop} (h : P) {e : Ending} (he : e = .returned (.bool true)) : Tells e P := ⟨true, he, by simp [h]⟩
set_option maxRecDepth 100000 in
set_option maxHeartbeats 16000000 in
theorem told14_any (k u k' u' : Int) (x x' : Bool) (A A' : Option Addr) (l : List RL) (c n c' : Nat) (R : Nat → RL) (w : World) (hl : RlL w A l) (hln : l.length ≤ 1000000) (hn : n ≤ 100) (h12 : ∀ i, i < n → (R i).n ≤ 12) (hR : RlA w A' n R) :
    Calls Tryz.prog 13 #[.agg (polA k u x A l.length c), .agg (polA k' u' x' A' n c')] w fun e w' => Tells e (TP k u k' u' x x' l n R) ∧ Below w.heap.size w w' := by
  obtain ⟨B, hBs⟩ : ∃ B, w.heap.size = B := ⟨_, rfl⟩
  obtain ⟨W0, hW0⟩ : ∃ W, (w.alloc (.cells (polA k u x A l.length c) 31)).alloc (.cells (polA k' u' x' A' n c') 26) = W := ⟨_, rfl⟩
  have hs0 : W0.heap.size = B + 2 := by rw [← hW0, ← hBs]; simp
  have hB0 : Below B w W0 := by rw [← hW0, ← hBs]; exact ((Below.refl _ _).alloc (Nat.le_refl _) _).alloc (by simp) _
  have hP0 : RowC W0 B (polA k u x A l.length c) 31 := by rw [← hW0, ← hBs]; exact (RowC.new _ _ _ _ rfl).alloc _
  have hQ0 : RowC W0 (B + 1) (polA k' u' x' A' n c') 26 := by rw [← hW0, ← hBs]; exact RowC.new _ _ _ _ (by simp)
  have HOF := Lib.hid (of14_any k' u' x' A' n c' R W0 hn h12 (hR.below hB0 (by rw [hBs]; exact Nat.le_refl _)))
  have HL0 := Lib.hid (hl.below hB0 (by rw [hBs]; exact Nat.le_refl _))
  have HP0 := Lib.hid hP0
  have HB0 := Lib.hid hB0
  have HW := Lib.hid hW0
  have HBS := Lib.hid (And.intro hBs hs0)
  have q0 := hQ0.cell 0 (.int .i64 k') rfl
  have q1 := hQ0.cell 1 (.int .i64 u') rfl
  have q2 := hQ0.cell 2 (.bool x') rfl
  have q3 := hQ0.cell 3 (.slice A' n c') rfl
  obtain ⟨ln, hln'⟩ : ∃ ln, l.length = ln := ⟨_, rfl⟩
  have HLN := Lib.hid hln'
  rw [hln'] at hln HW HP0 ⊢
  clear hl hR hW0 hP0 hQ0 hB0 hBs hs0 h12 hln'
  go_enter Tryz.func13, Tryz.ntmps13
  go_upto_region 1 with fail
  (try rw [HBS.out.1])
  (try rw [HW.out])
  go_wp2_with fail
  refine HOF.out.mono ?_
  rintro e w1 ⟨A5, c5, l5, rfl, hl5, hrow5, hv5, hB1⟩
  obtain ⟨X, hX⟩ : ∃ X, w1.heap.size = X := ⟨_, rfl⟩
  obtain ⟨W1, hW1⟩ : ∃ W, w1.alloc (.cells (polA k' u' x' A5 n c5) 31) = W := ⟨_, rfl⟩
  have hB11 : Below X w1 W1 := by rw [← hW1, ← hX]; exact (Below.refl _ _).alloc (Nat.le_refl _) _
  have hB01 : Below (B + 2) W0 W1 := by rw [← HBS.out.2]; exact hB1.trans (hB11.mono (by have := hB1.size; omega))
  have hX1 : RowC W1 X (polA k' u' x' A5 n c5) 31 := by rw [← hW1, ← hX]; exact RowC.new _ _ _ _ rfl
  have hP1 := HP0.out.below hB01 (by omega)
  have HB01 := Lib.hid hB01
  have HP1 := Lib.hid hP1
  have HX1 := Lib.hid hX1
  have HL1 := Lib.hid (HL0.out.below hB01 (by rw [HBS.out.2]; exact Nat.le_refl _))
  have HR5 := Lib.hid (hrow5.rl.below hB11 (by rw [hX]; exact Nat.le_refl _))
  have HL5 := Lib.hid (And.intro hl5 hv5)
  have HW1 := Lib.hid hW1
  have p0 := hP1.cell 0 (.int .i64 k) rfl
  have p1 := hP1.cell 1 (.int .i64 u) rfl
  have p2 := hP1.cell 2 (.bool x) rfl
  have p3 := hP1.cell 3 (.slice A ln c) rfl
  have x0 := hX1.cell 0 (.int .i64 k') rfl
  have x1 := hX1.cell 1 (.int .i64 u') rfl
  have x2 := hX1.cell 2 (.bool x') rfl
  have x3 := hX1.cell 3 (.slice A5 n c5) rfl
  have HXS := Lib.hid hX
  clear hl5 hrow5 hv5 hB1 hB11 hB01 hX1 hP1 hW1 q0 q1 q2 q3
  go_upto_region 2 with fail
  (try rw [hX])
  (try rw [HW1.out])
  clear hX
  rcases act_cases k u k' u' with ⟨h1, h2⟩ | h | ⟨h1, h⟩
  · subst h1 h2
    rcases hx : (x == x') with _ | _
    · have HXX := Lib.hid hx
      go_wp2
      go_ret
      exact ⟨tells_no (fun ht => by have h := HXX.out; rw [ht.2.2.1] at h; simp at h) rfl, by rw [HBS.out.1]; exact HB0.out.trans (HB01.out.mono (by omega))⟩
    · obtain rfl : x = x' := by simpa using hx
      clear hx
      by_cases hlen : ln = n
      · subst hlen
        have d1 : ((ln : Int) != (ln : Int)) = false := by simp
        go_wp2
        go_loopw [6] (fun iv wr => ∃ q : Nat, q ≤ ln ∧ iv = .int .i64 q ∧ Hid (Below W1.heap.size W1 wr ∧ (l.take q).map RL.val = (l5.take q).map RL.val)) (fun iv _ => ln - (intOf iv).toNat)
        case atStart => exact ⟨0, Nat.zero_le _, rfl, Lib.hid ⟨Below.refl _ _, rfl⟩⟩
        case round =>
          obtain ⟨q, hq, rfl, HI⟩ := hrel
          have hXq := HX1.out.below HI.out.1 HX1.out.lt
          have hPq := HP1.out.below HI.out.1 HP1.out.lt
          have y3 := hXq.cell 3 (.slice A5 ln c5) rfl
          by_cases hlt : q < ln
          · have hlq : q < l.length := by rw [HLN.out]; exact hlt
            have hlq' : q < l5.length := by rw [HL5.out.1]; exact hlt
            have hmem : l[q]! ∈ l := by rw [getElem!_pos l q hlq]; exact List.getElem_mem hlq
            have hmem' : l5[q]! ∈ l5 := by rw [getElem!_pos l5 q hlq']; exact List.getElem_mem hlq'
            have hLr := HL1.out.below HI.out.1 (Nat.le_refl _)
            have hLr' := HR5.out.below HI.out.1 (Nat.le_refl _)
            have hru := hLr.2 _ hmem
            have hru' := hLr'.2 _ hmem'
            rcases hLr.1 with h0 | ⟨bb, o, rfl, hbl, hcs⟩
            · rw [h0] at hlq; exact absurd hlq (Nat.not_lt_zero _)
            rcases hLr'.1 with h0 | ⟨bb', o', rfl, hbl', hcs'⟩
            · rw [h0] at hlq'; exact absurd hlq' (Nat.not_lt_zero _)
            obtain ⟨q0, q1, q2, q3⟩ := hcs q hlq
            obtain ⟨k0, k1, k2, k3⟩ := hcs' q hlq'
            obtain ⟨r, hr⟩ : ∃ r, l[q]! = r := ⟨_, rfl⟩
            obtain ⟨s, hs⟩ : ∃ s, l5[q]! = s := ⟨_, rfl⟩
            rw [hr] at q0 q1 q2 q3 hru
            rw [hs] at k0 k1 k2 k3 hru'
            rw [Nat.add_zero] at q0 k0
            have HTK := Lib.hid (show (l.take (q + 1)).map RL.val = (l.take q).map RL.val ++ [r.val] by rw [List.take_add_one, List.getElem?_eq_getElem hlq, List.map_append, ← hr, getElem!_pos l q hlq]; rfl)
            have HTK' := Lib.hid (show (l5.take (q + 1)).map RL.val = (l5.take q).map RL.val ++ [s.val] by rw [List.take_add_one, List.getElem?_eq_getElem hlq', List.map_append, ← hs, getElem!_pos l5 q hlq']; rfl)
            have HGT := Lib.hid (show r.val ≠ s.val → ¬ l.map RL.val = l5.map RL.val from fun hne he => by
              have h1 := congrArg (fun z => z[q]?) he
              simp only [List.getElem?_map, List.getElem?_eq_getElem hlq, List.getElem?_eq_getElem hlq', Option.map_some] at h1
              rw [← getElem!_pos l q hlq, ← getElem!_pos l5 q hlq', hr, hs] at h1
              exact hne (Option.some.inj h1))
            have HCA := Lib.hid hru.2.2.2.2.2.conA
            have HCA' := Lib.hid hru'.2.2.2.2.2.conA
            have hcap : r.n ≤ 9223372036854775807 := by have h1 := hru.2.2.2.1; have h2 := hru.2.2.2.2.1; unfold maxLen at h2; omega
            have hcap' : s.n ≤ 9223372036854775807 := by have h1 := hru'.2.2.2.1; have h2 := hru'.2.2.2.2.1; unfold maxLen at h2; omega
            obtain ⟨an, ak, au, aA, aN, aC, aF⟩ := r
            obtain ⟨sn, sk, su, sA, sN, sC, sF⟩ := s
            simp only at q0 q1 q2 q3 k0 k1 k2 k3 hcap hcap' HCA HCA'
            have j1 : (q : Int) < (ln : Int) := by omega
            have j2 : (0 : Int) ≤ (q : Int) := by omega
            have g3 := hPq.cell 3 (.slice (some ⟨bb, o, none⟩) ln c) rfl
            have HPQ := Lib.hid hPq
            have HXQ := Lib.hid hXq
            have HSX : Hid (∀ Z, Below wr.heap.size wr Z → Z.cell? ⟨B, 3, none⟩ = some (.slice (some ⟨bb, o, none⟩) ln c) ∧ Z.cell? ⟨X, 3, none⟩ = some (.slice (some ⟨bb', o', none⟩) ln c5) ∧ Z.cell? ⟨bb, o + q * 4, none⟩ = some (.string an) ∧ Z.cell? ⟨bb, o + q * 4 + 1, none⟩ = some (.int .i64 ak) ∧ Z.cell? ⟨bb, o + q * 4 + 2, none⟩ = some (.int .i64 au) ∧ Z.cell? ⟨bb, o + q * 4 + 3, none⟩ = some (.slice aA aN aC) ∧
                Z.cell? ⟨bb', o' + q * 4, none⟩ = some (.string sn) ∧ Z.cell? ⟨bb', o' + q * 4 + 1, none⟩ = some (.int .i64 sk) ∧ Z.cell? ⟨bb', o' + q * 4 + 2, none⟩ = some (.int .i64 su) ∧ Z.cell? ⟨bb', o' + q * 4 + 3, none⟩ = some (.slice sA sN sC)) :=
              Lib.hid fun Z hZ => ⟨(HPQ.out.below hZ HPQ.out.lt).cell 3 _ rfl, (HXQ.out.below hZ HXQ.out.lt).cell 3 _ rfl, (hZ.cell (p := ⟨bb, o + q * 4, none⟩) hbl).trans q0, (hZ.cell (p := ⟨bb, o + q * 4 + 1, none⟩) hbl).trans q1, (hZ.cell (p := ⟨bb, o + q * 4 + 2, none⟩) hbl).trans q2, (hZ.cell (p := ⟨bb, o + q * 4 + 3, none⟩) hbl).trans q3,
                (hZ.cell (p := ⟨bb', o' + q * 4, none⟩) hbl').trans k0, (hZ.cell (p := ⟨bb', o' + q * 4 + 1, none⟩) hbl').trans k1, (hZ.cell (p := ⟨bb', o' + q * 4 + 2, none⟩) hbl').trans k2, (hZ.cell (p := ⟨bb', o' + q * 4 + 3, none⟩) hbl').trans k3⟩
            clear hcs hcs' hr hs hru hru' hmem hmem' hLr hLr' hXq hPq
            go_wp2_with fail
            go_cut [7, 8] from 40 to 49 (fun s t wx => ∃ rb sb, s = .pointer (some ⟨rb, 0, none⟩) ∧ t = .pointer (some ⟨sb, 0, none⟩) ∧ RowC wx rb (rulA an ak au aA aN aC) 58 ∧ RowC wx sb (rulA sn sk su sA sN sC) 58 ∧ Below wr.heap.size wr wx)
            case first =>
              rename_i J1 K1 hJ1 hK1
              go_region_held3 (fun w' => w'.cell? ⟨B, 3, none⟩ = some (.slice (some ⟨bb, o, none⟩) ln c) ∧ w'.cell? ⟨X, 3, none⟩ = some (.slice (some ⟨bb', o', none⟩) ln c5) ∧ w'.cell? ⟨bb, o + q * 4, none⟩ = some (.string an) ∧ w'.cell? ⟨bb, o + q * 4 + 1, none⟩ = some (.int .i64 ak) ∧ w'.cell? ⟨bb, o + q * 4 + 2, none⟩ = some (.int .i64 au) ∧ w'.cell? ⟨bb, o + q * 4 + 3, none⟩ = some (.slice aA aN aC) ∧
                w'.cell? ⟨bb', o' + q * 4, none⟩ = some (.string sn) ∧ w'.cell? ⟨bb', o' + q * 4 + 1, none⟩ = some (.int .i64 sk) ∧ w'.cell? ⟨bb', o' + q * 4 + 2, none⟩ = some (.int .i64 su) ∧ w'.cell? ⟨bb', o' + q * 4 + 3, none⟩ = some (.slice sA sN sC))
                (exact HSX.out _ (by repeat (first | exact Below.refl _ _ | refine Below.drew ?_ | refine Below.alloc ?_ (by simp) _ | refine Below.setCell ?_ (by simp) _)))
                (fail)
              all_goals
                refine hK1 _ _ (Met.intro (hJ1 _ _ ?_))
                repeat apply Exists.intro
                refine ⟨?_, rfl⟩
                first
                  | exact ⟨wr.heap.size, wr.heap.size + 1, rfl, rfl, (RowC.new wr (rulA an ak au aA aN aC) _ _ rfl).alloc _, RowC.next, bel_two⟩
                  | exact ⟨wr.heap.size + 1, wr.heap.size, rfl, rfl, RowC.next, (RowC.new wr (rulA sn sk su sA sN sC) _ _ rfl).alloc _, bel_two⟩
            case rest =>
              obtain ⟨rb, sb, rfl, rfl, hRb, hSb, hBx⟩ := hcut
              have HRB := Lib.hid hRb
              have HSB := Lib.hid hSb
              have HBX := Lib.hid hBx
              have HSV := Lib.hid (sameV_iff (⟨an, ak, au, aA, aN, aC, aF⟩ : RL).val (⟨sn, sk, su, sA, sN, sC, sF⟩ : RL).val)
              have HSW := Lib.hid (show sameV (⟨an, ak, au, aA, aN, aC, aF⟩ : RL).val (⟨sn, sk, su, sA, sN, sC, sF⟩ : RL).val = ((an.toList == sn.toList) && ((ak == sk) && (au == su)) && decide ((List.range aN).map aF = (List.range sN).map sF)) from rfl)
              have HBW := Lib.hid (show Below w.heap.size w wr from by rw [HBS.out.1]; exact (HB0.out.trans (HB01.out.mono (by omega))).trans (HI.out.1.mono (by have := HB01.out.size; have := HBS.out.2; omega)))
              have HNO := Lib.hid (show sameV (⟨an, ak, au, aA, aN, aC, aF⟩ : RL).val (⟨sn, sk, su, sA, sN, sC, sF⟩ : RL).val = false → ¬ TP k u k u x x l ln R from fun hf ht => HGT.out (fun e => by rw [HSV.out.2 e] at hf; cases hf) (ht.2.2.2.trans HL5.out.2.symm))
              have a0 := hRb.cell 0 (.string an) rfl
              have a1 := hRb.cell 1 (.int .i64 ak) rfl
              have a2 := hRb.cell 2 (.int .i64 au) rfl
              have a3 := hRb.cell 3 (.slice aA aN aC) rfl
              have b0 := hSb.cell 0 (.string sn) rfl
              have b1 := hSb.cell 1 (.int .i64 sk) rfl
              have b2 := hSb.cell 2 (.int .i64 su) rfl
              have b3 := hSb.cell 3 (.slice sA sN sC) rfl
              clear hRb hSb q0 q1 q2 q3 k0 k1 k2 k3 g3 y3
              have hbz := hBx
              clear hBx
              rcases hnm : (an.toList == sn.toList) with _ | _
              · rw [hnm] at HSW
                go_wp2
                go_ret
                exact ⟨tells_no (HNO.out (by rw [HSW.out]; rfl)) rfl, HBW.out.trans (hbz.mono HBW.out.size)⟩
              · rw [hnm] at HSW
                rcases act_cases ak au sk su with ⟨h1, h2⟩ | h | ⟨h1, h⟩
                · subst h1 h2
                  by_cases hlen : aN = sN
                  · subst hlen
                    have d1 : ((aN : Int) != (aN : Int)) = false := by simp
                    have HSW := Lib.hid (HSW.out.trans (by simp : _ = decide ((List.range aN).map aF = (List.range aN).map sF)))
                    have HSV2 := Lib.hid HSV.out
                    obtain ⟨wz, rfl⟩ : ∃ z, z = wr := ⟨_, rfl⟩
                    go_wp2
                    go_loopw [9] (fun iv wy => ∃ p : Nat, p ≤ aN ∧ iv = .int .i64 p ∧ Hid (Below wz.heap.size wz wy ∧ RowC wy rb (rulA an ak au aA aN aC) 58 ∧ RowC wy sb (rulA sn ak au sA aN sC) 58 ∧ ∀ j, j < p → aF j = sF j)) (fun iv _ => aN - (intOf iv).toNat)
                    case atStart => exact ⟨0, Nat.zero_le _, rfl, Lib.hid ⟨hbz, HRB.out, HSB.out, fun j hj => absurd hj (Nat.not_lt_zero _)⟩⟩
                    case round =>
                      obtain ⟨p, hp, rfl, HJ⟩ := hrel
                      have e3 := HJ.out.2.1.cell 3 (.slice aA aN aC) rfl
                      have t3 := HJ.out.2.2.1.cell 3 (.slice sA aN sC) rfl
                      by_cases hlp : p < aN
                      · obtain ⟨xx, hxx⟩ : ∃ z, aF p = z := ⟨_, rfl⟩
                        obtain ⟨yy, hyy⟩ : ∃ z, sF p = z := ⟨_, rfl⟩
                        obtain ⟨ab, ao, rfl, c0, c1, c2, c3⟩ := (HCA.out.below HJ.out.1 (Nat.le_refl _)).four hlp hxx
                        obtain ⟨tb, to', rfl, d0, d1', d2, d3⟩ := (HCA'.out.below HJ.out.1 (Nat.le_refl _)).four hlp hyy
                        have HXY := Lib.hid (And.intro hxx hyy)
                        have m1 : (0 : Int) ≤ (p : Int) := by omega
                        have m2 : (p : Int) < (aN : Int) := by omega
                        clear hxx hyy
                        by_cases he : xx = yy
                        · subst he
                          obtain ⟨z1, z2, z3, z4⟩ := xx
                          simp only at c0 c1 c2 c3 d0 d1' d2 d3
                          go_wp2_with fail
                          go_quiet (fail)
                          go_wp2
                          exact ⟨⟨p + 1, by omega, by go_num, Lib.hid ⟨bdn HJ.out.1 nq, HJ.out.2.1, HJ.out.2.2.1, fun j hj => by
                            by_cases e : j = p
                            · subst e; rw [HXY.out.1, HXY.out.2]
                            · exact HJ.out.2.2.2 j (by omega)⟩⟩, by simp [intOf]; omega⟩
                        · have hcs := cd_cases xx yy
                          have HNE := Lib.hid he
                          rcases hcs with h | h | ⟨h', h⟩ | ⟨h', h'', h⟩ | ⟨h', h'', h''', h⟩
                          · exact absurd h he
                          all_goals
                            obtain ⟨z1, z2, z3, z4⟩ := xx
                            obtain ⟨v1, v2, v3, v4⟩ := yy
                            simp only at c0 c1 c2 c3 d0 d1' d2 d3
                            simp only at h
                            (try simp only at h')
                            (try simp only at h'')
                            (try simp only at h''')
                            (try subst h')
                            (try subst h'')
                            (try subst h''')
                            clear he
                            go_wp2_with fail
                            go_quiet (fail)
                            go_wp2
                            go_ret
                            exact ⟨tells_no (HNO.out (by rw [HSW.out, decide_eq_false (range_ne hlp (by rw [HXY.out.1, HXY.out.2]; exact HNE.out))])) rfl, HBW.out.trans ((bdn HJ.out.1 nq).mono HBW.out.size)⟩
                      · obtain rfl : p = aN := by omega
                        have m2 : ¬ (p : Int) < (p : Int) := by omega
                        have HEQ := Lib.hid (show (⟨an, ak, au, aA, p, aC, aF⟩ : RL).val = (⟨sn, ak, au, sA, p, sC, sF⟩ : RL).val from HSV2.out.1 (by rw [HSW.out, decide_eq_true (List.map_congr_left fun j hj => HJ.out.2.2.2 j (List.mem_range.1 hj))]))
                        go_wp2
                        exact ⟨⟨q + 1, by omega, by go_num, Lib.hid ⟨HI.out.1.trans (HJ.out.1.mono HI.out.1.size), by rw [HTK.out, HTK'.out, HI.out.2, HEQ.out]⟩⟩, by simp [intOf]; omega⟩
                  · have d1 : ((aN : Int) != (sN : Int)) = true := by simp; omega
                    have HNE := Lib.hid hlen
                    clear hlen
                    go_wp2
                    go_ret
                    exact ⟨tells_no (HNO.out (by rw [HSW.out, decide_eq_false (fun e => HNE.out (by simpa using congrArg List.length e))]; simp)) rfl, HBW.out.trans (hbz.mono HBW.out.size)⟩
                · rw [h] at HSW
                  go_wp2
                  go_ret
                  exact ⟨tells_no (HNO.out (by rw [HSW.out]; simp)) rfl, HBW.out.trans (hbz.mono HBW.out.size)⟩
                · subst h1
                  rw [h] at HSW
                  go_wp2
                  go_ret
                  exact ⟨tells_no (HNO.out (by rw [HSW.out]; simp)) rfl, HBW.out.trans (hbz.mono HBW.out.size)⟩
          · obtain rfl : q = ln := by omega
            have j1 : ¬ (q : Int) < (q : Int) := by omega
            go_wp2
            go_ret
            refine ⟨tells_yes ⟨rfl, rfl, rfl, ?_⟩ rfl, by rw [HBS.out.1]; exact (HB0.out.trans (HB01.out.mono (by omega))).trans (HI.out.1.mono (by have := HB01.out.size; have := HBS.out.2; omega))⟩
            have h := HI.out.2
            rw [List.take_of_length_le (by rw [HLN.out]; exact Nat.le_refl _), List.take_of_length_le (by rw [HL5.out.1]; exact Nat.le_refl _)] at h
            exact h.trans HL5.out.2
      · have d1 : ((ln : Int) != (n : Int)) = true := by simp; omega
        have HNE := Lib.hid hlen
        clear hlen
        go_wp2
        go_ret
        exact ⟨tells_no (fun ht => by have h := congrArg List.length ht.2.2.2; simp [HLN.out] at h; exact HNE.out h) rfl, by rw [HBS.out.1]; exact HB0.out.trans (HB01.out.mono (by omega))⟩
  · have HN := Lib.hid h
    go_wp2
    go_ret
    exact ⟨tells_no (fun ht => by have h := HN.out; rw [ht.1] at h; simp at h) rfl, by rw [HBS.out.1]; exact HB0.out.trans (HB01.out.mono (by omega))⟩
  · subst h1
    have HN := Lib.hid h
    go_wp2
    go_ret
    exact ⟨tells_no (fun ht => by have h := HN.out; rw [ht.2.1] at h; simp at h) rfl, by rw [HBS.out.1]; exact HB0.out.trans (HB01.out.mono (by omega))⟩
end Go.Proofs.YtlpcallgkciklaaGreatDoor
