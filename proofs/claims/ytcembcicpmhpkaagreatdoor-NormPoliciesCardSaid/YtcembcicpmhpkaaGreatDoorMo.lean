/-
  Layer 16: the document's own order of conditions, its insertion (once), its comparison of two rows.
-/
import Derived.Test.YtcembcicpmhpkaaGreatDoorRn
import Derived.Test.YtcembcicpmhpkaaGreatDoorMk
import Derived.RegionTactic
import Derived.Deep.Cut
import Derived.Deep.CutRange
namespace Go.Proofs.YtcembcicpmhpkaaGreatDoor
open Go.RowKit Go.Shelf
set_option linter.unusedVariables false

def aheadB (x y : CD) : Bool := if (x.a != y.a) = true then decide (x.a < y.a) else if (x.o != y.o) = true then decide (x.o < y.o) else if ((x.m : Int) != (y.m : Int)) = true then decide ((x.m : Int) < (y.m : Int)) else decide ((x.v : Int) < (y.v : Int))
theorem aheadB_eq (x y : CD) : aheadB x y = decide (ltD x y) := by
  unfold aheadB
  by_cases h1 : x.a = y.a
  · by_cases h2 : x.o = y.o
    · by_cases h3 : x.m = y.m
      · rw [if_neg (by simp [h1]), if_neg (by simp [h2]), if_neg (by simp [h3])]
        exact decide_eq_decide.2 (by unfold ltD; omega)
      · rw [if_neg (by simp [h1]), if_neg (by simp [h2]), if_pos (by rw [bne_iff_ne]; omega)]
        exact decide_eq_decide.2 (by unfold ltD; omega)
    · rw [if_neg (by simp [h1]), if_pos (by simp [h2])]
      exact decide_eq_decide.2 (by unfold ltD; omega)
  · rw [if_pos (by simp [h1])]
    exact decide_eq_decide.2 (by unfold ltD; omega)
theorem insD_put (x : CD) : ∀ (M : List CD) (k : Nat), k ≤ M.length → (∀ j, j < k → ltD M[j]! x) → (k < M.length → ¬ ltD M[k]! x) →
    insD x M = if M[k]? = some x then M else M.take k ++ x :: M.drop k
  | [], k, hk, _, _ => by
    have : k = 0 := by simpa using hk
    subst this
    simp [insD]
  | d :: t, 0, _, _, h => by
    have hd : ¬ ltD d x := h (by simp)
    unfold insD
    by_cases e : x = d
    · subst e; simp
    · rw [if_neg e, if_pos (ltD_total (fun e' => e e'.symm) hd), if_neg (by simp only [List.getElem?_cons_zero, Option.some.injEq]; exact fun e' => e e'.symm)]
      rfl
  | d :: t, k + 1, hk, hl, h => by
    have hd : ltD d x := hl 0 (Nat.succ_pos _)
    have ih := insD_put x t k (by simpa using hk) (fun j hj => by have := hl (j + 1) (by omega); simpa using this) (fun hkl => by have := h (by simpa using hkl); simpa using this)
    unfold insD
    rw [if_neg (fun e => ltD_irr x (by rw [← e] at hd; exact hd)), if_neg (ltD_asym _ _ hd), ih]
    simp only [List.getElem?_cons_succ, List.take_succ_cons, List.drop_succ_cons]
    split <;> simp
set_option maxRecDepth 100000 in
set_option maxHeartbeats 8000000 in
theorem ahead_any (x y : CD) (w : World) : Calls Tryz.prog 77 #[.agg #[.int .i64 x.a, .int .i64 x.o, .int .u64 x.m, .int .u64 x.v], .agg #[.int .i64 y.a, .int .i64 y.o, .int .u64 y.m, .int .u64 y.v]] w fun e w' => e = .returned (.bool (aheadB x y)) ∧ Below w.heap.size w w' := by
  obtain ⟨a1, o1, m1, v1⟩ := x
  obtain ⟨a2, o2, m2, v2⟩ := y
  unfold aheadB
  simp only
  obtain ⟨M1, hM1⟩ : ∃ M : Int, (m1 : Int) = M := ⟨_, rfl⟩
  obtain ⟨V1, hV1⟩ : ∃ M : Int, (v1 : Int) = M := ⟨_, rfl⟩
  obtain ⟨M2, hM2⟩ : ∃ M : Int, (m2 : Int) = M := ⟨_, rfl⟩
  obtain ⟨V2, hV2⟩ : ∃ M : Int, (v2 : Int) = M := ⟨_, rfl⟩
  rw [hM1, hV1, hM2, hV2]
  clear hM1 hV1 hM2 hV2
  have HB := Lib.hid (show Below w.heap.size w ((w.alloc (.cells #[.int .i64 a1, .int .i64 o1, .int .u64 M1, .int .u64 V1] 61)).alloc (.cells #[.int .i64 a2, .int .i64 o2, .int .u64 M2, .int .u64 V2] 61)) from ((Below.refl _ _).alloc (Nat.le_refl _) _).alloc (by simp) _)
  obtain ⟨b0, q0⟩ : ∃ b, (a1 != a2) = b := ⟨_, rfl⟩
  obtain ⟨b1, q1⟩ : ∃ b, (o1 != o2) = b := ⟨_, rfl⟩
  obtain ⟨b2, q2⟩ : ∃ b, (M1 != M2) = b := ⟨_, rfl⟩
  rw [q0, q1, q2]
  cases b0
  · cases b1
    · cases b2
      all_goals
        go_enter Tryz.func77, Tryz.ntmps77
        go_wp2
        go_ret
        exact ⟨rfl, HB.out⟩
    · go_enter Tryz.func77, Tryz.ntmps77
      go_wp2
      go_ret
      exact ⟨rfl, HB.out⟩
  · go_enter Tryz.func77, Tryz.ntmps77
    go_wp2
    go_ret
    exact ⟨rfl, HB.out⟩
set_option maxRecDepth 100000 in
set_option maxHeartbeats 8000000 in
theorem sameD_any (A A' : Option Addr) (n c m c' : Nat) (C C' : Nat → CD) (w : World) (hn : n ≤ 100000) (hA : ConA w A n C) (hA' : ConA w A' m C') :
    Calls Tryz.prog 49 #[.slice A n c, .slice A' m c'] w fun e w' => e = .returned (.bool (decide ((List.range n).map C = (List.range m).map C'))) ∧ Below w.heap.size w w' := by
  by_cases hnm : n = m
  · subst hnm
    have HA := Lib.hid hA
    have HA' := Lib.hid hA'
    clear hA hA'
    go_enter Tryz.func49, Tryz.ntmps49
    go_wp2
    go_loopw [5] (fun i wr => ∃ q : Nat, q ≤ n ∧ i = .int .i64 q ∧ Hid (Below w.heap.size w wr ∧ ∀ j, j < q → C j = C' j)) (fun i _ => n - (intOf i).toNat)
    case atStart => exact ⟨0, Nat.zero_le _, rfl, Lib.hid ⟨Below.refl _ _, fun j hj => absurd hj (Nat.not_lt_zero _)⟩⟩
    case round =>
      obtain ⟨q, hq, rfl, HI⟩ := hrel
      by_cases hlt : q < n
      · obtain ⟨x, hx⟩ : ∃ x, C q = x := ⟨_, rfl⟩
        obtain ⟨y, hy⟩ : ∃ y, C' q = y := ⟨_, rfl⟩
        obtain ⟨b, o, rfl, c0, c1, c2, c3⟩ := (HA.out.below HI.out.1 (Nat.le_refl _)).four hlt hx
        obtain ⟨b', o', rfl, d0, d1, d2, d3⟩ := (HA'.out.below HI.out.1 (Nat.le_refl _)).four hlt hy
        have HXY := Lib.hid (And.intro hx hy)
        clear hx hy
        have i1 : (0 : Int) ≤ (q : Int) := by omega
        have i2 : (q : Int) < (n : Int) := by omega
        by_cases he : x = y
        · subst he
          obtain ⟨a1, o1, m1, v1⟩ := x
          simp only at c0 c1 c2 c3 d0 d1 d2 d3
          go_wp2_with fail
          go_quiet (fail)
          go_wp2
          exact ⟨⟨q + 1, by omega, by go_num, Lib.hid ⟨bdn HI.out.1 nq, fun j hj => by
            by_cases e : j = q
            · subst e; rw [HXY.out.1, HXY.out.2]
            · exact HI.out.2 j (by omega)⟩⟩, by simp [intOf]; omega⟩
        · have hcs := cd_cases x y
          have HNE := Lib.hid he
          rcases hcs with h | h | ⟨h', h⟩ | ⟨h', h'', h⟩ | ⟨h', h'', h''', h⟩
          · exact absurd h he
          all_goals
            obtain ⟨a1, o1, m1, v1⟩ := x
            obtain ⟨a2, o2, m2, v2⟩ := y
            simp only at c0 c1 c2 c3 d0 d1 d2 d3
            simp only at h
            (try simp only at h')
            (try simp only at h'')
            (try simp only at h''')
            (try subst h')
            (try subst h'')
            (try subst h''')
            clear he
            go_wp2_with fail
            go_quiet (fail)
            go_wp2
            go_ret
            refine ⟨?_, bdn HI.out.1 nq⟩
            rw [decide_eq_false (range_ne hlt (by rw [HXY.out.1, HXY.out.2]; exact HNE.out))]
            rfl
      · obtain rfl : q = n := by omega
        go_wp2
        go_ret
        refine ⟨?_, HI.out.1⟩
        rw [decide_eq_true (List.map_congr_left fun j hj => HI.out.2 j (List.mem_range.1 hj))]
        rfl
  · have hne : ¬ (n : Int) = (m : Int) := by omega
    have hd : ¬ (List.range n).map C = (List.range m).map C' := fun e => hnm (by simpa using congrArg List.length e)
    have HD := Lib.hid hd
    clear hd hA hA'
    go_enter Tryz.func49, Tryz.ntmps49
    go_wp2
    go_ret
    refine ⟨?_, Below.refl _ _⟩
    rw [decide_eq_false HD.out]
    rfl
end Go.Proofs.YtcembcicpmhpkaaGreatDoor

/-
  Layer 16: the document's insertion of a condition among others, once.
-/
namespace Go.Proofs.YtcembcicpmhpkaaGreatDoor
open Go.RowKit Go.Shelf Go.Maps
set_option linter.unusedVariables false

/-- The call's own row of conditions, made or grown. -/
def OwC (w : World) (base : Nat) (A : Option Addr) (M : List CD) (c : Nat) : Prop := w.ownsRow base 61 4 (.slice A M.length c) M.length (M.flatMap crow)
theorem OwC.made (w : World) (base k : Nat) (hk : k = w.heap.size) (hb : base ≤ w.heap.size) : OwC (w.alloc (.cells #[] 61)) base (some ⟨k, 0, none⟩) [] 0 := by
  subst hk
  exact World.ownsRow_made w #[] 0 hb (by simp [maxLen]) rfl
theorem OwC.below {w w' : World} {base : Nat} {A : Option Addr} {M : List CD} {c B : Nat} (h : OwC w base A M c) (hb : Below B w w') (hB : w.heap.size ≤ B) : OwC w' base A M c := by
  obtain ⟨h1, h2⟩ := h
  refine ⟨h1, ?_⟩
  rcases h2 with h2 | ⟨gg, cap, cur, hv, hg, hh, r⟩
  · exact Or.inl h2
  · exact Or.inr ⟨gg, cap, cur, hv, hg, (hb.block gg (Nat.lt_of_lt_of_le (Array.getElem?_eq_some_iff.1 hh).1 hB)).trans hh, r⟩
theorem OwC.alloc {w : World} {base : Nat} {A : Option Addr} {M : List CD} {c : Nat} (h : OwC w base A M c) (o : Obj) : OwC (w.alloc o) base A M c := h.below ((Below.refl w.heap.size w).alloc (Nat.le_refl _) o) (Nat.le_refl _)
theorem OwC.drew {w : World} {base : Nat} {A : Option Addr} {M : List CD} {c : Nat} (h : OwC w base A M c) : OwC w.drew base A M c := h.below (B := w.heap.size) (Below.refl _ w).drew (Nat.le_refl _)
/-- Conditions that are to be appended. -/
def NewC (w : World) (A : Option Addr) (M : List CD) (d : Nat) : Prop := (A = none ∧ M = [] ∧ d = 0) ∨ ∃ ad, A = some ad ∧ ∀ j v, (M.flatMap crow)[j]? = some v → w.cell? (ad.add j) = some v
theorem NewC.one {w : World} {g1 d : Nat} {r : CD} (h : RowC w g1 (crow r).toArray 61) : NewC w (some ⟨g1, 0, none⟩) [r] d := .inr ⟨_, rfl, by simpa using World.news_of_block h⟩
theorem NewC.of {w : World} {b o d : Nat} {M : List CD} (h : ∀ i, i < M.length → w.cell? ⟨b, o + i * 4 + 0, none⟩ = some (.int .i64 M[i]!.a) ∧ w.cell? ⟨b, o + i * 4 + 1, none⟩ = some (.int .i64 M[i]!.o) ∧ w.cell? ⟨b, o + i * 4 + 2, none⟩ = some (.int .u64 M[i]!.m) ∧ w.cell? ⟨b, o + i * 4 + 3, none⟩ = some (.int .u64 M[i]!.v)) :
    NewC w (some ⟨b, o, none⟩) M d := by
  refine .inr ⟨_, rfl, fun j v hv => ?_⟩
  have hj : j < M.length * 4 := by
    rw [← flat_len crow (fun _ => rfl) M]
    exact (List.getElem?_eq_some_iff.1 hv).1
  obtain ⟨q, t, hq, ht, rfl⟩ : ∃ q t, q < M.length ∧ t < 4 ∧ j = q * 4 + t := ⟨j / 4, j % 4, by omega, by omega, by omega⟩
  rw [flat_at crow (fun _ => rfl) M q t hq ht] at hv
  rw [addR, ← Nat.add_assoc]
  obtain ⟨h0, h1, h2, h3⟩ := h q hq
  have : t = 0 ∨ t = 1 ∨ t = 2 ∨ t = 3 := by omega
  rcases this with rfl | rfl | rfl | rfl
  · exact h0.trans hv
  · exact h1.trans hv
  · exact h2.trans hv
  · exact h3.trans hv
theorem wp_condsE {w : World} {o : Oper} {a : Act} {K : Act → World → Prop} {Q : Exit → Act → World → Prop} (s x : Operand)
    (ho : o.op = .call { callee := .builtin .append, args := #[s, x], argTypes := #[45, 45] })
    {base c d : Nat} {A A5 : Option Addr} {M M5 : List CD} (hs : a.eval s = .slice A M.length c) (hown : OwC w base A M c) (hx : a.eval x = .slice A5 M5.length d) (h5 : NewC w A5 M5 d)
    (hn : M.length + M5.length ≤ 1000000) (hbase : base ≤ w.heap.size)
    (h : ∀ A' c' w', OwC w' base A' (M ++ M5) c' → w.grownBy w' (Value.slice A M.length c).ownBlock → Below base w w' → K (a.put o.dst (.slice A' (M ++ M5).length c')) w') : o.wp Tryz.prog a w K Q := by
  obtain ⟨i, hi, hz0, hsz, hby⟩ := info_parts infoC2E
  rcases h5 with ⟨rfl, rfl, rfl⟩ | ⟨ad, rfl, hnews⟩
  · have hrun := run_append_owned_none (P := Tryz.prog) (w := w) base 45 o.type 61 i 4 Tryz.underlying45 hi (.slice A M.length c) M.length _ hown
    have hK := h A c w (by rw [List.append_nil]; exact hown) (World.grownBy.refl _ _) (Below.refl _ _)
    rw [List.append_nil] at hK
    unfold Oper.wp execOp
    simp only [ho, resolve, invoke, builtin, Sem.run_bind, Sem.run_pure, Result.andThen_ok, List.map_toArray, List.map_cons, List.map_nil, hs, hx, List.length_nil, hrun]
    exact hK
  · obtain ⟨v', w', hr, h2, h3, _, _⟩ := run_append_own_at (P := Tryz.prog) w base 45 o.type 61 i _ 4 32 Tryz.underlying45 hi hz0 hsz hby (by rfl) (by decide) _ M.length _ hown ad M5.length d (M5.flatMap crow) (flat_len crow (fun _ => rfl) M5) hnews (flat_one crow crowL_one M5) (by unfold maxLen; omega) (by omega) hbase
    have hB : Below base w w' := (Below.refl _ _).grown h3 hbase (fun k hk => (hown.lt k hk).1)
    rcases ownsRow_parts h2 with ⟨A', c', rfl⟩
    have hK := h A' c' w' (by unfold OwC; rw [List.length_append, List.flatMap_append]; exact h2) h3 hB
    unfold Oper.wp execOp
    simp only [ho, resolve, invoke, builtin, Sem.run_bind, Sem.run_pure, Result.andThen_ok, List.map_toArray, List.map_cons, List.map_nil, hs, hx, hr]
    rw [List.length_append] at hK
    exact hK
theorem step_condsE {w : World} {ops : Array Oper} {o : Oper} {a : Act} {K : Act → World → Prop} {Q : Exit → Act → World → Prop} {R : Prop} (hgd : o.guard = none) (s x : Operand)
    (ho : o.op = .call { callee := .builtin .append, args := #[s, x], argTypes := #[45, 45] })
    {base c d : Nat} {A A5 : Option Addr} {M M5 : List CD} (hs : a.eval s = .slice A M.length c) (hown : OwC w base A M c) (hx : a.eval x = .slice A5 M5.length d) (h5 : NewC w A5 M5 d)
    (hn : M.length + M5.length ≤ 1000000) (hbase : base ≤ w.heap.size)
    (h : ∀ A' c' w', OwC w' base A' (M ++ M5) c' → w.grownBy w' (Value.slice A M.length c).ownBlock → Below base w w' → K (a.put o.dst (.slice A' (M ++ M5).length c')) w') :
    if Region.wanted o (yielded ops a.tmps) = true then Oper.wp Tryz.prog o a w K Q else R := by
  have hw : Region.wanted o (yielded ops a.tmps) = true := by simp [Region.wanted, hgd]
  rw [if_pos hw]
  exact wp_condsE s x ho hs hown hx h5 hn hbase h
theorem app_condsE {w : World} {ops : Array Oper} {rest : List Oper} {o : Oper} {a : Act} {Q : Exit → Act → World → Prop} (hgd : o.guard = none) (s x : Operand)
    (ho : o.op = .call { callee := .builtin .append, args := #[s, x], argTypes := #[45, 45] })
    {base c d : Nat} {A A5 : Option Addr} {M M5 : List CD} (hs : a.eval s = .slice A M.length c) (hown : OwC w base A M c) (hx : a.eval x = .slice A5 M5.length d) (h5 : NewC w A5 M5 d)
    (hn : M.length + M5.length ≤ 1000000) (hbase : base ≤ w.heap.size)
    (h : ∀ A' c' w', OwC w' base A' (M ++ M5) c' → w.grownBy w' (Value.slice A M.length c).ownBlock → Below base w w' → wpList Tryz.prog ops Q rest (a.put o.dst (.slice A' (M ++ M5).length c')) w') : wpList Tryz.prog ops Q (o :: rest) a w :=
  wpList_plain hgd fun _ hK => wp_condsE s x ho hs hown hx h5 hn hbase fun A' c' w' h2 h3 h4 => hK _ _ (h A' c' w' h2 h3 h4)
/-- A row of conditions that is read. -/
def RdF (w : World) (A : Option Addr) (M : List CD) (c : Nat) : Prop := ConE w A M.length (fun i => M[i]!) ∧ M.length ≤ c ∧ c ≤ maxLen ∧ (M = [] → A = none ∧ c = 0)
theorem RdF.below {w w' : World} {A : Option Addr} {M : List CD} {c B : Nat} (h : RdF w A M c) (hb : Below B w w') (hB : w.heap.size ≤ B) : RdF w' A M c := ⟨h.1.keep (KeepD.of_below hb hB), h.2⟩
theorem RdF.bd {w : World} {A : Option Addr} {M : List CD} {c : Nat} (h : RdF w A M c) : ∀ y ∈ M, y.m ≤ 18446744073709551615 ∧ y.v ≤ 18446744073709551615 := fun y hy => by
  obtain ⟨i, hi, rfl⟩ := List.mem_iff_getElem.1 hy
  rcases h.1 with h0 | ⟨_, _, _, _, _, _, hc⟩
  · omega
  · have := hc i hi
    simp only [getElem!_pos M i hi] at this
    exact ⟨this.2.2.2.2.1, this.2.2.2.2.2⟩
theorem RdF.nil_ (w : World) : RdF w none [] 0 := ⟨.inl rfl, Nat.le_refl _, by simp [maxLen], fun _ => ⟨rfl, rfl⟩⟩
theorem OwC.rd {w : World} {base : Nat} {A : Option Addr} {M : List CD} {c : Nat} (h : OwC w base A M c) (hM : M ≠ []) (hb : ∀ x ∈ M, x.m ≤ 18446744073709551615 ∧ x.v ≤ 18446744073709551615) : RdF w A M c := by
  obtain ⟨h1, h2, h3⟩ := RowF.conE (w := w) (base := base) (A := A) (M := M) (c := c) ⟨h, fun e => absurd e hM⟩ hb
  exact ⟨h1, h2, h3, fun e => absurd e hM⟩
theorem RdF.at_ {w : World} {A : Option Addr} {M : List CD} {c : Nat} (h : RdF w A M c) (hM : M ≠ []) : ∃ b o, A = some ⟨b, o, none⟩ ∧ b < w.heap.size ∧ ∀ i, i < M.length →
    w.cell? ⟨b, o + i * 4 + 0, none⟩ = some (.int .i64 M[i]!.a) ∧ w.cell? ⟨b, o + i * 4 + 1, none⟩ = some (.int .i64 M[i]!.o) ∧ w.cell? ⟨b, o + i * 4 + 2, none⟩ = some (.int .u64 M[i]!.m) ∧ w.cell? ⟨b, o + i * 4 + 3, none⟩ = some (.int .u64 M[i]!.v) := by
  rcases h.1.conA with h0 | ⟨b, o, rfl, hb, hc⟩
  · exact absurd (List.eq_nil_of_length_eq_zero h0) hM
  · exact ⟨b, o, rfl, hb, fun i hi => by obtain ⟨h0, h1, h2, h3, _⟩ := hc i hi; exact ⟨h0, h1, h2, h3⟩⟩
theorem take_news {w : World} {b o d : Nat} {M : List CD} (k : Nat) (h : ∀ i, i < M.length → w.cell? ⟨b, o + i * 4 + 0, none⟩ = some (.int .i64 M[i]!.a) ∧ w.cell? ⟨b, o + i * 4 + 1, none⟩ = some (.int .i64 M[i]!.o) ∧ w.cell? ⟨b, o + i * 4 + 2, none⟩ = some (.int .u64 M[i]!.m) ∧ w.cell? ⟨b, o + i * 4 + 3, none⟩ = some (.int .u64 M[i]!.v)) :
    NewC w (some ⟨b, o, none⟩) (M.take k) d := by
  refine NewC.of fun i hi => ?_
  have hi' : i < M.length := by rw [List.length_take] at hi; omega
  have e : (M.take k)[i]! = M[i]! := by rw [getElem!_pos (M.take k) i hi, getElem!_pos M i hi', List.getElem_take]
  rw [e]
  exact h i hi'
theorem drop_news {w : World} {b o d : Nat} {M : List CD} (k : Nat) (h : ∀ i, i < M.length → w.cell? ⟨b, o + i * 4 + 0, none⟩ = some (.int .i64 M[i]!.a) ∧ w.cell? ⟨b, o + i * 4 + 1, none⟩ = some (.int .i64 M[i]!.o) ∧ w.cell? ⟨b, o + i * 4 + 2, none⟩ = some (.int .u64 M[i]!.m) ∧ w.cell? ⟨b, o + i * 4 + 3, none⟩ = some (.int .u64 M[i]!.v)) :
    NewC w (some ⟨b, o + k * 4, none⟩) (M.drop k) d := by
  refine NewC.of fun i hi => ?_
  have hi' : k + i < M.length := by rw [List.length_drop] at hi; omega
  have e : (M.drop k)[i]! = M[k + i]! := by rw [getElem!_pos (M.drop k) i hi, getElem!_pos M (k + i) hi', List.getElem_drop]
  rw [e]
  have := h (k + i) hi'
  rw [Nat.add_mul, ← Nat.add_assoc] at this
  exact this
theorem rowc_drew' {w : World} {b : Nat} {cs : Array Value} {T : TypeId} (h : RowC w b cs T) : RowC w.drew b cs T := h
theorem rowc_grown' {w w' : World} {row : Option Nat} {b : Nat} {cs : Array Value} {T : TypeId} (hg : w.grownBy w' row) (h : RowC w b cs T) (hne : some b ≠ row) : RowC w' b cs T := (hg.block b h.lt hne).trans h
set_option maxRecDepth 100000 in
set_option maxHeartbeats 8000000 in
theorem put_some (b o c : Nat) (M : List CD) (x : CD) (w : World) (hM : RdF w (some ⟨b, o, none⟩) M c) (hne : M ≠ []) (hn : M.length ≤ 1000) (hx : x.m ≤ 18446744073709551615 ∧ x.v ≤ 18446744073709551615) :
    Calls Tryz.prog 48 #[.slice (some ⟨b, o, none⟩) M.length c, .agg #[.int .i64 x.a, .int .i64 x.o, .int .u64 x.m, .int .u64 x.v]] w fun e w' => ∃ A' c', e = .returned (.slice A' (insD x M).length c') ∧ RdF w' A' (insD x M) c' ∧ Below w.heap.size w w' := by
  obtain ⟨n, hnl⟩ : ∃ n, M.length = n := ⟨_, rfl⟩
  obtain ⟨bx, hbx⟩ : ∃ n, w.heap.size = n := ⟨_, rfl⟩
  obtain ⟨W0, hW0⟩ : ∃ W, w.alloc (.cells #[.int .i64 x.a, .int .i64 x.o, .int .u64 x.m, .int .u64 x.v] 61) = W := ⟨_, rfl⟩
  have hB0 : Below bx w W0 := by rw [← hW0, ← hbx]; exact (Below.refl _ _).alloc (Nat.le_refl _) _
  have hP0 : RowC W0 bx #[.int .i64 x.a, .int .i64 x.o, .int .u64 x.m, .int .u64 x.v] 61 := by rw [← hW0, ← hbx]; exact RowC.new _ _ _ _ rfl
  have hs0 : W0.heap.size = bx + 1 := by rw [← hW0, ← hbx]; simp
  have HM0 := Lib.hid hM
  have HM := Lib.hid (hM.below hB0 (by rw [hbx]; exact Nat.le_refl _))
  have HN := Lib.hid hnl
  have HX := Lib.hid hx
  have HB0 := Lib.hid hB0
  have HP0 := Lib.hid hP0
  have HS0 := Lib.hid hs0
  have HW := Lib.hid hW0
  have HBX := Lib.hid hbx
  have HNE := Lib.hid hne
  have hnc : n ≤ c := by rw [← hnl]; exact hM.2.1
  have hcm : c ≤ maxLen := hM.2.2.1
  rw [hnl] at hn ⊢
  clear hM hnl hx hB0 hP0 hs0 hW0 hbx hne
  go_enter Tryz.func48, Tryz.ntmps48
  go_upto_region 1 with fail
  rw [HW.out, HBX.out]
  go_wp2
  go_loopw [5] (fun i wr => ∃ q : Nat, q ≤ n ∧ i = .int .i64 q ∧ Hid (Below (bx + 1) W0 wr ∧ ∀ j, j < q → ltD M[j]! x)) (fun i _ => n - (intOf i).toNat)
  case atStart => exact ⟨0, Nat.zero_le _, rfl, Lib.hid ⟨Below.refl _ _, fun j hj => absurd hj (Nat.not_lt_zero _)⟩⟩
  case round =>
    obtain ⟨q, hq, rfl, HI⟩ := hrel
    by_cases hlt : q < n
    · obtain ⟨y, hy⟩ : ∃ y, M[q]! = y := ⟨_, rfl⟩
      obtain ⟨b', o', he, hbl, hcs⟩ := (HM.out.below HI.out.1 (by rw [HS0.out]; exact Nat.le_refl _)).at_ HNE.out
      obtain ⟨rfl, rfl⟩ : b = b' ∧ o = o' := by simpa using he
      obtain ⟨c0, c1, c2, c3⟩ := hcs q (by rw [HN.out]; exact hlt)
      rw [hy] at c0 c1 c2 c3
      rw [Nat.add_zero] at c0
      have hPr := HP0.out.below HI.out.1 (by omega)
      have d0 := hPr.cell 0 _ rfl
      have d1 := hPr.cell 1 _ rfl
      have d2 := hPr.cell 2 _ rfl
      have d3 := hPr.cell 3 _ rfl
      have HPr := Lib.hid hPr
      have HY := Lib.hid hy
      have HCS := Lib.hid hcs
      have HAH := Lib.hid fun X => ahead_any y x X
      rw [aheadB_eq] at HAH
      have i1 : (0 : Int) ≤ (q : Int) := by omega
      have i2 : (q : Int) < (n : Int) := by omega
      clear hy he hcs hPr hbl
      by_cases hlty : ltD y x
      · have HLT := Lib.hid hlty
        rw [decide_eq_true hlty] at HAH
        clear hlty
        go_upto_region 2 with fail
        go_region_law (go_simp; refine (HAH.out _).mono ?_; rintro e w2 ⟨rfl, hB2⟩)
        all_goals
          go_wp2
          exact ⟨⟨q + 1, by omega, by go_num, Lib.hid ⟨HI.out.1.drew.trans (hB2.mono (by have := HI.out.1.size; rw [HS0.out] at this; exact this)), fun j hj => by
            by_cases e : j = q
            · subst e; rw [HY.out]; exact HLT.out
            · exact HI.out.2 j (by omega)⟩⟩, by simp [intOf]; omega⟩
      · have HLT := Lib.hid hlty
        rw [decide_eq_false hlty] at HAH
        clear hlty
        go_upto_region 2 with fail
        go_region_law (go_simp; refine (HAH.out _).mono ?_; rintro e w2 ⟨rfl, hB2⟩)
        all_goals
          have HX0 := Lib.hid (HI.out.1.drew.trans (hB2.mono (by have := HI.out.1.size; rw [HS0.out] at this; exact this)))
          obtain ⟨b', o', he, _, hcs⟩ := (HM.out.below HX0.out (by rw [HS0.out]; exact Nat.le_refl _)).at_ HNE.out
          obtain ⟨rfl, rfl⟩ : b = b' ∧ o = o' := by simpa using he
          obtain ⟨c0, c1, c2, c3⟩ := hcs q (by rw [HN.out]; exact hlt)
          rw [HY.out] at c0 c1 c2 c3
          rw [Nat.add_zero] at c0
          have d0 := (HP0.out.below HX0.out (by omega)).cell 0 _ rfl
          have d1 := (HP0.out.below HX0.out (by omega)).cell 1 _ rfl
          have d2 := (HP0.out.below HX0.out (by omega)).cell 2 _ rfl
          have d3 := (HP0.out.below HX0.out (by omega)).cell 3 _ rfl
          clear he hcs
          by_cases hyx : y = x
          · have HEQ := Lib.hid hyx
            subst hyx
            go_upto_region 4 with fail
            go_quiet (fail)
            go_wp2
            go_ret
            have e9 : insD y M = M := by
              rw [insD_put y M q (by rw [HN.out]; omega) HI.out.2 (fun h => by rw [HY.out]; exact HLT.out), if_pos (by rw [List.getElem?_eq_getElem (by rw [HN.out]; exact hlt), ← getElem!_pos M q (by rw [HN.out]; exact hlt), HY.out])]
            rw [e9, HN.out]
            exact ⟨_, c, rfl, HM.out.below (bdn HX0.out nq) (by rw [HS0.out]; exact Nat.le_refl _), by rw [HBX.out]; exact HB0.out.trans ((bdn HX0.out nq).mono (by omega))⟩
          · have HPUT := Lib.hid (show insD x M = M.take q ++ x :: M.drop q by
              rw [insD_put x M q (by rw [HN.out]; omega) HI.out.2 (fun h => by rw [HY.out]; exact HLT.out), if_neg (by rw [List.getElem?_eq_getElem (by rw [HN.out]; exact hlt), ← getElem!_pos M q (by rw [HN.out]; exact hlt), HY.out]; simpa using hyx)])
            have hcc := cd_cases y x
            go_wp2_with fail
            go_simp
            go_cut [32] from 21 to 31 (fun s32 wx => s32 = .bool false ∧ Below (bx + 1) W0 wx)
            case first =>
              rename_i J1 K1 hJ1 hK1
              have hxx := HX0.out
              rcases hcc with h | h | ⟨h', h⟩ | ⟨h', h'', h⟩ | ⟨h', h'', h3, h⟩
              · exact absurd h hyx
              all_goals
                clear hyx
                (try rw [h'] at c0)
                (try rw [h''] at c1)
                (try rw [h3] at c2)
                go_quiet (fail)
                refine hK1 _ _ (Met.intro (hJ1 _ _ ?_))
                repeat apply Exists.intro
                refine ⟨?_, rfl⟩
                exact ⟨rfl, bdn hxx nq⟩
            case rest =>
              obtain ⟨rfl, hX1⟩ := hcut
              clear c0 c1 c2 c3 d0 d1 d2 d3 hyx hcc
              have HX1 := Lib.hid hX1
              generalize wc = X at HX1 hX1 ⊢
              clear hX1
              obtain ⟨T, hT⟩ : ∃ T, M.take q = T := ⟨_, rfl⟩
              obtain ⟨D, hD⟩ : ∃ D, M.drop q = D := ⟨_, rfl⟩
              have HTL := Lib.hid (show T.length = q by rw [← hT, List.length_take]; have := HN.out; omega)
              have HDL := Lib.hid (show D.length = n - q by rw [← hD, List.length_drop, HN.out])
              have HTD := Lib.hid (show insD x M = T ++ x :: D by rw [← hT, ← hD]; exact HPUT.out)
              have HCT := Lib.hid fun Y (hY : Below X.heap.size X Y) d => (by
                obtain ⟨b', o', he, _, hcs⟩ := (HM.out.below (HX1.out.trans (hY.mono (by have := HX1.out.size; rw [HS0.out] at this; exact this))) (by rw [HS0.out]; exact Nat.le_refl _)).at_ HNE.out
                obtain ⟨rfl, rfl⟩ : b = b' ∧ o = o' := by simpa using he
                rw [← hT]
                exact take_news q hcs : NewC Y (some ⟨b, o, none⟩) T d)
              have HCD := Lib.hid fun Y (hY : Below X.heap.size X Y) d => (by
                obtain ⟨b', o', he, _, hcs⟩ := (HM.out.below (HX1.out.trans (hY.mono (by have := HX1.out.size; rw [HS0.out] at this; exact this))) (by rw [HS0.out]; exact Nat.le_refl _)).at_ HNE.out
                obtain ⟨rfl, rfl⟩ : b = b' ∧ o = o' := by simpa using he
                rw [← hD]
                exact drop_news q hcs : NewC Y (some ⟨b, o + q * 4, none⟩) D d)
              have HPX := Lib.hid fun Y (hY : Below X.heap.size X Y) => HP0.out.below (HX1.out.trans (hY.mono (by have := HX1.out.size; rw [HS0.out] at this; exact this))) (by omega)
              have e0 := (HPX.out X (Below.refl _ _)).cell 0 _ rfl
              have e1 := (HPX.out X (Below.refl _ _)).cell 1 _ rfl
              have e2 := (HPX.out X (Below.refl _ _)).cell 2 _ rfl
              have e3 := (HPX.out X (Below.refl _ _)).cell 3 _ rfl
              have e0a := fun oo => (HPX.out (X.alloc oo) ((Below.refl _ _).alloc (Nat.le_refl _) _)).cell 0 _ rfl
              have e1a := fun oo => (HPX.out (X.alloc oo) ((Below.refl _ _).alloc (Nat.le_refl _) _)).cell 1 _ rfl
              have e2a := fun oo => (HPX.out (X.alloc oo) ((Below.refl _ _).alloc (Nat.le_refl _) _)).cell 2 _ rfl
              have e3a := fun oo => (HPX.out (X.alloc oo) ((Below.refl _ _).alloc (Nat.le_refl _) _)).cell 3 _ rfl
              have HSX := Lib.hid (show bx + 1 ≤ X.heap.size by have := HX1.out.size; rw [HS0.out] at this; exact this)
              have k1 : (0 : Int) ≤ (q : Int) := by omega
              have k2 : ¬ (q : Int) > (c : Int) := by omega
              have k3 : ¬ (q : Int) > (n : Int) := by omega
              clear hT hD
              go_wp2_with fail
              go_cut [6] from 34 to 41 (fun s6 wx => ∃ A8 c8, s6 = .slice A8 (q + 1) c8 ∧ OwC wx X.heap.size A8 (T ++ [x]) c8 ∧ Below X.heap.size X wx)
              case first =>
                rename_i J1 K1 hJ1 hK1
                go_region_law
                  (first
                    | (refine step_condsE (by rfl) _ _ (by rfl) (base := X.heap.size) (M := []) (M5 := T) (by rfl) (by first | exact OwC.made _ _ _ (by simp) (by simp) | exact (OwC.made _ _ _ (by simp) (by simp)).drew | exact ((OwC.made _ _ _ (by simp) (by simp)).alloc _).drew | exact (OwC.made _ _ _ (by simp) (by simp)).alloc _) (by rw [HTL.out]; rfl) (HCT.out _ (by repeat (first | exact Below.refl _ _ | refine Below.drew ?_ | refine Below.alloc ?_ (by simp) _)) _) (by have := HTL.out; simp; omega) (by simp; try omega) ?_
                       rintro A7 c7 w7 hrow7 hgr7 hB7
                       have hk7 : Below X.heap.size X w7 := by
                         refine Below.trans ?_ hB7
                         repeat (first | exact Below.refl _ _ | refine Below.drew ?_ | refine Below.alloc ?_ (by simp) _)
                       have e0 := (HPX.out w7 hk7).cell 0 _ rfl
                       have e1 := (HPX.out w7 hk7).cell 1 _ rfl
                       have e2 := (HPX.out w7 hk7).cell 2 _ rfl
                       have e3 := (HPX.out w7 hk7).cell 3 _ rfl
                       skip)
                    | (refine step_condsE (by rfl) _ _ (by rfl) (base := X.heap.size) (M := T) (M5 := [x]) (by rw [HTL.out]; rfl) (by first | exact hrow7 | exact hrow7.alloc _ | exact hrow7.drew | exact (hrow7.alloc _).drew | exact hrow7.drew.alloc _) (by rfl) (NewC.one (by first | exact RowC.new _ _ _ _ (by rfl) | (refine rowc_grown' hgr7 ?_ (by simp [Value.ownBlock]); first | exact rowc_drew' (RowC.new _ _ _ _ (by simp)) | exact rowc_drew' ((RowC.new _ _ _ _ (by simp)).alloc _) | exact RowC.new _ _ _ _ (by simp) | exact (RowC.new _ _ _ _ (by simp)).alloc _))) (by have := HTL.out; simp; omega) (by have := hk7.size; simp; omega) ?_
                       rintro A8 c8 w8 hrow8 hgr8 hB8
                       have hk8 : Below X.heap.size X w8 := by
                         refine Below.trans ?_ hB8
                         first
                         | exact hk7
                         | exact hk7.alloc hk7.size _
                         | exact (hk7.alloc hk7.size _).drew
                       skip))
                all_goals
                  refine hK1 _ _ (Met.intro (hJ1 _ _ ?_))
                  repeat apply Exists.intro
                  refine ⟨?_, rfl⟩
                  refine ⟨A8, c8, ?_, hrow8, hk8⟩
                  rw [HTL.out]
              case rest =>
                obtain ⟨A8, c8, rfl, hrow8, hB8⟩ := hcut
                by_cases hcq : c = q
                · have hD0 : D = [] := List.eq_nil_of_length_eq_zero (by have := HDL.out; omega)
                  have HNW := Lib.hid fun (Y : World) ad d => (.inr ⟨ad, rfl, by rw [hD0]; intro j v hv; simp at hv⟩ : NewC Y (some ad) D d)
                  clear hD0
                  go_wp2_with (refine app_condsE (by rfl) _ _ (by rfl) (base := X.heap.size) (M := T ++ [x]) (M5 := D) (by rw [List.length_append, HTL.out]; rfl) hrow8 (by rw [HDL.out]; rfl) (HNW.out _ _ _) (by rw [List.length_append, HTL.out, HDL.out]; simp; omega) hB8.size ?_; rintro A9 c9 w9 hrow9 hgr9 hB9)
                  go_ret
                  have e9 : (T ++ [x]) ++ D = insD x M := by rw [HTD.out]; simp
                  rw [e9] at hrow9
                  refine ⟨A9, c9, ?_, hrow9.rd (by rw [HTD.out]; simp) (fun y hy => ?_), ?_⟩
                  · rw [HTD.out, List.length_append, List.length_cons]
                    rfl
                  · rcases (mem_insD x y M).1 hy with h | h
                    · subst h; exact HX.out
                    · exact HM.out.bd y h
                  · rw [HBX.out]
                    exact HB0.out.trans ((HX1.out.trans ((hB8.trans hB9).mono HSX.out)).mono (by omega))
                · go_wp2_with (refine app_condsE (by rfl) _ _ (by rfl) (base := X.heap.size) (M := T ++ [x]) (M5 := D) (by rw [List.length_append, HTL.out]; rfl) hrow8 (by rw [HDL.out]; rfl) (HCD.out _ hB8 _) (by rw [List.length_append, HTL.out, HDL.out]; simp; omega) hB8.size ?_; rintro A9 c9 w9 hrow9 hgr9 hB9)
                  go_ret
                  have e9 : (T ++ [x]) ++ D = insD x M := by rw [HTD.out]; simp
                  rw [e9] at hrow9
                  refine ⟨A9, c9, ?_, hrow9.rd (by rw [HTD.out]; simp) (fun y hy => ?_), ?_⟩
                  · rw [HTD.out, List.length_append, List.length_cons]
                    rfl
                  · rcases (mem_insD x y M).1 hy with h | h
                    · subst h; exact HX.out
                    · exact HM.out.bd y h
                  · rw [HBX.out]
                    exact HB0.out.trans ((HX1.out.trans ((hB8.trans hB9).mono HSX.out)).mono (by omega))
    · have HQN := Lib.hid (show q = n by omega)
      have i2 : ¬ (q : Int) < (n : Int) := by omega
      go_upto_region 2 with fail
      go_quiet (fail)
      have HX0 := Lib.hid (bdn HI.out.1 nq)
      generalize wr.drewN nq = X0 at HX0 ⊢
      go_upto_region 4 with fail
      go_quiet (fail)
      have HX1 := Lib.hid (bdn HX0.out nq)
      generalize X0.drewN nq = X at HX1 ⊢
      have HPUT := Lib.hid (show insD x M = M.take q ++ x :: M.drop q by
        rw [insD_put x M q (by rw [HN.out]; omega) HI.out.2 (fun h => by rw [HN.out] at h; omega), if_neg (by rw [List.getElem?_eq_none (by rw [HN.out]; omega)]; simp)])
      obtain ⟨T, hT⟩ : ∃ T, M.take q = T := ⟨_, rfl⟩
      obtain ⟨D, hD⟩ : ∃ D, M.drop q = D := ⟨_, rfl⟩
      have HTL := Lib.hid (show T.length = q by rw [← hT, List.length_take]; have := HN.out; omega)
      have HDL := Lib.hid (show D.length = n - q by rw [← hD, List.length_drop, HN.out])
      have HTD := Lib.hid (show insD x M = T ++ x :: D by rw [← hT, ← hD]; exact HPUT.out)
      have HCT := Lib.hid fun Y (hY : Below X.heap.size X Y) d => (by
        obtain ⟨b', o', he, _, hcs⟩ := (HM.out.below (HX1.out.trans (hY.mono (by have := HX1.out.size; rw [HS0.out] at this; exact this))) (by rw [HS0.out]; exact Nat.le_refl _)).at_ HNE.out
        obtain ⟨rfl, rfl⟩ : b = b' ∧ o = o' := by simpa using he
        rw [← hT]
        exact take_news q hcs : NewC Y (some ⟨b, o, none⟩) T d)
      have HCD := Lib.hid fun Y (hY : Below X.heap.size X Y) d => (by
        obtain ⟨b', o', he, _, hcs⟩ := (HM.out.below (HX1.out.trans (hY.mono (by have := HX1.out.size; rw [HS0.out] at this; exact this))) (by rw [HS0.out]; exact Nat.le_refl _)).at_ HNE.out
        obtain ⟨rfl, rfl⟩ : b = b' ∧ o = o' := by simpa using he
        rw [← hD]
        exact drop_news q hcs : NewC Y (some ⟨b, o + q * 4, none⟩) D d)
      have HPX := Lib.hid fun Y (hY : Below X.heap.size X Y) => HP0.out.below (HX1.out.trans (hY.mono (by have := HX1.out.size; rw [HS0.out] at this; exact this))) (by omega)
      have e0 := (HPX.out X (Below.refl _ _)).cell 0 _ rfl
      have e1 := (HPX.out X (Below.refl _ _)).cell 1 _ rfl
      have e2 := (HPX.out X (Below.refl _ _)).cell 2 _ rfl
      have e3 := (HPX.out X (Below.refl _ _)).cell 3 _ rfl
      have e0a := fun oo => (HPX.out (X.alloc oo) ((Below.refl _ _).alloc (Nat.le_refl _) _)).cell 0 _ rfl
      have e1a := fun oo => (HPX.out (X.alloc oo) ((Below.refl _ _).alloc (Nat.le_refl _) _)).cell 1 _ rfl
      have e2a := fun oo => (HPX.out (X.alloc oo) ((Below.refl _ _).alloc (Nat.le_refl _) _)).cell 2 _ rfl
      have e3a := fun oo => (HPX.out (X.alloc oo) ((Below.refl _ _).alloc (Nat.le_refl _) _)).cell 3 _ rfl
      have HSX := Lib.hid (show bx + 1 ≤ X.heap.size by have := HX1.out.size; rw [HS0.out] at this; exact this)
      have k1 : (0 : Int) ≤ (q : Int) := by omega
      have k2 : ¬ (q : Int) > (c : Int) := by omega
      have k3 : ¬ (q : Int) > (n : Int) := by omega
      clear hT hD
      go_wp2_with fail
      go_cut [6] from 34 to 41 (fun s6 wx => ∃ A8 c8, s6 = .slice A8 (q + 1) c8 ∧ OwC wx X.heap.size A8 (T ++ [x]) c8 ∧ Below X.heap.size X wx)
      case first =>
        rename_i J1 K1 hJ1 hK1
        go_region_law
          (first
            | (refine step_condsE (by rfl) _ _ (by rfl) (base := X.heap.size) (M := []) (M5 := T) (by rfl) (by first | exact OwC.made _ _ _ (by simp) (by simp) | exact (OwC.made _ _ _ (by simp) (by simp)).drew | exact ((OwC.made _ _ _ (by simp) (by simp)).alloc _).drew | exact (OwC.made _ _ _ (by simp) (by simp)).alloc _) (by rw [HTL.out]; rfl) (HCT.out _ (by repeat (first | exact Below.refl _ _ | refine Below.drew ?_ | refine Below.alloc ?_ (by simp) _)) _) (by have := HTL.out; simp; omega) (by simp; try omega) ?_
               rintro A7 c7 w7 hrow7 hgr7 hB7
               have hk7 : Below X.heap.size X w7 := by
                 refine Below.trans ?_ hB7
                 repeat (first | exact Below.refl _ _ | refine Below.drew ?_ | refine Below.alloc ?_ (by simp) _)
               have e0 := (HPX.out w7 hk7).cell 0 _ rfl
               have e1 := (HPX.out w7 hk7).cell 1 _ rfl
               have e2 := (HPX.out w7 hk7).cell 2 _ rfl
               have e3 := (HPX.out w7 hk7).cell 3 _ rfl
               skip)
            | (refine step_condsE (by rfl) _ _ (by rfl) (base := X.heap.size) (M := T) (M5 := [x]) (by rw [HTL.out]; rfl) (by first | exact hrow7 | exact hrow7.alloc _ | exact hrow7.drew | exact (hrow7.alloc _).drew | exact hrow7.drew.alloc _) (by rfl) (NewC.one (by first | exact RowC.new _ _ _ _ (by rfl) | (refine rowc_grown' hgr7 ?_ (by simp [Value.ownBlock]); first | exact rowc_drew' (RowC.new _ _ _ _ (by simp)) | exact rowc_drew' ((RowC.new _ _ _ _ (by simp)).alloc _) | exact RowC.new _ _ _ _ (by simp) | exact (RowC.new _ _ _ _ (by simp)).alloc _))) (by have := HTL.out; simp; omega) (by have := hk7.size; simp; omega) ?_
               rintro A8 c8 w8 hrow8 hgr8 hB8
               have hk8 : Below X.heap.size X w8 := by
                 refine Below.trans ?_ hB8
                 first
                 | exact hk7
                 | exact hk7.alloc hk7.size _
                 | exact (hk7.alloc hk7.size _).drew
               skip))
        all_goals
          refine hK1 _ _ (Met.intro (hJ1 _ _ ?_))
          repeat apply Exists.intro
          refine ⟨?_, rfl⟩
          refine ⟨A8, c8, ?_, hrow8, hk8⟩
          rw [HTL.out]
      case rest =>
        obtain ⟨A8, c8, rfl, hrow8, hB8⟩ := hcut
        by_cases hcq : c = q
        · have hD0 : D = [] := List.eq_nil_of_length_eq_zero (by have := HDL.out; omega)
          have HNW := Lib.hid fun (Y : World) ad d => (.inr ⟨ad, rfl, by rw [hD0]; intro j v hv; simp at hv⟩ : NewC Y (some ad) D d)
          clear hD0
          go_wp2_with (refine app_condsE (by rfl) _ _ (by rfl) (base := X.heap.size) (M := T ++ [x]) (M5 := D) (by rw [List.length_append, HTL.out]; rfl) hrow8 (by rw [HDL.out]; rfl) (HNW.out _ _ _) (by rw [List.length_append, HTL.out, HDL.out]; simp; omega) hB8.size ?_; rintro A9 c9 w9 hrow9 hgr9 hB9)
          go_ret
          have e9 : (T ++ [x]) ++ D = insD x M := by rw [HTD.out]; simp
          rw [e9] at hrow9
          refine ⟨A9, c9, ?_, hrow9.rd (by rw [HTD.out]; simp) (fun y hy => ?_), ?_⟩
          · rw [HTD.out, List.length_append, List.length_cons]
            rfl
          · rcases (mem_insD x y M).1 hy with h | h
            · subst h; exact HX.out
            · exact HM.out.bd y h
          · rw [HBX.out]
            exact HB0.out.trans ((HX1.out.trans ((hB8.trans hB9).mono HSX.out)).mono (by omega))
        · go_wp2_with (refine app_condsE (by rfl) _ _ (by rfl) (base := X.heap.size) (M := T ++ [x]) (M5 := D) (by rw [List.length_append, HTL.out]; rfl) hrow8 (by rw [HDL.out]; rfl) (HCD.out _ hB8 _) (by rw [List.length_append, HTL.out, HDL.out]; simp; omega) hB8.size ?_; rintro A9 c9 w9 hrow9 hgr9 hB9)
          go_ret
          have e9 : (T ++ [x]) ++ D = insD x M := by rw [HTD.out]; simp
          rw [e9] at hrow9
          refine ⟨A9, c9, ?_, hrow9.rd (by rw [HTD.out]; simp) (fun y hy => ?_), ?_⟩
          · rw [HTD.out, List.length_append, List.length_cons]
            rfl
          · rcases (mem_insD x y M).1 hy with h | h
            · subst h; exact HX.out
            · exact HM.out.bd y h
          · rw [HBX.out]
            exact HB0.out.trans ((HX1.out.trans ((hB8.trans hB9).mono HSX.out)).mono (by omega))
end Go.Proofs.YtcembcicpmhpkaaGreatDoor

/-
  Layer 16: the document's insertion into any row; conditions put one after the other.
-/
namespace Go.Proofs.YtcembcicpmhpkaaGreatDoor
open Go.RowKit Go.Shelf Go.Maps
set_option linter.unusedVariables false

set_option maxRecDepth 100000 in
set_option maxHeartbeats 8000000 in
theorem put_nil (x : CD) (w : World) (hx : x.m ≤ 18446744073709551615 ∧ x.v ≤ 18446744073709551615) :
    Calls Tryz.prog 48 #[.slice none 0 0, .agg #[.int .i64 x.a, .int .i64 x.o, .int .u64 x.m, .int .u64 x.v]] w fun e w' => ∃ A' c', e = .returned (.slice A' 1 c') ∧ RdF w' A' [x] c' ∧ Below w.heap.size w w' := by
  obtain ⟨bx, hbx⟩ : ∃ n, w.heap.size = n := ⟨_, rfl⟩
  obtain ⟨W0, hW0⟩ : ∃ W, w.alloc (.cells #[.int .i64 x.a, .int .i64 x.o, .int .u64 x.m, .int .u64 x.v] 61) = W := ⟨_, rfl⟩
  have hB0 : Below bx w W0 := by rw [← hW0, ← hbx]; exact (Below.refl _ _).alloc (Nat.le_refl _) _
  have hP0 : RowC W0 bx #[.int .i64 x.a, .int .i64 x.o, .int .u64 x.m, .int .u64 x.v] 61 := by rw [← hW0, ← hbx]; exact RowC.new _ _ _ _ rfl
  have hs0 : W0.heap.size = bx + 1 := by rw [← hW0, ← hbx]; simp
  have HX := Lib.hid hx
  have HB0 := Lib.hid hB0
  have HP0 := Lib.hid hP0
  have HS0 := Lib.hid hs0
  have HW := Lib.hid hW0
  have HBX := Lib.hid hbx
  clear hx hB0 hP0 hs0 hW0 hbx
  go_enter Tryz.func48, Tryz.ntmps48
  go_upto_region 1 with fail
  rw [HW.out, HBX.out]
  go_wp2
  go_loopw [5] (fun i wr => i = .int .i64 0 ∧ Hid (Below (bx + 1) W0 wr)) (fun i _ => 0)
  case atStart => exact ⟨rfl, Lib.hid (Below.refl _ _)⟩
  case round =>
    obtain ⟨rfl, HI⟩ := hrel
    go_upto_region 2 with fail
    go_quiet (fail)
    have HX0 := Lib.hid (bdn HI.out nq)
    generalize wr.drewN nq = X0 at HX0 ⊢
    go_upto_region 4 with fail
    go_quiet (fail)
    have HX1 := Lib.hid (bdn HX0.out nq)
    generalize X0.drewN nq = X at HX1 ⊢
    have HPX := Lib.hid fun Y (hY : Below X.heap.size X Y) => HP0.out.below (HX1.out.trans (hY.mono (by have := HX1.out.size; rw [HS0.out] at this; exact this))) (by omega)
    have e0 := (HPX.out X (Below.refl _ _)).cell 0 _ rfl
    have e1 := (HPX.out X (Below.refl _ _)).cell 1 _ rfl
    have e2 := (HPX.out X (Below.refl _ _)).cell 2 _ rfl
    have e3 := (HPX.out X (Below.refl _ _)).cell 3 _ rfl
    have e0a := fun oo => (HPX.out (X.alloc oo) ((Below.refl _ _).alloc (Nat.le_refl _) _)).cell 0 _ rfl
    have e1a := fun oo => (HPX.out (X.alloc oo) ((Below.refl _ _).alloc (Nat.le_refl _) _)).cell 1 _ rfl
    have e2a := fun oo => (HPX.out (X.alloc oo) ((Below.refl _ _).alloc (Nat.le_refl _) _)).cell 2 _ rfl
    have e3a := fun oo => (HPX.out (X.alloc oo) ((Below.refl _ _).alloc (Nat.le_refl _) _)).cell 3 _ rfl
    have HSX := Lib.hid (show bx + 1 ≤ X.heap.size by have := HX1.out.size; rw [HS0.out] at this; exact this)
    go_wp2_with fail
    go_cut [6] from 34 to 41 (fun s6 wx => ∃ A8 c8, s6 = .slice A8 1 c8 ∧ OwC wx X.heap.size A8 [x] c8 ∧ Below X.heap.size X wx)
    case first =>
      rename_i J1 K1 hJ1 hK1
      go_region_law
        (first
          | (refine step_condsE (by rfl) _ _ (by rfl) (base := X.heap.size) (M := []) (M5 := []) (by rfl) (by first | exact OwC.made _ _ _ (by simp) (by simp) | exact (OwC.made _ _ _ (by simp) (by simp)).drew | exact ((OwC.made _ _ _ (by simp) (by simp)).alloc _).drew | exact (OwC.made _ _ _ (by simp) (by simp)).alloc _) (by rfl) (.inl ⟨rfl, rfl, rfl⟩) (by simp) (by simp; try omega) ?_
             rintro A7 c7 w7 hrow7 hgr7 hB7
             have hk7 : Below X.heap.size X w7 := by
               refine Below.trans ?_ hB7
               repeat (first | exact Below.refl _ _ | refine Below.drew ?_ | refine Below.alloc ?_ (by simp) _)
             have e0 := (HPX.out w7 hk7).cell 0 _ rfl
             have e1 := (HPX.out w7 hk7).cell 1 _ rfl
             have e2 := (HPX.out w7 hk7).cell 2 _ rfl
             have e3 := (HPX.out w7 hk7).cell 3 _ rfl
             skip)
          | (refine step_condsE (by rfl) _ _ (by rfl) (base := X.heap.size) (M := []) (M5 := [x]) (by rfl) (by first | exact hrow7 | exact hrow7.alloc _ | exact hrow7.drew | exact (hrow7.alloc _).drew | exact hrow7.drew.alloc _) (by rfl) (NewC.one (by first | exact RowC.new _ _ _ _ (by rfl) | (refine rowc_grown' hgr7 ?_ (by simp [Value.ownBlock]); first | exact rowc_drew' (RowC.new _ _ _ _ (by simp)) | exact rowc_drew' ((RowC.new _ _ _ _ (by simp)).alloc _) | exact RowC.new _ _ _ _ (by simp) | exact (RowC.new _ _ _ _ (by simp)).alloc _))) (by simp) (by have := hk7.size; simp; omega) ?_
             rintro A8 c8 w8 hrow8 hgr8 hB8
             have hk8 : Below X.heap.size X w8 := by
               refine Below.trans ?_ hB8
               first
               | exact hk7
               | exact hk7.alloc hk7.size _
               | exact (hk7.alloc hk7.size _).drew
             skip))
      all_goals
        refine hK1 _ _ (Met.intro (hJ1 _ _ ?_))
        repeat apply Exists.intro
        refine ⟨?_, rfl⟩
        exact ⟨A8, c8, rfl, hrow8, hk8⟩
    case rest =>
      obtain ⟨A8, c8, rfl, hrow8, hB8⟩ := hcut
      go_wp2_with (refine app_condsE (by rfl) _ _ (by rfl) (base := X.heap.size) (M := [x]) (M5 := []) (by rfl) hrow8 (by rfl) (.inl ⟨rfl, rfl, rfl⟩) (by simp) hB8.size ?_; rintro A9 c9 w9 hrow9 hgr9 hB9)
      go_ret
      rw [List.append_nil] at hrow9
      refine ⟨A9, c9, rfl, hrow9.rd (by simp) (fun y hy => ?_), ?_⟩
      · rw [List.mem_singleton] at hy; subst hy; exact HX.out
      · rw [HBX.out]
        exact HB0.out.trans ((HX1.out.trans ((hB8.trans hB9).mono HSX.out)).mono (by omega))
theorem put_any (A : Option Addr) (c : Nat) (M : List CD) (x : CD) (w : World) (hM : RdF w A M c) (hn : M.length ≤ 1000) (hx : x.m ≤ 18446744073709551615 ∧ x.v ≤ 18446744073709551615) :
    Calls Tryz.prog 48 #[.slice A M.length c, .agg #[.int .i64 x.a, .int .i64 x.o, .int .u64 x.m, .int .u64 x.v]] w fun e w' => ∃ A' c', e = .returned (.slice A' (insD x M).length c') ∧ RdF w' A' (insD x M) c' ∧ Below w.heap.size w w' := by
  by_cases hne : M = []
  · subst hne
    obtain ⟨rfl, rfl⟩ := hM.2.2.2 rfl
    exact put_nil x w hx
  · obtain ⟨b, o, rfl, _⟩ := hM.at_ hne
    exact put_some b o c M x w hM hne hn hx
/-- Conditions put one after the other. -/
def fputs (M : List CD) (l : List CD) : List CD := l.foldl (fun M c => insD c M) M
theorem fputs_snoc (M l : List CD) (c : CD) : fputs M (l ++ [c]) = insD c (fputs M l) := by unfold fputs; rw [List.foldl_append]; rfl
theorem fputs_srt (l : List CD) : fputs [] l = srt l := by
  have h : ∀ (l M : List CD), M.Pairwise ltD → (fputs M l).Pairwise ltD ∧ ∀ x, x ∈ fputs M l ↔ x ∈ M ∨ x ∈ l := fun l => by
    induction l with
    | nil => intro M hM; exact ⟨hM, fun x => by simp [fputs]⟩
    | cons c t ih =>
      intro M hM
      obtain ⟨h1, h2⟩ := ih (insD c M) (pw_insD c M hM)
      refine ⟨h1, fun x => ?_⟩
      show x ∈ fputs (insD c M) t ↔ _
      rw [h2, mem_insD, List.mem_cons]
      constructor
      · rintro ((h | h) | h)
        · exact .inr (.inl h)
        · exact .inl h
        · exact .inr (.inr h)
      · rintro (h | h | h)
        · exact .inl (.inr h)
        · exact .inl (.inl h)
        · exact .inr h
  obtain ⟨h1, h2⟩ := h l [] List.Pairwise.nil
  exact srt_uniq h1 fun x => by rw [h2]; simp
end Go.Proofs.YtcembcicpmhpkaaGreatDoor
