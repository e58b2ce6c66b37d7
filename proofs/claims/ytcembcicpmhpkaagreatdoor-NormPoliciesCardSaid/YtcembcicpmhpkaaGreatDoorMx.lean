/-
  Layer 16, pure: the names of a policy one after the other, the least that is left first; a name's rules, one after the other.
-/
import Derived.Test.YtcembcicpmhpkaaGreatDoorMk
import Derived.Test.YtcembcicpmhpkaaGreatDoorMt
import Derived.Laws.MakeOwn
import Derived.Test.YtcembcicpmhpkaaGreatDoorMo
import Derived.Test.YtcembcicpmhpkaaGreatDoorRn
import Derived.Test.YtcembcicpmhpkaaGreatDoorRi
import Derived.Maps.AppendAt
namespace Go.Proofs.YtcembcicpmhpkaaGreatDoor
open Go.RowKit
set_option linter.unusedVariables false

theorem ll_trans {a b c : List UInt8} (h1 : a < b) (h2 : b < c) : a < c := List.lt_trans h1 h2
theorem ll_irr (a : List UInt8) : ¬ a < a := List.lt_irrefl a
theorem ll_tri {a b : List UInt8} (h1 : ¬ a < b) (h2 : ¬ b < a) : a = b := List.le_antisymm (List.not_lt.1 h2) (List.not_lt.1 h1)
/-- The least of those that are left, among the first q. -/
def LeastI (K : Nat → List UInt8) (D : Nat → Bool) (q : Nat) : Option Nat → Prop
  | none => ∀ i, i < q → D i = true
  | some a => a < q ∧ D a = false ∧ ∀ i, i < q → D i = false → ¬ K i < K a
theorem LeastI.skip {K : Nat → List UInt8} {D : Nat → Bool} {q : Nat} {o : Option Nat} (h : LeastI K D q o) (hd : D q = true) : LeastI K D (q + 1) o := by
  cases o with
  | none =>
    intro i hi
    by_cases e : i = q
    · subst e; exact hd
    · exact h i (by omega)
  | some a =>
    refine ⟨by have := h.1; omega, h.2.1, fun i hi hf => ?_⟩
    by_cases e : i = q
    · subst e; rw [hd] at hf; cases hf
    · exact h.2.2 i (by omega) hf
theorem LeastI.first {K : Nat → List UInt8} {D : Nat → Bool} {q : Nat} (h : LeastI K D q none) (hd : D q = false) : LeastI K D (q + 1) (some q) := by
  refine ⟨Nat.lt_succ_self q, hd, fun i hi hf => ?_⟩
  by_cases e : i = q
  · subst e; exact ll_irr _
  · have := h i (by omega); rw [hf] at this; cases this
theorem LeastI.less {K : Nat → List UInt8} {D : Nat → Bool} {q a : Nat} (h : LeastI K D q (some a)) (hd : D q = false) (hl : K q < K a) : LeastI K D (q + 1) (some q) := by
  refine ⟨Nat.lt_succ_self q, hd, fun i hi hf => ?_⟩
  by_cases e : i = q
  · subst e; exact ll_irr _
  · exact fun hk => h.2.2 i (by omega) hf (ll_trans hk hl)
theorem LeastI.keep {K : Nat → List UInt8} {D : Nat → Bool} {q a : Nat} (h : LeastI K D q (some a)) (hl : ¬ K q < K a) : LeastI K D (q + 1) (some a) := by
  refine ⟨by have := h.1; omega, h.2.1, fun i hi hf => ?_⟩
  by_cases e : i = q
  · subst e; exact hl
  · exact h.2.2 i (by omega) hf
/-- What is done: these names, in order. -/
structure PickI (K : Nat → List UInt8) (n : Nat) (D : Nat → Bool) (ss : List (List UInt8)) : Prop where
  pw : ss.Pairwise (· < ·)
  mem : ∀ i, i < n → (D i = true ↔ K i ∈ ss)
  ahead : ∀ i, i < n → D i = false → ∀ s ∈ ss, s < K i
theorem PickI.start (K : Nat → List UInt8) (n : Nat) : PickI K n (fun _ => false) [] := ⟨List.Pairwise.nil, fun i _ => by simp, fun i _ _ s hs => by cases hs⟩
theorem PickI.next {K : Nat → List UInt8} {n a : Nat} {D : Nat → Bool} {ss : List (List UInt8)} (h : PickI K n D ss) (ha : LeastI K D n (some a)) : PickI K n (fun i => D i || K i == K a) (ss ++ [K a]) := by
  obtain ⟨h1, h2, h3⟩ := ha
  refine ⟨List.pairwise_append.2 ⟨h.pw, List.pairwise_singleton _ _, fun s hs t ht => ?_⟩, fun i hi => ?_, fun i hi hf s hs => ?_⟩
  · rw [List.mem_singleton] at ht; subst ht; exact h.ahead a h1 h2 s hs
  · simp only [Bool.or_eq_true, beq_iff_eq, List.mem_append, List.mem_singleton]
    rw [h.mem i hi]
  · simp only [Bool.or_eq_false_iff, beq_eq_false_iff_ne, ne_eq] at hf
    rcases List.mem_append.1 hs with hs | hs
    · exact h.ahead i hi hf.1 s hs
    · rw [List.mem_singleton] at hs
      subst hs
      by_cases hl : K a < K i
      · exact hl
      · exact absurd (ll_tri (h3 i hi hf.1) hl) hf.2
/-- How many are left. -/
def left (D : Nat → Bool) (n : Nat) : Nat := ((List.range n).filter fun i => !D i).length
theorem left_next {K : Nat → List UInt8} {n a : Nat} {D : Nat → Bool} (ha : LeastI K D n (some a)) : left (fun i => D i || K i == K a) n < left D n := by
  obtain ⟨h1, h2, _⟩ := ha
  unfold left
  have hs : ((List.range n).filter fun i => !(D i || K i == K a)) = ((List.range n).filter fun i => !D i).filter fun i => !(K i == K a) := by
    rw [List.filter_filter]
    exact congrArg (fun f => (List.range n).filter f) (funext fun i => by cases D i <;> simp)
  rw [hs]
  have hm : a ∈ (List.range n).filter fun i => !D i := List.mem_filter.2 ⟨List.mem_range.2 h1, by rw [h2]; rfl⟩
  refine Nat.lt_of_le_of_ne (List.length_filter_le _ _) fun e => ?_
  have := List.length_filter_eq_length_iff.1 e a hm
  simp at this
theorem pick_end {K : Nat → List UInt8} {n : Nat} {D : Nat → Bool} {ss : List (List UInt8)} (h : PickI K n D ss) (hl : LeastI K D n none) (k u : Int) (V : Nat → RV) (hK : ∀ i, i < n → (V i).key = K i) :
    (ss.flatMap fun s => utl k u (unh (grp ((List.range n).map V) s))) = nP k u ((List.range n).map V) := by
  have hnd : ss.Nodup := h.pw.imp fun hab e => by subst e; exact ll_irr _ hab
  have hsort : ss.mergeSort Go.leB = ss := List.mergeSort_of_pairwise (h.pw.imp fun hab => by simp only [Go.leB, decide_eq_true_eq]; exact List.le_of_lt hab)
  have := nP_keys (k := k) (u := u) (l := (List.range n).map V) hnd (fun s hs => ?_) (fun _ _ _ => trivial) (fun s => utl k u (unh (grp ((List.range n).map V) s))) (fun _ _ => rfl)
  · rw [hsort] at this
    exact this
  · unfold grp at hs
    rw [Ne, List.filter_eq_nil_iff] at hs
    have hs' : ∃ r ∈ ((List.range n).map V).filterMap nR, (r.key == s) = true := by
      apply Classical.byContradiction
      intro hno
      exact hs fun r hr hk => hno ⟨r, hr, hk⟩
    obtain ⟨r, hr, hk⟩ := hs'
    obtain ⟨v, hv, hnr⟩ := List.mem_filterMap.1 hr
    obtain ⟨i, hi, rfl⟩ := List.mem_map.1 hv
    have hi' := List.mem_range.1 hi
    have e : r.key = (V i).key := by unfold RV.key; rw [nR_nm hnr]
    have hd := hl i hi'
    rw [h.mem i hi', ← hK i hi', ← e] at hd
    rwa [beq_iff_eq.1 hk] at hd
/-- A name's rules: one more. -/
theorem grp_next (V : Nat → RV) (q : Nat) (s : List UInt8) : grp ((List.range (q + 1)).map V) s = grp ((List.range q).map V) s ++ (if (V q).key = s then (nR (V q)).toList else []) := by
  rw [List.range_succ, List.map_append, grp_append]
  congr 1
  unfold grp
  simp only [List.map_cons, List.map_nil]
  rcases hn : nR (V q) with _ | r
  · rw [List.filterMap_cons, hn]
    simp
  · have hk : r.key = (V q).key := by unfold RV.key; rw [nR_nm hn]
    rw [List.filterMap_cons, hn]
    simp only [List.filterMap_nil, List.filter_cons, List.filter_nil, hk, beq_iff_eq]
    split <;> simp
theorem unh_next (V : Nat → RV) (q : Nat) (s : List UInt8) : unh (grp ((List.range (q + 1)).map V) s) =
    if (V q).key = s then (match nR (V q) with | none => unh (grp ((List.range q).map V) s) | some r => if (unh (grp ((List.range q).map V) s)).any (hides r) then unh (grp ((List.range q).map V) s) else unh (grp ((List.range q).map V) s) ++ [r]) else unh (grp ((List.range q).map V) s) := by
  rw [grp_next]
  split
  · rcases nR (V q) with _ | r
    · simp
    · show unh (_ ++ [r]) = _
      rw [unh_snoc]
      rfl
  · rw [List.append_nil]
end Go.Proofs.YtcembcicpmhpkaaGreatDoor

/-
  Layer 16: a row of booleans, made and set; what the document's Policy keeps while it picks name after name.
-/
namespace Go.Proofs.YtcembcicpmhpkaaGreatDoor
open Go.RowKit Go.Shelf Go.Maps
set_option linter.unusedVariables false

/-- A row of booleans. -/
def boolRow (n : Nat) (M : Nat → Bool) : Array Value := ((List.range n).map fun i => Value.bool (M i)).toArray
theorem boolRow_at (n : Nat) (M : Nat → Bool) (i : Nat) (hi : i < n) : (boolRow n M)[i]? = some (.bool (M i)) := by simp [boolRow, hi]
theorem boolRow_set (n : Nat) (M : Nat → Bool) (tt : Nat) : (boolRow n M).setIfInBounds tt (.bool true) = boolRow n (fun i => M i || i == tt) := by
  apply Array.ext_getElem?
  intro i
  rw [Array.getElem?_setIfInBounds]
  by_cases h : tt = i
  · subst h
    rw [if_pos rfl]
    by_cases hn : tt < n
    · simp [boolRow, hn]
    · simp [boolRow, hn]
  · rw [if_neg h]
    by_cases hn : i < n
    · have hne : (i == tt) = false := by simp; omega
      simp [boolRow, hn, hne]
    · simp [boolRow, hn]
theorem infoBool : (Tryz.prog.info? 4).map (fun i => (i.zero, i.size, i.bytes)) = some (some (.bool false), 1, 1) := by kernel_rfl
theorem mk_bools (n : Nat) (hn : n ≤ 4096) (W : World) : (Instr.makeSlice 94 (.int .i64 (n : Int)) (.int .i64 (n : Int))).run Tryz.prog W = .ok (.slice (some ⟨W.heap.size, 0, none⟩) n n) (W.alloc (.cells (boolRow n fun _ => false) 4)) := by
  obtain ⟨i0, hi0, hz0, hz1, hz2⟩ := info_parts infoBool
  have hr := run_make (P := Tryz.prog) W 94 4 i0 _ Tryz.underlying94 hi0 hz0 .i64 .i64 n n (by omega) (Int.le_refl _) (by rw [hz2]; omega) (by omega)
  rw [hz1] at hr
  simp only [Int.toNat_natCast] at hr
  have e : madeCells (Value.bool false).cells (n * 1) = boolRow n fun _ => false := by
    rw [Nat.mul_one]
    apply Array.ext_getElem?
    intro i
    by_cases hi : i < n
    · simp [madeCells, boolRow, hi, Value.cells, Nat.mod_one]
    · simp [madeCells, boolRow, hi, Value.cells]
  rw [e] at hr
  exact hr
theorem RowC.setBool {w : World} {b n : Nat} {M : Nat → Bool} (h : RowC w b (boolRow n M) 4) (tt : Nat) : RowC (w.setCell ⟨b, tt, none⟩ (.bool true)) b (boolRow n fun i => M i || i == tt) 4 := by
  have := h.set tt (.bool true)
  rw [boolRow_set] at this
  exact this
/-- What a rule's normal form is good for, as a rule in memory. -/
theorem RdF.ru {w : World} {A : Option Addr} {M : List CD} {c : Nat} (h : RdF w A M c) {nm : ByteArray} {k u : Int} (h1 : nm.size ≤ maxLen) (h2 : (Lit.int .i64 k).wf = true) (h3 : (Lit.int .i64 u).wf = true) : RuE w ⟨nm, k, u, A, M.length, c, fun i => M[i]!⟩ :=
  ⟨h1, h2, h3, h.2.1, h.2.2.1, h.1⟩
theorem val_srt (nm : ByteArray) (k u : Int) (A : Option Addr) (M : List CD) (c : Nat) : (⟨nm, k, u, A, M.length, c, fun i => M[i]!⟩ : RL).val = ⟨nm, k, u, M⟩ := by
  unfold RL.val
  simp only
  rw [range_get]
end Go.Proofs.YtcembcicpmhpkaaGreatDoor

/-
  Layer 16: the document's same as a call that turns no memory; several of the document's rules appended.
-/
namespace Go.Proofs.YtcembcicpmhpkaaGreatDoor
open Go.RowKit Go.Shelf Go.Maps
set_option linter.unusedVariables false

theorem dn_more {w wr : World} (h : ∃ m, wr = w.drewN m) (n : Nat) : ∃ m, wr.drewN n = w.drewN m := by
  obtain ⟨m, rfl⟩ := h
  exact ⟨m + n, World.drewN_drewN _ _ _⟩
set_option maxRecDepth 100000 in
set_option maxHeartbeats 8000000 in
theorem sameDq_any (A A' : Option Addr) (n c m c' : Nat) (C C' : Nat → CD) (w : World) (hn : n ≤ 9223372036854775807) (hA : ConA w A n C) (hA' : ConA w A' m C') :
    Calls Tryz.prog 49 #[.slice A n c, .slice A' m c'] w fun e w' => e = .returned (.bool (decide ((List.range n).map C = (List.range m).map C'))) ∧ ∃ m, w' = w.drewN m := by
  by_cases hnm : n = m
  · subst hnm
    have HA := Lib.hid hA
    have HA' := Lib.hid hA'
    clear hA hA'
    go_enter Tryz.func49, Tryz.ntmps49
    go_wp2
    go_loopw [5] (fun i wr => ∃ q : Nat, q ≤ n ∧ i = .int .i64 q ∧ Hid ((∃ m, wr = w.drewN m) ∧ ∀ j, j < q → C j = C' j)) (fun i _ => n - (intOf i).toNat)
    case atStart => exact ⟨0, Nat.zero_le _, rfl, Lib.hid ⟨⟨0, rfl⟩, fun j hj => absurd hj (Nat.not_lt_zero _)⟩⟩
    case round =>
      obtain ⟨q, hq, rfl, HI⟩ := hrel
      have HBW : Hid (Below w.heap.size w wr) := Lib.hid (by obtain ⟨m, e⟩ := HI.out.1; rw [e]; exact bdn (Below.refl _ _) m)
      by_cases hlt : q < n
      · obtain ⟨x, hx⟩ : ∃ x, C q = x := ⟨_, rfl⟩
        obtain ⟨y, hy⟩ : ∃ y, C' q = y := ⟨_, rfl⟩
        obtain ⟨b, o, rfl, c0, c1, c2, c3⟩ := (HA.out.below HBW.out (Nat.le_refl _)).four hlt hx
        obtain ⟨b', o', rfl, d0, d1, d2, d3⟩ := (HA'.out.below HBW.out (Nat.le_refl _)).four hlt hy
        have HXY := Lib.hid (And.intro hx hy)
        clear hx hy
        have i1 : (0 : Int) ≤ (q : Int) := by omega
        have i2 : (q : Int) < (n : Int) := by omega
        by_cases he : x = y
        · subst he
          obtain ⟨a1, o1, m1, v1⟩ := x
          simp only at c0 c1 c2 c3 d0 d1 d2 d3
          go_wp2_with fail
          go_quiet (fail)
          go_wp2
          exact ⟨⟨q + 1, by omega, by go_num, Lib.hid ⟨dn_more HI.out.1 nq, fun j hj => by
            by_cases e : j = q
            · subst e; rw [HXY.out.1, HXY.out.2]
            · exact HI.out.2 j (by omega)⟩⟩, by simp [intOf]; omega⟩
        · have hcs := cd_cases x y
          have HNE := Lib.hid he
          rcases hcs with h | h | ⟨h', h⟩ | ⟨h', h'', h⟩ | ⟨h', h'', h''', h⟩
          · exact absurd h he
          all_goals
            obtain ⟨a1, o1, m1, v1⟩ := x
            obtain ⟨a2, o2, m2, v2⟩ := y
            simp only at c0 c1 c2 c3 d0 d1 d2 d3
            simp only at h
            (try simp only at h')
            (try simp only at h'')
            (try simp only at h''')
            (try subst h')
            (try subst h'')
            (try subst h''')
            clear he
            go_wp2_with fail
            go_quiet (fail)
            go_wp2
            go_ret
            refine ⟨?_, dn_more HI.out.1 nq⟩
            rw [decide_eq_false (range_ne hlt (by rw [HXY.out.1, HXY.out.2]; exact HNE.out))]
            rfl
      · obtain rfl : q = n := by omega
        go_wp2
        go_ret
        refine ⟨?_, HI.out.1⟩
        rw [decide_eq_true (List.map_congr_left fun j hj => HI.out.2 j (List.mem_range.1 hj))]
        rfl
  · have hne : ¬ (n : Int) = (m : Int) := by omega
    have hd : ¬ (List.range n).map C = (List.range m).map C' := fun e => hnm (by simpa using congrArg List.length e)
    have HD := Lib.hid hd
    clear hd hA hA'
    go_enter Tryz.func49, Tryz.ntmps49
    go_wp2
    go_ret
    refine ⟨?_, 0, rfl⟩
    rw [decide_eq_false HD.out]
    rfl
theorem RlE.take {w : World} {A : Option Addr} {l : List RL} (h : RlE w A l) (m : Nat) : RlE w A (l.take m) := by
  refine ⟨?_, fun r hr => h.2 r (List.mem_of_mem_take hr)⟩
  rcases h.1 with h0 | ⟨b, o, rfl, hl, hc⟩
  · exact .inl (by rw [h0]; simp)
  · refine .inr ⟨b, o, rfl, hl, fun i hi => ?_⟩
    have hi' : i < l.length := by rw [List.length_take] at hi; omega
    have e : (l.take m)[i]! = l[i]! := by
      rw [getElem!_pos (l.take m) i hi, getElem!_pos l i hi', List.getElem_take]
    rw [e]
    exact hc i hi'
/-- Rules appended. -/
theorem wp_rulesE {w : World} {o : Oper} {a : Act} {K : Act → World → Prop} {Q : Exit → Act → World → Prop} (s x : Operand)
    (ho : o.op = .call { callee := .builtin .append, args := #[s, x], argTypes := #[24, 24] })
    {base c d : Nat} {A A5 : Option Addr} {l l5 : List RL} (hs : a.eval s = .slice A l.length c) (hown : RowE w base A l c) (hx : a.eval x = .slice A5 l5.length d) (h5 : RlE w A5 l5)
    (hn : l.length + l5.length ≤ 1000000000) (hd : l5.length ≤ d) (hz : A5 = none → d = 0) (hbase : base ≤ w.heap.size)
    (h : ∀ A' c' w', RowE w' base A' (l ++ l5) c' → w.grownBy w' (Value.slice A l.length c).ownBlock → KeepD w w' → Below base w w' → K (a.put o.dst (.slice A' (l ++ l5).length c')) w') :
    Oper.wp Tryz.prog o a w K Q := by
  obtain ⟨i, hi, hz0, hsz, hby⟩ := info_parts infoRuE
  rcases A5 with _ | ⟨ab, ao, asp⟩
  · have hd0 : d = 0 := hz rfl
    have h50 : l5 = [] := List.eq_nil_of_length_eq_zero (by omega)
    subst h50 hd0
    have hrun := run_append_owned_none (P := Tryz.prog) (w := w) base 24 o.type 47 i 4 Tryz.underlying24 hi (.slice A l.length c) l.length _ hown.1
    have hK := h A c w (by rw [List.append_nil]; exact hown) (World.grownBy.refl _ _) (KeepD.refl _) (Below.refl _ _)
    rw [List.append_nil] at hK
    unfold Oper.wp execOp
    simp only [ho, resolve, invoke, builtin, Sem.run_bind, Sem.run_pure, Result.andThen_ok, List.map_toArray, List.map_cons, List.map_nil, hs, hx, List.length_nil, hrun]
    exact hK
  · have hnews : ∀ j v, (l5.flatMap rrow)[j]? = some v → w.cell? ((⟨ab, ao, asp⟩ : Addr).add j) = some v := fun j v hv => by
      rcases h5.1 with h0 | ⟨b, o5, he, hl, hc⟩
      · rw [h0] at hv; simp at hv
      · obtain ⟨rfl, rfl, rfl⟩ : ab = b ∧ ao = o5 ∧ asp = none := by simpa using he
        have hj : j < l5.length * 4 := by
          rw [← flat_len rrow (fun _ => rfl) l5]
          exact (List.getElem?_eq_some_iff.1 hv).1
        obtain ⟨q, t, hq, ht, rfl⟩ : ∃ q t, q < l5.length ∧ t < 4 ∧ j = q * 4 + t := ⟨j / 4, j % 4, by omega, by omega, by omega⟩
        rw [flat_at rrow (fun _ => rfl) l5 q t hq ht] at hv
        rw [addR, ← Nat.add_assoc]
        obtain ⟨h0, h1, h2, h3⟩ := hc q hq
        have : t = 0 ∨ t = 1 ∨ t = 2 ∨ t = 3 := by omega
        rcases this with rfl | rfl | rfl | rfl
        · exact h0.trans hv
        · exact h1.trans hv
        · exact h2.trans hv
        · exact h3.trans hv
    obtain ⟨v', w', hr, h2, h3, _, _⟩ := run_append_own_at (P := Tryz.prog) w base 24 o.type 47 i _ 4 56 Tryz.underlying24 hi hz0 hsz hby (by rfl) (by decide) _ l.length _ hown.1 ⟨ab, ao, asp⟩ l5.length d (l5.flatMap rrow) (flat_len rrow (fun _ => rfl) l5) hnews (flat_one rrow rrow_one l5) (by unfold maxLen; omega) (by omega) hbase
    have hk : KeepD w w' := KeepD.grown h3 fun b hb => ⟨_, hown.ty b hb, by decide⟩
    have hB : Below base w w' := (Below.refl _ _).grown h3 hbase (fun k hk => (hown.1.lt k hk).1)
    rcases ownsRow_parts h2 with ⟨A', c', rfl⟩
    have hK := h A' c' w' ⟨by rw [List.length_append, List.flatMap_append]; exact h2, fun q hq => by
      rcases List.mem_append.1 hq with hq | hq
      · exact (hown.2 q hq).keep hk
      · exact (h5.2 q hq).keep hk⟩ h3 hk hB
    unfold Oper.wp execOp
    simp only [ho, resolve, invoke, builtin, Sem.run_bind, Sem.run_pure, Result.andThen_ok, List.map_toArray, List.map_cons, List.map_nil, hs, hx, hr]
    rw [List.length_append] at hK
    exact hK
/-- The same for the walk. -/
theorem app_rulesE {w : World} {ops : Array Oper} {rest : List Oper} {o : Oper} {a : Act} {Q : Exit → Act → World → Prop} (hgd : o.guard = none) (s x : Operand)
    (ho : o.op = .call { callee := .builtin .append, args := #[s, x], argTypes := #[24, 24] })
    {base c d : Nat} {A A5 : Option Addr} {l l5 : List RL} (hs : a.eval s = .slice A l.length c) (hown : RowE w base A l c) (hx : a.eval x = .slice A5 l5.length d) (h5 : RlE w A5 l5)
    (hn : l.length + l5.length ≤ 1000000000) (hd : l5.length ≤ d) (hz : A5 = none → d = 0) (hbase : base ≤ w.heap.size)
    (h : ∀ A' c' w', RowE w' base A' (l ++ l5) c' → w.grownBy w' (Value.slice A l.length c).ownBlock → KeepD w w' → Below base w w' → wpList Tryz.prog ops Q rest (a.put o.dst (.slice A' (l ++ l5).length c')) w') :
    wpList Tryz.prog ops Q (o :: rest) a w :=
  wpList_plain hgd fun _ hK => wp_rulesE s x ho hs hown hx h5 hn hd hz hbase fun A' c' w' h1 h2 h3 h4 => hK _ _ (h A' c' w' h1 h2 h3 h4)
end Go.Proofs.YtcembcicpmhpkaaGreatDoor

/-
  Layer 16: what the document's normal form of a policy keeps, name after name and rule after rule.
-/
namespace Go.Proofs.YtcembcicpmhpkaaGreatDoor
open Go.RowKit Go.Shelf Go.Maps
set_option linter.unusedVariables false

abbrev zPo : Array Value := polA 0 0 false none 0 0
/-- What the document's Policy keeps, name after name. -/
structure PW (W1 : World) (B : Nat) (k u : Int) (x : Bool) (n : Nat) (V : Nat → RV) (ss : List (List UInt8)) (D : Nat → Bool) (A' : Option Addr) (l' : List RL) (c' : Nat) (wr : World) : Prop where
  out : RowC wr (B + 2) (polA k u x A' l'.length c') 26
  don : RowC wr (B + 3) (boolRow n D) 4
  row : RowE wr (B + 4) A' l' c'
  low : Below (B + 2) W1 wr
  pick : PickI (fun i => (V i).key) n D ss
  val : l'.map RL.val = ss.flatMap fun s => utl k u (unh (grp ((List.range n).map V) s))
  len : l'.length ≤ 500 * ss.length
  cnt : ss.length + left D n ≤ n
theorem infoP14 : (Tryz.prog.info? 26).map (·.size) = some 4 := by kernel_rfl
def isF : Option Value → Bool
  | some (.bool false) => true
  | _ => false
def leftW (wr : World) (b n : Nat) : Nat := ((List.range n).filter fun i => isF (wr.cell? ⟨b, i, none⟩)).length
theorem leftW_eq {wr : World} {b n : Nat} {D : Nat → Bool} (h : RowC wr b (boolRow n D) 4) : leftW wr b n = left D n := by
  unfold leftW left
  congr 1
  refine List.filter_congr fun i hi => ?_
  rw [h.cell i _ (boolRow_at n D i (List.mem_range.1 hi))]
  cases D i <;> rfl
theorem PW.below {W1 : World} {B : Nat} {k u : Int} {x : Bool} {n : Nat} {V : Nat → RV} {ss : List (List UInt8)} {D : Nat → Bool} {A' : Option Addr} {l' : List RL} {c' : Nat} {wr w' : World} (h : PW W1 B k u x n V ss D A' l' c' wr) (hb : Below wr.heap.size wr w') : PW W1 B k u x n V ss D A' l' c' w' where
  out := h.out.below hb h.out.lt
  don := h.don.below hb h.don.lt
  row := h.row.below hb (Nat.le_refl _)
  low := h.low.trans (hb.mono (by have := h.out.lt; omega))
  pick := h.pick
  val := h.val
  len := h.len
  cnt := h.cnt
def atV : Option Nat → Value
  | none => .int .i64 (-1)
  | some a => .int .i64 a
/-- What the document's Policy keeps while it goes through a name's rules. -/
structure PM (W1 : World) (B : Nat) (k u : Int) (x : Bool) (n a p : Nat) (V : Nat → RV) (D : Nat → Bool) (A' : Option Addr) (l' : List RL) (c' : Nat) (A2 : Option Addr) (l2 : List RL) (c2 : Nat) (wr : World) : Prop where
  out : RowC wr (B + 2) (polA k u x A' l'.length c') 26
  don : RowC wr (B + 3) (boolRow n fun i => D i || (decide (i < p) && (V i).key == (V a).key)) 4
  row : RowE wr (B + 4) A' l' c'
  low : Below (B + 2) W1 wr
  row2 : RowE wr (B + 4) A2 l2 c2
  apart : ∀ g, (Value.slice A2 l2.length c2).ownBlock = some g → (Value.slice A' l'.length c').ownBlock ≠ some g
  val2 : l2.map RL.val = unh (grp ((List.range p).map V) (V a).key)
  len2 : l2.length ≤ p
theorem PM.below {W1 : World} {B : Nat} {k u : Int} {x : Bool} {n a p : Nat} {V : Nat → RV} {D : Nat → Bool} {A' : Option Addr} {l' : List RL} {c' : Nat} {A2 : Option Addr} {l2 : List RL} {c2 : Nat} {wr w' : World} (h : PM W1 B k u x n a p V D A' l' c' A2 l2 c2 wr) (hb : Below wr.heap.size wr w') : PM W1 B k u x n a p V D A' l' c' A2 l2 c2 w' where
  out := h.out.below hb h.out.lt
  don := h.don.below hb h.don.lt
  row := h.row.below hb (Nat.le_refl _)
  low := h.low.trans (hb.mono (by have := h.out.lt; omega))
  row2 := h.row2.below hb (Nat.le_refl _)
  apart := h.apart
  val2 := h.val2
  len2 := h.len2
theorem PM.pass {W1 : World} {B : Nat} {k u : Int} {x : Bool} {n a p : Nat} {V : Nat → RV} {D : Nat → Bool} {A' : Option Addr} {l' : List RL} {c' : Nat} {A2 : Option Addr} {l2 : List RL} {c2 : Nat} {wr : World} (h : PM W1 B k u x n a p V D A' l' c' A2 l2 c2 wr) (hk : ((V p).key == (V a).key) = false) : PM W1 B k u x n a (p + 1) V D A' l' c' A2 l2 c2 wr where
  out := h.out
  don := by
    have e : (fun i => D i || (decide (i < p + 1) && (V i).key == (V a).key)) = fun i => D i || (decide (i < p) && (V i).key == (V a).key) := funext fun i => by
      by_cases e : i = p
      · subst e; rw [hk]; simp
      · have : decide (i < p + 1) = decide (i < p) := decide_eq_decide.2 (by omega)
        rw [this]
    rw [e]
    exact h.don
  row := h.row
  low := h.low
  row2 := h.row2
  apart := h.apart
  val2 := by rw [unh_next, if_neg (beq_eq_false_iff_ne.1 hk)]; exact h.val2
  len2 := by have := h.len2; omega

/-- A row of rules lies in no block of another type. -/
theorem RowE.ne {w : World} {base : Nat} {A : Option Addr} {l : List RL} {c b : Nat} {cs : Array Value} {T : TypeId} (h : RowE w base A l c) (hb : RowC w b cs T) (hT : T ≠ 47) : some b ≠ (Value.slice A l.length c).ownBlock := fun e => by
  obtain ⟨cs', fr', h1⟩ := h.ty b e.symm
  rw [show w.heap[b]? = _ from hb] at h1
  cases h1
  exact hT rfl
theorem RowE.none_ {w : World} {base : Nat} {l : List RL} {c : Nat} {A : Option Addr} (h : RowE w base A l c) (hA : A = none) : c = 0 := by
  subst hA
  rcases h.1.2 with ⟨hv, _⟩ | ⟨gg, cap, cur, hv, _⟩
  · injection hv
  · injection hv with e; cases e
/-- The same while the inner loop goes: the rule p is marked as done, its normal form is not yet put. -/
structure PN (W1 : World) (B : Nat) (k u : Int) (x : Bool) (n a p : Nat) (V : Nat → RV) (D : Nat → Bool) (A' : Option Addr) (l' : List RL) (c' : Nat) (A2 : Option Addr) (l2 : List RL) (c2 : Nat) (wr : World) : Prop where
  out : RowC wr (B + 2) (polA k u x A' l'.length c') 26
  don : RowC wr (B + 3) (boolRow n fun i => D i || (decide (i < p + 1) && (V i).key == (V a).key)) 4
  row : RowE wr (B + 4) A' l' c'
  low : Below (B + 2) W1 wr
  row2 : RowE wr (B + 4) A2 l2 c2
  apart : ∀ g, (Value.slice A2 l2.length c2).ownBlock = some g → (Value.slice A' l'.length c').ownBlock ≠ some g
  val2 : l2.map RL.val = unh (grp ((List.range p).map V) (V a).key)
  len2 : l2.length ≤ p
theorem PN.below {W1 : World} {B : Nat} {k u : Int} {x : Bool} {n a p : Nat} {V : Nat → RV} {D : Nat → Bool} {A' : Option Addr} {l' : List RL} {c' : Nat} {A2 : Option Addr} {l2 : List RL} {c2 : Nat} {wr w' : World} (h : PN W1 B k u x n a p V D A' l' c' A2 l2 c2 wr) (hb : Below wr.heap.size wr w') : PN W1 B k u x n a p V D A' l' c' A2 l2 c2 w' where
  out := h.out.below hb h.out.lt
  don := h.don.below hb h.don.lt
  row := h.row.below hb (Nat.le_refl _)
  low := h.low.trans (hb.mono (by have := h.out.lt; omega))
  row2 := h.row2.below hb (Nat.le_refl _)
  apart := h.apart
  val2 := h.val2
  len2 := h.len2
theorem PM.mark {W1 : World} {B : Nat} {k u : Int} {x : Bool} {n a p : Nat} {V : Nat → RV} {D : Nat → Bool} {A' : Option Addr} {l' : List RL} {c' : Nat} {A2 : Option Addr} {l2 : List RL} {c2 : Nat} {wr : World} (h : PM W1 B k u x n a p V D A' l' c' A2 l2 c2 wr) (hk : ((V p).key == (V a).key) = true) : PN W1 B k u x n a p V D A' l' c' A2 l2 c2 (wr.setCell ⟨B + 3, p, none⟩ (.bool true)) where
  out := h.out.setOther _ _ (by omega)
  don := by
    have e : (fun i => (D i || (decide (i < p) && (V i).key == (V a).key)) || i == p) = fun i => D i || (decide (i < p + 1) && (V i).key == (V a).key) := funext fun i => by
      by_cases e : i = p
      · subst e; simp [hk]
      · have e1 : decide (i < p + 1) = decide (i < p) := decide_eq_decide.2 (by omega)
        have e2 : (i == p) = false := by simpa using e
        rw [e1, e2, Bool.or_false]
    rw [← e]
    exact h.don.setBool p
  row := h.row.setLow h.don.ty (by decide) (by decide) _ _
  low := h.low.setCell (Nat.le_succ _) _
  row2 := h.row2.setLow h.don.ty (by decide) (by decide) _ _
  apart := h.apart
  val2 := h.val2
  len2 := h.len2
theorem PN.no {W1 : World} {B : Nat} {k u : Int} {x : Bool} {n a p : Nat} {V : Nat → RV} {D : Nat → Bool} {A' : Option Addr} {l' : List RL} {c' : Nat} {A2 : Option Addr} {l2 : List RL} {c2 : Nat} {wr : World} (h : PN W1 B k u x n a p V D A' l' c' A2 l2 c2 wr)
    (hk : ((V p).key == (V a).key) = true) (hn : ∀ r, nR (V p) = some r → (l2.map RL.val).any (hides r) = true) : PM W1 B k u x n a (p + 1) V D A' l' c' A2 l2 c2 wr where
  out := h.out
  don := h.don
  row := h.row
  low := h.low
  row2 := h.row2
  apart := h.apart
  val2 := by
    rw [unh_next, if_pos (beq_iff_eq.1 hk), ← h.val2]
    rcases e : nR (V p) with _ | r
    · rfl
    · dsimp only
      rw [if_pos (hn r e)]
  len2 := by have := h.len2; omega
theorem PN.app {W1 : World} {B : Nat} {k u : Int} {x : Bool} {n a p : Nat} {V : Nat → RV} {D : Nat → Bool} {A' : Option Addr} {l' : List RL} {c' : Nat} {A2 : Option Addr} {l2 : List RL} {c2 : Nat} {wr w' : World} (h : PN W1 B k u x n a p V D A' l' c' A2 l2 c2 wr)
    (hk : ((V p).key == (V a).key) = true) {r : RL} (hn : nR (V p) = some r.val) (ha : (l2.map RL.val).any (hides r.val) = false) {g c3 : Nat} (hrow : RowE w' (B + 4) (some ⟨g, 0, none⟩) (l2 ++ [r]) c3) (hg : wr.grownBy w' (Value.slice A2 l2.length c2).ownBlock) (hgg : (Value.slice A2 l2.length c2).ownBlock = some g ∨ g = wr.heap.size) (hkd : KeepD wr w') (hB : Below (B + 4) wr w') :
    PM W1 B k u x n a (p + 1) V D A' l' c' (some ⟨g, 0, none⟩) (l2 ++ [r]) c3 w' where
  out := rowc_grown' hg h.out (h.row2.ne h.out (by decide))
  don := rowc_grown' hg h.don (h.row2.ne h.don (by decide))
  row := h.row.kept hg (by
    rcases e : (Value.slice A' l'.length c').ownBlock with _ | q
    · exact .inl rfl
    · refine .inr fun e2 => ?_
      exact h.apart q e2.symm e) hkd
  low := h.low.trans (hB.mono (by omega))
  row2 := hrow
  apart := fun q hq e => by
    have hq' : q = g := by simpa [Value.ownBlock] using hq.symm
    subst hq'
    rcases hgg with h1 | h1
    · exact h.apart q h1 e
    · have := (h.row.1.lt q e).2; omega
  val2 := by
    rw [unh_next, if_pos (beq_iff_eq.1 hk), ← h.val2, hn]
    dsimp only
    rw [if_neg (by rw [ha]; simp), List.map_append]
    rfl
  len2 := by have := h.len2; rw [List.length_append]; simp; omega
theorem left_all (n : Nat) : left (fun _ => false) n = n := by
  have e : ((List.range n).filter fun _ => !false) = List.range n := List.filter_eq_self.2 (fun _ _ => rfl)
  show ((List.range n).filter fun _ => !false).length = n
  rw [e, List.length_range]
/-- A name more is done. -/
theorem PM.done {W1 : World} {B : Nat} {k u : Int} {x : Bool} {n a : Nat} {V : Nat → RV} {D : Nat → Bool} {ss : List (List UInt8)} {A' : Option Addr} {l' : List RL} {c' : Nat} {A2 : Option Addr} {l2 : List RL} {c2 m c3 : Nat} {A3 : Option Addr} {wr wp w' : World} (h : PM W1 B k u x n a n V D A' l' c' A2 l2 c2 wr)
    (hw : PW W1 B k u x n V ss D A' l' c' wp) (hL : LeastI (fun i => (V i).key) D n (some a)) (hm : (l2.take m).map RL.val = utl k u (l2.map RL.val)) (hn : n ≤ 500)
    (hrow : RowE w' (B + 4) A3 (l' ++ l2.take m) c3) (hg : wr.grownBy w' (Value.slice A' l'.length c').ownBlock) (hB : Below (B + 4) wr w') :
    PW W1 B k u x n V (ss ++ [(V a).key]) (fun i => D i || (V i).key == (V a).key) A3 (l' ++ l2.take m) c3 (w'.setCell ⟨B + 2, 3, none⟩ (.slice A3 (l' ++ l2.take m).length c3)) where
  out := by
    have ho := rowc_grown' hg h.out (h.row.ne h.out (by decide))
    exact ho.set 3 _
  don := by
    have ho := rowc_grown' hg h.don (h.row.ne h.don (by decide))
    have e : boolRow n (fun i => D i || (decide (i < n) && (V i).key == (V a).key)) = boolRow n (fun i => D i || (V i).key == (V a).key) := by
      unfold boolRow
      congr 1
      refine List.map_congr_left fun i hi => ?_
      dsimp only
      rw [decide_eq_true (List.mem_range.1 hi), Bool.true_and]
    rw [e] at ho
    exact ho.setOther _ _ (by omega)
  row := by
    have ho := rowc_grown' hg h.out (h.row.ne h.out (by decide))
    exact hrow.setLow ho.ty (by decide) (by decide) _ _
  low := (h.low.trans (hB.mono (by omega))).setCell (Nat.le_refl _) _
  pick := hw.pick.next hL
  val := by rw [List.map_append, hw.val, hm, h.val2, List.flatMap_append]; simp
  len := by
    have h1 := hw.len
    have h2 := h.len2
    have h3 : (l2.take m).length ≤ l2.length := by rw [List.length_take]; omega
    rw [List.length_append, List.length_append, List.length_singleton]
    omega
  cnt := by
    have h1 := hw.cnt
    have h2 := left_next hL
    rw [List.length_append, List.length_singleton]
    have e : (fun i => D i || (fun i => (V i).key) i == (fun i => (V i).key) a) = fun i => D i || (V i).key == (V a).key := rfl
    rw [e] at h2
    omega
end Go.Proofs.YtcembcicpmhpkaaGreatDoor
