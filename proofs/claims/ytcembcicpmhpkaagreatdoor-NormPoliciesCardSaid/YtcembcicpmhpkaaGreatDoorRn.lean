/-
  The document's rules in memory, as rows that a law makes of its own (made out of Rd, Zc, Rf: other types).
-/
import Derived.Test.YtcembcicpmhpkaaGreatDoorMk
namespace Go.Proofs.YtcembcicpmhpkaaGreatDoor
open Go.RowKit Go.Shelf Go.Lib Go.Sort
set_option linter.unusedVariables false

/-- No block of conditions has turned. -/
def KeepD (w w' : World) : Prop := ∀ (b : Nat) (cs : Array Value) (fr : Nat × Nat), w.heap[b]? = some (.cells cs 61 fr) → w'.heap[b]? = w.heap[b]?
theorem KeepD.refl (w : World) : KeepD w w := fun _ _ _ _ => rfl
theorem KeepD.trans {w w' w'' : World} (h : KeepD w w') (h' : KeepD w' w'') : KeepD w w'' := fun b cs fr hb => (h' b cs fr ((h b cs fr hb).trans hb)).trans (h b cs fr hb)
theorem KeepD.of_below {B : Nat} {w w' : World} (h : Below B w w') (hB : w.heap.size ≤ B) : KeepD w w' := fun b cs fr hb => h.block b (Nat.lt_of_lt_of_le (Array.getElem?_eq_some_iff.1 hb).1 hB)
theorem KeepD.alloc {w w' : World} (h : KeepD w w') (o : Obj) : KeepD w (w'.alloc o) := h.trans fun b cs fr hb => Below.heap_alloc _ _ _ (Array.getElem?_eq_some_iff.1 hb).1
theorem KeepD.drewN {w w' : World} (h : KeepD w w') (n : Nat) : KeepD w (w'.drewN n) := h
theorem KeepD.drew {w w' : World} (h : KeepD w w') : KeepD w w'.drew := h
theorem KeepD.grown {w w' : World} {row : Option Nat} (h : w.grownBy w' row) (hr : ∀ g, row = some g → ∃ T, TyAt w g T ∧ T ≠ 61) : KeepD w w' := fun b cs fr hb => h.block b (Array.getElem?_eq_some_iff.1 hb).1 fun e => by
  obtain ⟨T, ⟨cs', fr', h1⟩, h2⟩ := hr b e.symm
  rw [hb] at h1
  cases h1
  exact h2 rfl
theorem KeepD.set {w w' : World} {g : Nat} {T : TypeId} (h : KeepD w w') (hg : TyAt w' g T) (hT : T ≠ 61) (i : Nat) (v : Value) : KeepD w (w'.setCell ⟨g, i, none⟩ v) := h.trans fun b cs fr hb => Below.heap_setCell w' ⟨g, i, none⟩ v b fun e => by
  obtain ⟨cs', fr', h1⟩ := hg
  have e' : b = g := e
  subst e'
  rw [hb] at h1
  cases h1
  exact hT rfl
/-- Conditions in a block of conditions. -/
def ConE (w : World) (A : Option Addr) (n : Nat) (C : Nat → CD) : Prop := n = 0 ∨ ∃ b o cs, ∃ fr : Nat × Nat, A = some ⟨b, o, none⟩ ∧ w.heap[b]? = some (.cells cs 61 fr) ∧ ∀ i, i < n →
  cs[o + i * 4 + 0]? = some (.int .i64 (C i).a) ∧ cs[o + i * 4 + 1]? = some (.int .i64 (C i).o) ∧ cs[o + i * 4 + 2]? = some (.int .u64 (C i).m) ∧ cs[o + i * 4 + 3]? = some (.int .u64 (C i).v) ∧
  (C i).m ≤ 18446744073709551615 ∧ (C i).v ≤ 18446744073709551615
theorem ConE.keep {w w' : World} {A : Option Addr} {n : Nat} {C : Nat → CD} (h : ConE w A n C) (hk : KeepD w w') : ConE w' A n C := by
  rcases h with h | ⟨b, o, cs, fr, rfl, hb, hc⟩
  · exact .inl h
  · exact .inr ⟨b, o, cs, fr, rfl, (hk b cs fr hb).trans hb, hc⟩
theorem ConE.conA {w : World} {A : Option Addr} {n : Nat} {C : Nat → CD} (h : ConE w A n C) : ConA w A n C := by
  rcases h with h | ⟨b, o, cs, fr, rfl, hb, hc⟩
  · exact .inl h
  · refine .inr ⟨b, o, rfl, (Array.getElem?_eq_some_iff.1 hb).1, fun i hi => ?_⟩
    obtain ⟨h0, h1, h2, h3, h4, h5⟩ := hc i hi
    exact ⟨(cell_of_row w b _ cs _ fr hb).trans h0, (cell_of_row w b _ cs _ fr hb).trans h1, (cell_of_row w b _ cs _ fr hb).trans h2, (cell_of_row w b _ cs _ fr hb).trans h3, h4, h5⟩
theorem ConE.of_cells {w : World} {b o n : Nat} {C : Nat → CD} (ht : TyAt w b 61) (hc : ∀ i, i < n → w.cell? ⟨b, o + i * 4 + 0, none⟩ = some (.int .i64 (C i).a) ∧ w.cell? ⟨b, o + i * 4 + 1, none⟩ = some (.int .i64 (C i).o) ∧ w.cell? ⟨b, o + i * 4 + 2, none⟩ = some (.int .u64 (C i).m) ∧ w.cell? ⟨b, o + i * 4 + 3, none⟩ = some (.int .u64 (C i).v))
    (hb : ∀ i, i < n → (C i).m ≤ 18446744073709551615 ∧ (C i).v ≤ 18446744073709551615) : ConE w (some ⟨b, o, none⟩) n C := by
  obtain ⟨cs, fr, h⟩ := ht
  refine .inr ⟨b, o, cs, fr, rfl, h, fun i hi => ?_⟩
  obtain ⟨h0, h1, h2, h3⟩ := hc i hi
  rw [cell_of_row w b _ cs _ fr h] at h0 h1 h2 h3
  exact ⟨h0, h1, h2, h3, (hb i hi).1, (hb i hi).2⟩
/-- What a rule's cells are good for. -/
def RuE (w : World) (r : RL) : Prop := r.nm.size ≤ maxLen ∧ (Lit.int .i64 r.k).wf = true ∧ (Lit.int .i64 r.u).wf = true ∧ r.n ≤ r.c ∧ r.c ≤ maxLen ∧ ConE w r.A r.n r.C
theorem RuE.keep {w w' : World} {r : RL} (h : RuE w r) (hk : KeepD w w') : RuE w' r := ⟨h.1, h.2.1, h.2.2.1, h.2.2.2.1, h.2.2.2.2.1, h.2.2.2.2.2.keep hk⟩
/-- The call's own row of rules. -/
def RowE (w : World) (base : Nat) (A : Option Addr) (l : List RL) (c : Nat) : Prop := w.ownsRow base 47 4 (.slice A l.length c) l.length (l.flatMap rrow) ∧ ∀ r ∈ l, RuE w r
/-- Rules that are read. -/
def RlE (w : World) (A : Option Addr) (l : List RL) : Prop := (l = [] ∨ ∃ b o, A = some ⟨b, o, none⟩ ∧ b < w.heap.size ∧ ∀ i, i < l.length →
  w.cell? ⟨b, o + i * 4 + 0, none⟩ = some (.string l[i]!.nm) ∧ w.cell? ⟨b, o + i * 4 + 1, none⟩ = some (.int .i64 l[i]!.k) ∧ w.cell? ⟨b, o + i * 4 + 2, none⟩ = some (.int .i64 l[i]!.u) ∧ w.cell? ⟨b, o + i * 4 + 3, none⟩ = some (.slice l[i]!.A l[i]!.n l[i]!.c)) ∧ ∀ r ∈ l, RuE w r
theorem RlE.below {w w' : World} {A : Option Addr} {l : List RL} {B : Nat} (h : RlE w A l) (hb : Below B w w') (hB : w.heap.size ≤ B) : RlE w' A l := by
  refine ⟨?_, fun r hr => (h.2 r hr).keep (KeepD.of_below hb hB)⟩
  rcases h.1 with h | ⟨b, o, rfl, hl, hc⟩
  · exact .inl h
  · refine .inr ⟨b, o, rfl, Nat.lt_of_lt_of_le hl hb.size, fun i hi => ?_⟩
    obtain ⟨h0, h1, h2, h3⟩ := hc i hi
    have hx : b < B := Nat.lt_of_lt_of_le hl hB
    exact ⟨(hb.cell hx).trans h0, (hb.cell hx).trans h1, (hb.cell hx).trans h2, (hb.cell hx).trans h3⟩
theorem RowE.rl {w : World} {base : Nat} {A : Option Addr} {l : List RL} {c : Nat} (h : RowE w base A l c) : RlE w A l := by
  refine ⟨?_, h.2⟩
  have hown := h.1
  rcases Nat.eq_zero_or_pos l.length with h0 | hp
  · exact .inl (List.eq_nil_of_length_eq_zero h0)
  · obtain ⟨gg, cap, hv, hg, hl⟩ := hown.form hp
    injection hv with e1 e2 e3
    subst e1
    refine .inr ⟨gg, 0, rfl, hl, fun i hi => ?_⟩
    have hcell : ∀ j, j < 4 → w.cell? ⟨gg, 0 + i * 4 + j, none⟩ = (rrow l[i]!)[j]? := fun j hj => by
      have hat := flat_at rrow (fun _ => rfl) l i j hi hj
      have hj' : j < (rrow l[i]!).length := hj
      obtain ⟨v, hv⟩ : ∃ v, (rrow l[i]!)[j]? = some v := ⟨_, List.getElem?_eq_getElem hj'⟩
      have hx := World.ownsRow.cells hown rfl (i * 4 + j) v (by rw [hat, hv])
      rw [hv, ← hx]
      congr 1
      unfold Addr.add
      split <;> simp_all
    exact ⟨hcell 0 (by decide), hcell 1 (by decide), hcell 2 (by decide), hcell 3 (by decide)⟩
theorem RowE.le {w : World} {base : Nat} {A : Option Addr} {l : List RL} {c : Nat} (h : RowE w base A l c) : l.length ≤ c ∧ c ≤ maxLen := by
  rcases h.1.2 with ⟨hv, h0⟩ | ⟨gg, cap, cur, hv, _, _, h1, h2, _⟩
  · injection hv with _ _ e3
    subst e3
    exact ⟨by omega, by simp [maxLen]⟩
  · injection hv with _ _ e3
    subst e3
    exact ⟨h1, h2⟩
theorem RowE.nil_ (w : World) (base : Nat) : RowE w base none [] 0 := ⟨World.ownsRow_nil _ _ _ _, fun _ h => by cases h⟩
theorem RowE.ty {w : World} {base : Nat} {A : Option Addr} {l : List RL} {c : Nat} (h : RowE w base A l c) : ∀ g, (Value.slice A l.length c).ownBlock = some g → TyAt w g 47 := fun g hg => by
  rcases h.1.2 with ⟨hv, h0⟩ | ⟨gg, cap, cur, hv, _, hh, _⟩
  · rw [hv] at hg; cases hg
  · rw [hv] at hg
    cases hg
    exact ⟨cur, _, hh⟩
theorem RowE.kept {w w' : World} {base : Nat} {A : Option Addr} {l : List RL} {c : Nat} {row : Option Nat} (h : RowE w base A l c) (hg : w.grownBy w' row) (hne : (Value.slice A l.length c).ownBlock = none ∨ (Value.slice A l.length c).ownBlock ≠ row) (hk : KeepD w w') : RowE w' base A l c :=
  ⟨h.1.kept hg hne, fun r hr => (h.2 r hr).keep hk⟩
theorem RowE.below {w w' : World} {base : Nat} {A : Option Addr} {l : List RL} {c B : Nat} (h : RowE w base A l c) (hb : Below B w w') (hB : w.heap.size ≤ B) : RowE w' base A l c := by
  refine ⟨?_, fun r hr => (h.2 r hr).keep (KeepD.of_below hb hB)⟩
  obtain ⟨h1, h2⟩ := h.1
  refine ⟨h1, ?_⟩
  rcases h2 with h2 | ⟨gg, cap, cur, hv, hg, hh, r⟩
  · exact Or.inl h2
  · exact Or.inr ⟨gg, cap, cur, hv, hg, (hb.block gg (Nat.lt_of_lt_of_le (Array.getElem?_eq_some_iff.1 hh).1 hB)).trans hh, r⟩
/-- A store into another block. -/
theorem RowE.setLow {w : World} {base : Nat} {A : Option Addr} {l : List RL} {c g : Nat} {T : TypeId} (h : RowE w base A l c) (hg : TyAt w g T) (h1 : T ≠ 61) (h2 : T ≠ 47) (i : Nat) (v : Value) : RowE (w.setCell ⟨g, i, none⟩ v) base A l c := by
  refine ⟨?_, fun r hr => (h.2 r hr).keep ((KeepD.refl w).set hg h1 i v)⟩
  obtain ⟨q1, q2⟩ := h.1
  refine ⟨q1, ?_⟩
  rcases q2 with q2 | ⟨gg, cap, cur, hv, hgg, hh, r⟩
  · exact Or.inl q2
  · refine Or.inr ⟨gg, cap, cur, hv, hgg, (Below.heap_setCell w ⟨g, i, none⟩ v gg (fun e => ?_)).trans hh, r⟩
    have e' : gg = g := e
    subst e'
    obtain ⟨cs, fr, ht⟩ := hg
    rw [hh] at ht
    cases ht
    exact h2 rfl
theorem infoRuE : (Tryz.prog.info? 47).map (fun i => (i.zero, i.size, i.bytes)) = some (some (.agg #[.string ⟨#[]⟩, .int .i64 0, .int .i64 0, .slice none 0 0]), 4, 56) := by kernel_rfl
/-- A rule appended. -/
theorem app_ruleE {w : World} {ops : Array Oper} {rest : List Oper} {o : Oper} {a : Act} {Q : Exit → Act → World → Prop} (hgd : o.guard = none) (s x : Operand)
    (ho : o.op = .call { callee := .builtin .append, args := #[s, x], argTypes := #[24, 24] })
    {base c d g1 : Nat} {A : Option Addr} {l : List RL} (hs : a.eval s = .slice A l.length c) (hown : RowE w base A l c) {r : RL} (hx : a.eval x = .slice (some ⟨g1, 0, none⟩) 1 d) (hg1 : RowC w g1 (rrow r).toArray 47) (hr : RuE w r)
    (hn : l.length ≤ 100000) (hbase : base ≤ w.heap.size)
    (h : ∀ g c' w', RowE w' base (some ⟨g, 0, none⟩) (l ++ [r]) c' → w.grownBy w' (Value.slice A l.length c).ownBlock → ((Value.slice A l.length c).ownBlock = some g ∨ g = w.heap.size) → KeepD w w' → Below base w w' → wpList Tryz.prog ops Q rest (a.put o.dst (.slice (some ⟨g, 0, none⟩) (l.length + 1) c')) w') : wpList Tryz.prog ops Q (o :: rest) a w := by
  obtain ⟨i, hi, hz, hsz, hby⟩ := info_parts infoRuE
  refine wpList_append_lies w hgd s x 24 ho base 47 i _ 4 56 Tryz.underlying24 hi hz hsz hby (by rfl) (by decide) _ l.length _ hs hown.1 ⟨g1, 0, none⟩ 1 d (rrow r) hx (by rfl) (World.news_of_block hg1) (rrow_one r) (by decide) (by unfold maxLen; omega) (by omega) hbase _ rfl ?_
  intro g cap w' h1 h2 h3 h4
  have hk : KeepD w w' := KeepD.grown h2 fun b hb => ⟨_, hown.ty b hb, by decide⟩
  have hB : Below base w w' := (Below.refl _ _).grown h2 hbase (fun k hk => (hown.1.lt k hk).1)
  refine h g cap w' ⟨?_, fun q hq => ?_⟩ h2 h3 hk hB
  · rw [flat_snoc] at h1
    simpa using h1
  · rcases List.mem_append.1 hq with hq | hq
    · exact (hown.2 q hq).keep hk
    · rw [List.mem_singleton] at hq
      subst hq
      exact hr.keep hk
/-- The call's own row of conditions. -/
def RowF (w : World) (base : Nat) (A : Option Addr) (M : List CD) (c : Nat) : Prop := w.ownsRow base 61 4 (.slice A M.length c) M.length (M.flatMap crow) ∧ (M = [] → A = none ∧ c = 0)
theorem RowF.nil_ (w : World) (base : Nat) : RowF w base none [] 0 := ⟨World.ownsRow_nil _ _ _ _, fun _ => ⟨rfl, rfl⟩⟩
theorem RowF.below {w w' : World} {base : Nat} {A : Option Addr} {M : List CD} {c B : Nat} (h : RowF w base A M c) (hb : Below B w w') (hB : w.heap.size ≤ B) : RowF w' base A M c := by
  refine ⟨?_, h.2⟩
  obtain ⟨h1, h2⟩ := h.1
  refine ⟨h1, ?_⟩
  rcases h2 with h2 | ⟨gg, cap, cur, hv, hg, hh, r⟩
  · exact Or.inl h2
  · exact Or.inr ⟨gg, cap, cur, hv, hg, (hb.block gg (Nat.lt_of_lt_of_le (Array.getElem?_eq_some_iff.1 hh).1 hB)).trans hh, r⟩
theorem RowF.alloc {w : World} {base : Nat} {A : Option Addr} {M : List CD} {c : Nat} (h : RowF w base A M c) (o : Obj) : RowF (w.alloc o) base A M c := h.below ((Below.refl w.heap.size w).alloc (Nat.le_refl _) o) (Nat.le_refl _)
theorem RowE.alloc {w : World} {base : Nat} {A : Option Addr} {l : List RL} {c : Nat} (h : RowE w base A l c) (o : Obj) : RowE (w.alloc o) base A l c := h.below ((Below.refl w.heap.size w).alloc (Nat.le_refl _) o) (Nat.le_refl _)
theorem RowE.drew {w : World} {base : Nat} {A : Option Addr} {l : List RL} {c : Nat} (h : RowE w base A l c) : RowE w.drew base A l c := h.below (B := w.heap.size) (Below.refl _ w).drew (Nat.le_refl _)
/-- A rule appended, as a step of a region that draws its order. -/
theorem step_ruleE {w : World} {ops : Array Oper} {o : Oper} {a : Act} {K : Act → World → Prop} {Q : Exit → Act → World → Prop} {R : Prop} (hgd : o.guard = none) (s x : Operand)
    (ho : o.op = .call { callee := .builtin .append, args := #[s, x], argTypes := #[24, 24] })
    {base c d g1 : Nat} {A : Option Addr} {l : List RL} (hs : a.eval s = .slice A l.length c) (hown : RowE w base A l c) {r : RL} (hx : a.eval x = .slice (some ⟨g1, 0, none⟩) 1 d) (hg1 : RowC w g1 (rrow r).toArray 47) (hr : RuE w r)
    (hn : l.length ≤ 100000) (hbase : base ≤ w.heap.size)
    (h : ∀ g c' w', RowE w' base (some ⟨g, 0, none⟩) (l ++ [r]) c' → w.grownBy w' (Value.slice A l.length c).ownBlock → ((Value.slice A l.length c).ownBlock = some g ∨ g = w.heap.size) → KeepD w w' → Below base w w' → K (a.put o.dst (.slice (some ⟨g, 0, none⟩) (l.length + 1) c')) w') :
    if Region.wanted o (yielded ops a.tmps) = true then Oper.wp Tryz.prog o a w K Q else R := by
  obtain ⟨i, hi, hz, hsz, hby⟩ := info_parts infoRuE
  refine step_append_lies w hgd s x 24 ho base 47 i _ 4 56 Tryz.underlying24 hi hz hsz hby (by rfl) (by decide) _ l.length _ hs hown.1 ⟨g1, 0, none⟩ 1 d (rrow r) hx (by rfl) (World.news_of_block hg1) (rrow_one r) (by decide) (by unfold maxLen; omega) (by omega) hbase _ rfl ?_
  intro g cap w' h1 h2 h3 h4
  have hk : KeepD w w' := KeepD.grown h2 fun b hb => ⟨_, hown.ty b hb, by decide⟩
  have hB : Below base w w' := (Below.refl _ _).grown h2 hbase (fun k hk => (hown.1.lt k hk).1)
  refine h g cap w' ⟨?_, fun q hq => ?_⟩ h2 h3 hk hB
  · rw [flat_snoc] at h1
    simpa using h1
  · rcases List.mem_append.1 hq with hq | hq
    · exact (hown.2 q hq).keep hk
    · rw [List.mem_singleton] at hq
      subst hq
      exact hr.keep hk
theorem infoC2E : (Tryz.prog.info? 61).map (fun i => (i.zero, i.size, i.bytes)) = some (some (.agg zN), 4, 32) := by kernel_rfl
/-- A condition appended, as a step of a region that draws its order. -/
theorem step_condE {w : World} {ops : Array Oper} {o : Oper} {a : Act} {K : Act → World → Prop} {Q : Exit → Act → World → Prop} {R : Prop} (hgd : o.guard = none) (s x : Operand)
    (ho : o.op = .call { callee := .builtin .append, args := #[s, x], argTypes := #[45, 45] })
    {base c d g1 : Nat} {A : Option Addr} {M : List CD} (hs : a.eval s = .slice A M.length c) (hown : RowF w base A M c) {r : CD} (hx : a.eval x = .slice (some ⟨g1, 0, none⟩) 1 d) (hg1 : RowC w g1 (crow r).toArray 61)
    (hn : M.length ≤ 100000) (hbase : base ≤ w.heap.size)
    (h : ∀ A' c' w', RowF w' base A' (M ++ [r]) c' → Below base w w' → K (a.put o.dst (.slice A' (M.length + 1) c')) w') :
    if Region.wanted o (yielded ops a.tmps) = true then Oper.wp Tryz.prog o a w K Q else R := by
  obtain ⟨i, hi, hz, hsz, hby⟩ := info_parts infoC2E
  refine step_append_lies w hgd s x 45 ho base 61 i _ 4 32 Tryz.underlying45 hi hz hsz hby (by rfl) (by decide) _ M.length _ hs hown.1 ⟨g1, 0, none⟩ 1 d (crow r) hx (by rfl) (World.news_of_block hg1) (crowL_one r) (by decide) (by unfold maxLen; omega) (by omega) hbase _ rfl ?_
  intro g cap w' h1 h2 h3 h4
  refine h (some ⟨g, 0, none⟩) cap w' ⟨?_, fun e => absurd e (by simp)⟩ ((Below.refl _ _).grown h2 hbase (fun k hk => (hown.1.lt k hk).1))
  have e : M.flatMap crow ++ crow r = (M ++ [r]).flatMap crow := by simp
  rw [e] at h1
  simpa using h1
theorem RowF.conE {w : World} {base : Nat} {A : Option Addr} {M : List CD} {c : Nat} (h : RowF w base A M c) (hb : ∀ x ∈ M, x.m ≤ 18446744073709551615 ∧ x.v ≤ 18446744073709551615) : ConE w A M.length (fun i => M[i]!) ∧ M.length ≤ c ∧ c ≤ maxLen := by
  rcases Nat.eq_zero_or_pos M.length with h0 | hp
  · obtain ⟨h1, h2⟩ := h.2 (List.eq_nil_of_length_eq_zero h0)
    exact ⟨.inl h0, by omega, by rw [h2]; simp [maxLen]⟩
  · have hown := h.1
    rcases hown.2 with ⟨_, h0⟩ | ⟨g, cap, cur, hv, hg, hh, h1, h2, _⟩
    · omega
    · injection hv with e1 e2 e3
      subst e1 e3
      refine ⟨ConE.of_cells ⟨cur, _, hh⟩ (fun i hi => ?_) fun i hi => hb _ (by rw [getElem!_pos M i hi]; exact List.getElem_mem hi), h1, h2⟩
      have hcell : ∀ j, j < 4 → w.cell? ⟨g, 0 + i * 4 + j, none⟩ = (crow M[i]!)[j]? := fun j hj => by
        have hat := flat_at crow (fun _ => rfl) M i j hi hj
        have hj' : j < (crow M[i]!).length := hj
        obtain ⟨v, hv⟩ : ∃ v, (crow M[i]!)[j]? = some v := ⟨_, List.getElem?_eq_getElem hj'⟩
        have hx := World.ownsRow.cells hown rfl (i * 4 + j) v (by rw [hat, hv])
        rw [hv, ← hx]
        congr 1
        unfold Addr.add
        split <;> simp_all
      exact ⟨hcell 0 (by decide), hcell 1 (by decide), hcell 2 (by decide), hcell 3 (by decide)⟩
/-- A row of rules as an argument of the document's. -/
theorem RlE.rla {w : World} {A : Option Addr} {l : List RL} (h : RlE w A l) : RlA w A l.length (fun i => l[i]!) := by
  rcases h.1 with h0 | ⟨b, o, rfl, hl, hc⟩
  · exact .inl (by rw [h0]; rfl)
  · refine .inr ⟨b, o, rfl, hl, fun i hi => ?_⟩
    obtain ⟨q0, q1, q2, q3⟩ := hc i hi
    have hr := h.2 l[i]! (by rw [getElem!_pos l i hi]; exact List.getElem_mem hi)
    exact ⟨q0, q1, q2, q3, hr.1, hr.2.1, hr.2.2.1, hr.2.2.2.1, hr.2.2.2.2.1, hr.2.2.2.2.2.conA⟩
theorem RowF.setLow {w : World} {base : Nat} {A : Option Addr} {M : List CD} {c g : Nat} {T : TypeId} (h : RowF w base A M c) (hg : TyAt w g T) (h1 : T ≠ 61) (i : Nat) (v : Value) : RowF (w.setCell ⟨g, i, none⟩ v) base A M c := by
  refine ⟨?_, h.2⟩
  obtain ⟨q1, q2⟩ := h.1
  refine ⟨q1, ?_⟩
  rcases q2 with q2 | ⟨gg, cap, cur, hv, hgg, hh, r⟩
  · exact Or.inl q2
  · refine Or.inr ⟨gg, cap, cur, hv, hgg, (Below.heap_setCell w ⟨g, i, none⟩ v gg (fun e => ?_)).trans hh, r⟩
    have e' : gg = g := e
    subst e'
    obtain ⟨cs, fr, ht⟩ := hg
    rw [hh] at ht
    cases ht
    exact h1 rfl
end Go.Proofs.YtcembcicpmhpkaaGreatDoor
