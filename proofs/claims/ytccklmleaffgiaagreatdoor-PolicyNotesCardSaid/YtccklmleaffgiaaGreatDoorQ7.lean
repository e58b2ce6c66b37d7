/-
  Rules in memory: rows of conditions keep as long as no block of conditions turns; rows of rules that a call owns, and that it reads.
-/
import Derived.Test.YtccklmleaffgiaaGreatDoorQ2
import Derived.Test.YtccklmleaffgiaaGreatDoorQ6
import Derived.Test.YtccklmleaffgiaaGreatDoorQ5
import Derived.Deep.AppendLies
import Derived.Deep.RegionHeld3
import Derived.Deep.LoopGhost
namespace Go.Proofs.YtccklmleaffgiaaGreatDoor
open Go.RowKit Go.Shelf
set_option linter.unusedVariables false

def rrow (r : RL) : List Value := [.string r.nm, .int .i64 r.k, .int .i64 r.u, .slice r.A r.n r.c]
theorem flat_at {α : Type} [Inhabited α] (f : α → List Value) (hf : ∀ x, (f x).length = 4) : ∀ (l : List α) (i c : Nat), i < l.length → c < 4 → (l.flatMap f)[i * 4 + c]? = (f l[i]!)[c]?
  | [], i, c, hi, _ => absurd hi (Nat.not_lt_zero _)
  | x :: t, 0, c, _, hc => by
    rw [List.flatMap_cons, Nat.zero_mul, Nat.zero_add, List.getElem?_append_left (by rw [hf]; exact hc)]
    rfl
  | x :: t, i + 1, c, hi, hc => by
    rw [List.flatMap_cons, List.getElem?_append_right (by rw [hf]; omega), hf, show (i + 1) * 4 + c - 4 = i * 4 + c by omega, flat_at f hf t i c (by simpa using hi) hc]
    rfl
theorem rrow_one (r : RL) : ∀ v ∈ rrow r, v.oneCell' = true := fun v hv => by
  simp [rrow] at hv
  rcases hv with rfl | rfl | rfl | rfl <;> rfl
/-- No block of conditions has turned. -/
def KeepC (w w' : World) : Prop := ∀ (b : Nat) (cs : Array Value) (fr : Nat × Nat), w.heap[b]? = some (.cells cs 53 fr) → w'.heap[b]? = w.heap[b]?
theorem KeepC.refl (w : World) : KeepC w w := fun _ _ _ _ => rfl
theorem KeepC.trans {w w' w'' : World} (h : KeepC w w') (h' : KeepC w' w'') : KeepC w w'' := fun b cs fr hb => (h' b cs fr ((h b cs fr hb).trans hb)).trans (h b cs fr hb)
theorem KeepC.of_below {B : Nat} {w w' : World} (h : Below B w w') (hB : w.heap.size ≤ B) : KeepC w w' := fun b cs fr hb => h.block b (Nat.lt_of_lt_of_le (Array.getElem?_eq_some_iff.1 hb).1 hB)
theorem KeepC.alloc {w w' : World} (h : KeepC w w') (o : Obj) : KeepC w (w'.alloc o) := h.trans fun b cs fr hb => Below.heap_alloc _ _ _ (Array.getElem?_eq_some_iff.1 hb).1
theorem KeepC.drewN {w w' : World} (h : KeepC w w') (n : Nat) : KeepC w (w'.drewN n) := h
theorem KeepC.drew {w w' : World} (h : KeepC w w') : KeepC w w'.drew := h
theorem KeepC.grown {w w' : World} {row : Option Nat} (h : w.grownBy w' row) (hr : ∀ g, row = some g → ∃ T, TyAt w g T ∧ T ≠ 53) : KeepC w w' := fun b cs fr hb => h.block b (Array.getElem?_eq_some_iff.1 hb).1 fun e => by
  obtain ⟨T, ⟨cs', fr', h1⟩, h2⟩ := hr b e.symm
  rw [hb] at h1
  cases h1
  exact h2 rfl
theorem KeepC.set {w w' : World} {g : Nat} {T : TypeId} (h : KeepC w w') (hg : TyAt w' g T) (hT : T ≠ 53) (i : Nat) (v : Value) : KeepC w (w'.setCell ⟨g, i, none⟩ v) := h.trans fun b cs fr hb => Below.heap_setCell w' ⟨g, i, none⟩ v b fun e => by
  obtain ⟨cs', fr', h1⟩ := hg
  have e' : b = g := e
  subst e'
  rw [hb] at h1
  cases h1
  exact hT rfl
theorem RowC.ty {w : World} {b : Nat} {cs : Array Value} {T : TypeId} (h : RowC w b cs T) : TyAt w b T := ⟨cs, _, h⟩

/-- Conditions in a block of conditions. -/
def ConT (w : World) (A : Option Addr) (n : Nat) (C : Nat → CD) : Prop := n = 0 ∨ ∃ b o cs, ∃ fr : Nat × Nat, A = some ⟨b, o, none⟩ ∧ w.heap[b]? = some (.cells cs 53 fr) ∧ ∀ i, i < n →
  cs[o + i * 4 + 0]? = some (.int .i64 (C i).a) ∧ cs[o + i * 4 + 1]? = some (.int .i64 (C i).o) ∧ cs[o + i * 4 + 2]? = some (.int .u64 (C i).m) ∧ cs[o + i * 4 + 3]? = some (.int .u64 (C i).v) ∧
  (C i).m ≤ 18446744073709551615 ∧ (C i).v ≤ 18446744073709551615
theorem ConT.keep {w w' : World} {A : Option Addr} {n : Nat} {C : Nat → CD} (h : ConT w A n C) (hk : KeepC w w') : ConT w' A n C := by
  rcases h with h | ⟨b, o, cs, fr, rfl, hb, hc⟩
  · exact .inl h
  · exact .inr ⟨b, o, cs, fr, rfl, (hk b cs fr hb).trans hb, hc⟩
theorem ConT.conA {w : World} {A : Option Addr} {n : Nat} {C : Nat → CD} (h : ConT w A n C) : ConA w A n C := by
  rcases h with h | ⟨b, o, cs, fr, rfl, hb, hc⟩
  · exact .inl h
  · refine .inr ⟨b, o, rfl, (Array.getElem?_eq_some_iff.1 hb).1, fun i hi => ?_⟩
    obtain ⟨h0, h1, h2, h3, h4, h5⟩ := hc i hi
    exact ⟨(cell_of_row w b _ cs _ fr hb).trans h0, (cell_of_row w b _ cs _ fr hb).trans h1, (cell_of_row w b _ cs _ fr hb).trans h2, (cell_of_row w b _ cs _ fr hb).trans h3, h4, h5⟩
theorem ConT.of_cells {w : World} {b o n : Nat} {C : Nat → CD} (ht : TyAt w b 53) (hc : ∀ i, i < n → w.cell? ⟨b, o + i * 4 + 0, none⟩ = some (.int .i64 (C i).a) ∧ w.cell? ⟨b, o + i * 4 + 1, none⟩ = some (.int .i64 (C i).o) ∧ w.cell? ⟨b, o + i * 4 + 2, none⟩ = some (.int .u64 (C i).m) ∧ w.cell? ⟨b, o + i * 4 + 3, none⟩ = some (.int .u64 (C i).v))
    (hb : ∀ i, i < n → (C i).m ≤ 18446744073709551615 ∧ (C i).v ≤ 18446744073709551615) : ConT w (some ⟨b, o, none⟩) n C := by
  obtain ⟨cs, fr, h⟩ := ht
  refine .inr ⟨b, o, cs, fr, rfl, h, fun i hi => ?_⟩
  obtain ⟨h0, h1, h2, h3⟩ := hc i hi
  rw [cell_of_row w b _ cs _ fr h] at h0 h1 h2 h3
  exact ⟨h0, h1, h2, h3, (hb i hi).1, (hb i hi).2⟩
theorem ConT.of_own {w : World} {base n c : Nat} {A : Option Addr} {C : Nat → CD} (h : OwnC w base 53 4 A n c (ccell C)) (hb : ∀ i, i < n → (C i).m ≤ 18446744073709551615 ∧ (C i).v ≤ 18446744073709551615) : ConT w A n C ∧ n ≤ c ∧ c ≤ maxLen := by
  have hle := h.cel.le
  rcases Nat.eq_zero_or_pos n with h0 | hp
  · exact ⟨.inl h0, hle.1, hle.2⟩
  · have hown := h
    obtain ⟨h1, h2⟩ := h
    rcases h2 with ⟨_, h0⟩ | ⟨gg, cap, cur, hv, hg, hh, _⟩
    · omega
    · injection hv with e1 e2 e3
      subst e1
      refine ⟨ConT.of_cells ⟨cur, _, hh⟩ (fun i hi => ?_) hb, hle.1, hle.2⟩
      have hcell : ∀ j, j < 4 → w.cell? ⟨gg, i * 4 + j, none⟩ = some ((crow (C i)).getD j undef) := fun j hj => by
        have hx := World.ownsRow.cells hown rfl (i * 4 + j) (ccell C (i * 4 + j)) (by rw [List.getElem?_map, List.getElem?_range (by omega)]; rfl)
        rw [ccell_at C i j hj] at hx
        rw [← hx]
        congr 1
        unfold Addr.add
        split <;> simp_all
      simp only [Nat.zero_add]
      exact ⟨hcell 0 (by decide), hcell 1 (by decide), hcell 2 (by decide), hcell 3 (by decide)⟩
/-- What a rule's cells are good for. -/
def RuT (w : World) (r : RL) : Prop := r.nm.size ≤ maxLen ∧ (Lit.int .i64 r.k).wf = true ∧ (Lit.int .i64 r.u).wf = true ∧ r.n ≤ r.c ∧ r.c ≤ maxLen ∧ ConT w r.A r.n r.C
theorem RuT.keep {w w' : World} {r : RL} (h : RuT w r) (hk : KeepC w w') : RuT w' r := ⟨h.1, h.2.1, h.2.2.1, h.2.2.2.1, h.2.2.2.2.1, h.2.2.2.2.2.keep hk⟩
/-- The call's own row of rules. -/
def RowL (w : World) (base : Nat) (A : Option Addr) (l : List RL) (c : Nat) : Prop := w.ownsRow base 50 4 (.slice A l.length c) l.length (l.flatMap rrow) ∧ ∀ r ∈ l, RuT w r
/-- Rules that are read. -/
def RlL (w : World) (A : Option Addr) (l : List RL) : Prop := (l = [] ∨ ∃ b o, A = some ⟨b, o, none⟩ ∧ b < w.heap.size ∧ ∀ i, i < l.length →
  w.cell? ⟨b, o + i * 4 + 0, none⟩ = some (.string l[i]!.nm) ∧ w.cell? ⟨b, o + i * 4 + 1, none⟩ = some (.int .i64 l[i]!.k) ∧ w.cell? ⟨b, o + i * 4 + 2, none⟩ = some (.int .i64 l[i]!.u) ∧ w.cell? ⟨b, o + i * 4 + 3, none⟩ = some (.slice l[i]!.A l[i]!.n l[i]!.c)) ∧ ∀ r ∈ l, RuT w r
theorem RlL.below {w w' : World} {A : Option Addr} {l : List RL} {B : Nat} (h : RlL w A l) (hb : Below B w w') (hB : w.heap.size ≤ B) : RlL w' A l := by
  refine ⟨?_, fun r hr => (h.2 r hr).keep (KeepC.of_below hb hB)⟩
  rcases h.1 with h | ⟨b, o, rfl, hl, hc⟩
  · exact .inl h
  · refine .inr ⟨b, o, rfl, Nat.lt_of_lt_of_le hl hb.size, fun i hi => ?_⟩
    obtain ⟨h0, h1, h2, h3⟩ := hc i hi
    have hx : b < B := Nat.lt_of_lt_of_le hl hB
    exact ⟨(hb.cell hx).trans h0, (hb.cell hx).trans h1, (hb.cell hx).trans h2, (hb.cell hx).trans h3⟩
theorem RowL.rl {w : World} {base : Nat} {A : Option Addr} {l : List RL} {c : Nat} (h : RowL w base A l c) : RlL w A l := by
  refine ⟨?_, h.2⟩
  have hown := h.1
  rcases Nat.eq_zero_or_pos l.length with h0 | hp
  · exact .inl (List.eq_nil_of_length_eq_zero h0)
  · obtain ⟨gg, cap, hv, hg, hl⟩ := hown.form hp
    injection hv with e1 e2 e3
    subst e1
    refine .inr ⟨gg, 0, rfl, hl, fun i hi => ?_⟩
    have hcell : ∀ j, j < 4 → w.cell? ⟨gg, 0 + i * 4 + j, none⟩ = (rrow l[i]!)[j]? := fun j hj => by
      have hat := flat_at rrow (fun _ => rfl) l i j hi hj
      have hj' : j < (rrow l[i]!).length := hj
      obtain ⟨v, hv⟩ : ∃ v, (rrow l[i]!)[j]? = some v := ⟨_, List.getElem?_eq_getElem hj'⟩
      have hx := World.ownsRow.cells hown rfl (i * 4 + j) v (by rw [hat, hv])
      rw [hv, ← hx]
      congr 1
      unfold Addr.add
      split <;> simp_all
    exact ⟨hcell 0 (by decide), hcell 1 (by decide), hcell 2 (by decide), hcell 3 (by decide)⟩
theorem RowL.le {w : World} {base : Nat} {A : Option Addr} {l : List RL} {c : Nat} (h : RowL w base A l c) : l.length ≤ c ∧ c ≤ maxLen := by
  rcases h.1.2 with ⟨hv, h0⟩ | ⟨gg, cap, cur, hv, _, _, h1, h2, _⟩
  · injection hv with _ _ e3
    subst e3
    exact ⟨by omega, by simp [maxLen]⟩
  · injection hv with _ _ e3
    subst e3
    exact ⟨h1, h2⟩
theorem RowL.nil_ (w : World) (base : Nat) : RowL w base none [] 0 := ⟨World.ownsRow_nil _ _ _ _, fun _ h => by cases h⟩
theorem RowL.ty {w : World} {base : Nat} {A : Option Addr} {l : List RL} {c : Nat} (h : RowL w base A l c) : ∀ g, (Value.slice A l.length c).ownBlock = some g → TyAt w g 50 := fun g hg => by
  rcases h.1.2 with ⟨hv, h0⟩ | ⟨gg, cap, cur, hv, _, hh, _⟩
  · rw [hv] at hg; cases hg
  · rw [hv] at hg
    cases hg
    exact ⟨cur, _, hh⟩
theorem RowL.kept {w w' : World} {base : Nat} {A : Option Addr} {l : List RL} {c : Nat} {row : Option Nat} (h : RowL w base A l c) (hg : w.grownBy w' row) (hne : (Value.slice A l.length c).ownBlock = none ∨ (Value.slice A l.length c).ownBlock ≠ row) (hk : KeepC w w') : RowL w' base A l c :=
  ⟨h.1.kept hg hne, fun r hr => (h.2 r hr).keep hk⟩
theorem RowL.below {w w' : World} {base : Nat} {A : Option Addr} {l : List RL} {c B : Nat} (h : RowL w base A l c) (hb : Below B w w') (hB : w.heap.size ≤ B) : RowL w' base A l c := by
  refine ⟨?_, fun r hr => (h.2 r hr).keep (KeepC.of_below hb hB)⟩
  obtain ⟨h1, h2⟩ := h.1
  refine ⟨h1, ?_⟩
  rcases h2 with h2 | ⟨gg, cap, cur, hv, hg, hh, r⟩
  · exact Or.inl h2
  · exact Or.inr ⟨gg, cap, cur, hv, hg, (hb.block gg (Nat.lt_of_lt_of_le (Array.getElem?_eq_some_iff.1 hh).1 hB)).trans hh, r⟩
theorem RowL.lower {w : World} {base base' : Nat} {A : Option Addr} {l : List RL} {c : Nat} (h : RowL w base A l c) (hb : base' ≤ base) : RowL w base' A l c := by
  refine ⟨?_, h.2⟩
  obtain ⟨h1, h2⟩ := h.1
  refine ⟨h1, ?_⟩
  rcases h2 with h2 | ⟨gg, cap, cur, hv, hg, r⟩
  · exact Or.inl h2
  · exact Or.inr ⟨gg, cap, cur, hv, by omega, r⟩
/-- A store into another block. -/
theorem RowL.setLow {w : World} {base : Nat} {A : Option Addr} {l : List RL} {c g : Nat} {T : TypeId} (h : RowL w base A l c) (hg : TyAt w g T) (h1 : T ≠ 53) (h2 : T ≠ 50) (i : Nat) (v : Value) : RowL (w.setCell ⟨g, i, none⟩ v) base A l c := by
  refine ⟨?_, fun r hr => (h.2 r hr).keep ((KeepC.refl w).set hg h1 i v)⟩
  obtain ⟨q1, q2⟩ := h.1
  refine ⟨q1, ?_⟩
  rcases q2 with q2 | ⟨gg, cap, cur, hv, hgg, hh, r⟩
  · exact Or.inl q2
  · refine Or.inr ⟨gg, cap, cur, hv, hgg, (Below.heap_setCell w ⟨g, i, none⟩ v gg (fun e => ?_)).trans hh, r⟩
    have e' : gg = g := e
    subst e'
    obtain ⟨cs, fr, ht⟩ := hg
    rw [hh] at ht
    cases ht
    exact h2 rfl
theorem infoRu2 : (Tryz.prog.info? 50).map (fun i => (i.zero, i.size, i.bytes)) = some (some (.agg #[.string ⟨#[]⟩, .int .i64 0, .int .i64 0, .slice none 0 0]), 4, 56) := by kernel_rfl
theorem flat_snoc (l : List RL) (r : RL) : l.flatMap rrow ++ rrow r = (l ++ [r]).flatMap rrow := by simp
/-- A rule appended. -/
theorem app_rule {w : World} {ops : Array Oper} {rest : List Oper} {o : Oper} {a : Act} {Q : Exit → Act → World → Prop} (hgd : o.guard = none) (s x : Operand)
    (ho : o.op = .call { callee := .builtin .append, args := #[s, x], argTypes := #[24, 24] })
    {base c d g1 : Nat} {A : Option Addr} {l : List RL} (hs : a.eval s = .slice A l.length c) (hown : RowL w base A l c) {r : RL} (hx : a.eval x = .slice (some ⟨g1, 0, none⟩) 1 d) (hg1 : RowC w g1 (rrow r).toArray 50) (hr : RuT w r)
    (hn : l.length ≤ 100000) (hbase : base ≤ w.heap.size)
    (h : ∀ g c' w', RowL w' base (some ⟨g, 0, none⟩) (l ++ [r]) c' → w.grownBy w' (Value.slice A l.length c).ownBlock → ((Value.slice A l.length c).ownBlock = some g ∨ g = w.heap.size) → KeepC w w' → Below base w w' → wpList Tryz.prog ops Q rest (a.put o.dst (.slice (some ⟨g, 0, none⟩) (l.length + 1) c')) w') : wpList Tryz.prog ops Q (o :: rest) a w := by
  obtain ⟨i, hi, hz, hsz, hby⟩ := info_parts infoRu2
  refine wpList_append_lies w hgd s x 24 ho base 50 i _ 4 56 Tryz.underlying24 hi hz hsz hby (by rfl) (by decide) _ l.length _ hs hown.1 ⟨g1, 0, none⟩ 1 d (rrow r) hx (by rfl) (World.news_of_block hg1) (rrow_one r) (by decide) (by unfold maxLen; omega) (by omega) hbase _ rfl ?_
  intro g cap w' h1 h2 h3 h4
  have hk : KeepC w w' := KeepC.grown h2 fun b hb => ⟨_, hown.ty b hb, by decide⟩
  have hB : Below base w w' := (Below.refl _ _).grown h2 hbase (fun k hk => (hown.1.lt k hk).1)
  refine h g cap w' ⟨?_, fun q hq => ?_⟩ h2 h3 hk hB
  · rw [flat_snoc] at h1
    simpa using h1
  · rcases List.mem_append.1 hq with hq | hq
    · exact (hown.2 q hq).keep hk
    · rw [List.mem_singleton] at hq
      subst hq
      exact hr.keep hk
end Go.Proofs.YtccklmleaffgiaaGreatDoor

/-
  Layer 16: the laws' own of: a document's policy as the program's.
-/
namespace Go.Proofs.YtccklmleaffgiaaGreatDoor
open Go.RowKit Go.Shelf
set_option linter.unusedVariables false

theorem RowL.alloc {w : World} {base : Nat} {A : Option Addr} {l : List RL} {c : Nat} (h : RowL w base A l c) (o : Obj) : RowL (w.alloc o) base A l c := h.below ((Below.refl w.heap.size w).alloc (Nat.le_refl _) o) (Nat.le_refl _)
theorem RowL.drew {w : World} {base : Nat} {A : Option Addr} {l : List RL} {c : Nat} (h : RowL w base A l c) : RowL w.drew base A l c := h.below (B := w.heap.size) (Below.refl _ w).drew (Nat.le_refl _)
/-- A rule appended, as a step of a region that draws its order. -/
theorem step_rule {w : World} {ops : Array Oper} {o : Oper} {a : Act} {K : Act → World → Prop} {Q : Exit → Act → World → Prop} {R : Prop} (hgd : o.guard = none) (s x : Operand)
    (ho : o.op = .call { callee := .builtin .append, args := #[s, x], argTypes := #[24, 24] })
    {base c d g1 : Nat} {A : Option Addr} {l : List RL} (hs : a.eval s = .slice A l.length c) (hown : RowL w base A l c) {r : RL} (hx : a.eval x = .slice (some ⟨g1, 0, none⟩) 1 d) (hg1 : RowC w g1 (rrow r).toArray 50) (hr : RuT w r)
    (hn : l.length ≤ 100000) (hbase : base ≤ w.heap.size)
    (h : ∀ g c' w', RowL w' base (some ⟨g, 0, none⟩) (l ++ [r]) c' → w.grownBy w' (Value.slice A l.length c).ownBlock → ((Value.slice A l.length c).ownBlock = some g ∨ g = w.heap.size) → KeepC w w' → Below base w w' → K (a.put o.dst (.slice (some ⟨g, 0, none⟩) (l.length + 1) c')) w') :
    if Region.wanted o (yielded ops a.tmps) = true then Oper.wp Tryz.prog o a w K Q else R := by
  obtain ⟨i, hi, hz, hsz, hby⟩ := info_parts infoRu2
  refine step_append_lies w hgd s x 24 ho base 50 i _ 4 56 Tryz.underlying24 hi hz hsz hby (by rfl) (by decide) _ l.length _ hs hown.1 ⟨g1, 0, none⟩ 1 d (rrow r) hx (by rfl) (World.news_of_block hg1) (rrow_one r) (by decide) (by unfold maxLen; omega) (by omega) hbase _ rfl ?_
  intro g cap w' h1 h2 h3 h4
  have hk : KeepC w w' := KeepC.grown h2 fun b hb => ⟨_, hown.ty b hb, by decide⟩
  have hB : Below base w w' := (Below.refl _ _).grown h2 hbase (fun k hk => (hown.1.lt k hk).1)
  refine h g cap w' ⟨?_, fun q hq => ?_⟩ h2 h3 hk hB
  · rw [flat_snoc] at h1
    simpa using h1
  · rcases List.mem_append.1 hq with hq | hq
    · exact (hown.2 q hq).keep hk
    · rw [List.mem_singleton] at hq
      subst hq
      exact hr.keep hk
abbrev zPol : Array Value := polA 0 0 false none 0 0
theorem infoPol : (Tryz.prog.info? 26).map (·.size) = some 4 := by kernel_rfl
end Go.Proofs.YtccklmleaffgiaaGreatDoor

/-
  Layer 16, pure: sorted and made compact, conditions are in order, each once; and in memory.
-/
namespace Go.Proofs.YtccklmleaffgiaaGreatDoor
open Go.RowKit Go.Shelf Go.Lib Go.Sort
set_option linter.unusedVariables false

def cvOf (c : CD) : CV := (c.a, c.o, (c.m : Int), (c.v : Int))
theorem enc_cv (c : CD) : encC (cvOf c) = crow c := rfl
/-- The call's own row of conditions. -/
def RowK (w : World) (base : Nat) (A : Option Addr) (M : List CD) (c : Nat) : Prop := w.ownsRow base 53 4 (.slice A M.length c) M.length (M.flatMap crow) ∧ (M = [] → A = none ∧ c = 0)
theorem RowK.nil_ (w : World) (base : Nat) : RowK w base none [] 0 := ⟨World.ownsRow_nil _ _ _ _, fun _ => ⟨rfl, rfl⟩⟩
theorem RowK.below {w w' : World} {base : Nat} {A : Option Addr} {M : List CD} {c B : Nat} (h : RowK w base A M c) (hb : Below B w w') (hB : w.heap.size ≤ B) : RowK w' base A M c := by
  refine ⟨?_, h.2⟩
  obtain ⟨h1, h2⟩ := h.1
  refine ⟨h1, ?_⟩
  rcases h2 with h2 | ⟨gg, cap, cur, hv, hg, hh, r⟩
  · exact Or.inl h2
  · exact Or.inr ⟨gg, cap, cur, hv, hg, (hb.block gg (Nat.lt_of_lt_of_le (Array.getElem?_eq_some_iff.1 hh).1 hB)).trans hh, r⟩
theorem RowK.alloc {w : World} {base : Nat} {A : Option Addr} {M : List CD} {c : Nat} (h : RowK w base A M c) (o : Obj) : RowK (w.alloc o) base A M c := h.below ((Below.refl w.heap.size w).alloc (Nat.le_refl _) o) (Nat.le_refl _)
/-- A row that is not empty, as the sort wants it. -/
theorem RowK.holds {w : World} {base : Nat} {A : Option Addr} {M : List CD} {c : Nat} (h : RowK w base A M c) (hM : M ≠ []) : ∃ g, A = some ⟨g, 0, none⟩ ∧ base ≤ g ∧ g < w.heap.size ∧ TyAt w g 53 ∧ M.length ≤ c ∧ c ≤ maxLen ∧ HoldsK encC 4 w g 0 (M.map cvOf).toArray := by
  have hp : 0 < M.length := List.length_pos_iff.2 hM
  have hown := h.1
  rcases hown.2 with ⟨_, h0⟩ | ⟨g, cap, cur, hv, hg, hh, h1, h2, _⟩
  · omega
  · injection hv with e1 e2 e3
    subst e1 e3
    refine ⟨g, rfl, hg, (Array.getElem?_eq_some_iff.1 hh).1, ⟨cur, _, hh⟩, h1, h2, fun t ht => ?_⟩
    have ht' : t < M.length * 4 := by simpa using ht
    obtain ⟨i, j, hi, hj, rfl⟩ : ∃ i j, i < M.length ∧ j < 4 ∧ t = i * 4 + j := ⟨t / 4, t % 4, by omega, by omega, by omega⟩
    refine ⟨?_, hown.frozenAt _⟩
    rw [get_flatK _ _ _ _ (by simpa using ht'), (divmod4 i j hj).1, (divmod4 i j hj).2, Nat.zero_add]
    have hat := flat_at crow (fun _ => rfl) M i j hi hj
    have hd : (M.map cvOf).toArray[i]! = cvOf M[i]! := by
      rw [getElem!_pos (M.map cvOf).toArray i (by simpa using hi), getElem!_pos M i hi]
      simp
    rw [hd, enc_cv]
    have hj' : j < (crow M[i]!).length := hj
    rw [List.getElem?_eq_getElem hj'] at hat
    rw [hown.cellAt (i * 4 + j) ht', hat]
    show some _ = some (id _)
    rw [getElem!_pos (crow M[i]!) j hj']
    rfl
end Go.Proofs.YtccklmleaffgiaaGreatDoor

/-
  Layer 16: norm.Rule at any right rule.
-/
namespace Go.Proofs.YtccklmleaffgiaaGreatDoor
open Go.RowKit Go.Shelf Go.Lib Go.Sort
set_option linter.unusedVariables false

def RL.cs (r : RL) : List CD := (List.range r.n).map r.C
theorem range_take (C : Nat → CD) (q n : Nat) (h : q < n) : (List.range n).map C = ((List.range q).map C ++ [C q]) ++ ((List.range (n - q - 1)).map fun i => C (q + 1 + i)) := by
  have e : n = q + 1 + (n - q - 1) := by omega
  rw [e, List.range_add, List.map_append, List.range_succ, List.map_append, List.map_map]
  congr 1
  have : q + 1 + (n - q - 1) - q - 1 = n - q - 1 := by omega
  rw [this]
  rfl
end Go.Proofs.YtccklmleaffgiaaGreatDoor
