/-
  Rules in memory: rows of conditions keep as long as no block of conditions turns; rows of rules that a call owns, and that it reads.
-/
import Derived.Test.YtcmdmnnkbliggaaGreatDoorP2
import Derived.Test.YtcmdmnnkbliggaaGreatDoorP6
import Derived.Test.YtcmdmnnkbliggaaGreatDoorP5
import Derived.Deep.AppendLies
import Derived.Deep.LoopGhost
import Derived.Deep.RegionHeld3
namespace Go.Proofs.YtcmdmnnkbliggaaGreatDoor
open Go.RowKit Go.Shelf
set_option linter.unusedVariables false

def rrow (r : RL) : List Value := [.string r.nm, .int .i64 r.k, .int .i64 r.u, .slice r.A r.n r.c]
theorem flat_len {α : Type} (f : α → List Value) (hf : ∀ x, (f x).length = 4) : ∀ l : List α, (l.flatMap f).length = l.length * 4
  | [] => rfl
  | x :: t => by rw [List.flatMap_cons, List.length_append, hf, flat_len f hf t, List.length_cons]; omega
theorem flat_at {α : Type} [Inhabited α] (f : α → List Value) (hf : ∀ x, (f x).length = 4) : ∀ (l : List α) (i c : Nat), i < l.length → c < 4 → (l.flatMap f)[i * 4 + c]? = (f l[i]!)[c]?
  | [], i, c, hi, _ => absurd hi (Nat.not_lt_zero _)
  | x :: t, 0, c, _, hc => by
    rw [List.flatMap_cons, Nat.zero_mul, Nat.zero_add, List.getElem?_append_left (by rw [hf]; exact hc)]
    rfl
  | x :: t, i + 1, c, hi, hc => by
    rw [List.flatMap_cons, List.getElem?_append_right (by rw [hf]; omega), hf, show (i + 1) * 4 + c - 4 = i * 4 + c by omega, flat_at f hf t i c (by simpa using hi) hc]
    rfl
theorem flat_one {α : Type} (f : α → List Value) (hf : ∀ x, ∀ v ∈ f x, v.oneCell' = true) (l : List α) : ∀ v ∈ l.flatMap f, v.oneCell' = true := fun v hv => by
  obtain ⟨x, _, h⟩ := List.mem_flatMap.1 hv
  exact hf x v h
theorem rrow_one (r : RL) : ∀ v ∈ rrow r, v.oneCell' = true := fun v hv => by
  simp [rrow] at hv
  rcases hv with rfl | rfl | rfl | rfl <;> rfl
theorem crowL_one (c : CD) : ∀ v ∈ crow c, v.oneCell' = true := fun v hv => by
  simp [crow] at hv
  rcases hv with rfl | rfl | rfl | rfl <;> rfl

/-- No block of conditions has turned. -/
def KeepC (w w' : World) : Prop := ∀ (b : Nat) (cs : Array Value) (fr : Nat × Nat), w.heap[b]? = some (.cells cs 61 fr) → w'.heap[b]? = w.heap[b]?
theorem KeepC.refl (w : World) : KeepC w w := fun _ _ _ _ => rfl
theorem KeepC.trans {w w' w'' : World} (h : KeepC w w') (h' : KeepC w' w'') : KeepC w w'' := fun b cs fr hb => (h' b cs fr ((h b cs fr hb).trans hb)).trans (h b cs fr hb)
theorem KeepC.of_below {B : Nat} {w w' : World} (h : Below B w w') (hB : w.heap.size ≤ B) : KeepC w w' := fun b cs fr hb => h.block b (Nat.lt_of_lt_of_le (Array.getElem?_eq_some_iff.1 hb).1 hB)
theorem KeepC.alloc {w w' : World} (h : KeepC w w') (o : Obj) : KeepC w (w'.alloc o) := h.trans fun b cs fr hb => Below.heap_alloc _ _ _ (Array.getElem?_eq_some_iff.1 hb).1
theorem KeepC.drewN {w w' : World} (h : KeepC w w') (n : Nat) : KeepC w (w'.drewN n) := h
theorem KeepC.drew {w w' : World} (h : KeepC w w') : KeepC w w'.drew := h
theorem KeepC.grown {w w' : World} {row : Option Nat} (h : w.grownBy w' row) (hr : ∀ g, row = some g → ∃ T, TyAt w g T ∧ T ≠ 61) : KeepC w w' := fun b cs fr hb => h.block b (Array.getElem?_eq_some_iff.1 hb).1 fun e => by
  obtain ⟨T, ⟨cs', fr', h1⟩, h2⟩ := hr b e.symm
  rw [hb] at h1
  cases h1
  exact h2 rfl
theorem KeepC.set {w w' : World} {g : Nat} {T : TypeId} (h : KeepC w w') (hg : TyAt w' g T) (hT : T ≠ 61) (i : Nat) (v : Value) : KeepC w (w'.setCell ⟨g, i, none⟩ v) := h.trans fun b cs fr hb => Below.heap_setCell w' ⟨g, i, none⟩ v b fun e => by
  obtain ⟨cs', fr', h1⟩ := hg
  have e' : b = g := e
  subst e'
  rw [hb] at h1
  cases h1
  exact hT rfl
theorem RowC.ty {w : World} {b : Nat} {cs : Array Value} {T : TypeId} (h : RowC w b cs T) : TyAt w b T := ⟨cs, _, h⟩

/-- Conditions in a block of conditions. -/
def ConT (w : World) (A : Option Addr) (n : Nat) (C : Nat → CD) : Prop := n = 0 ∨ ∃ b o cs, ∃ fr : Nat × Nat, A = some ⟨b, o, none⟩ ∧ w.heap[b]? = some (.cells cs 61 fr) ∧ ∀ i, i < n →
  cs[o + i * 4 + 0]? = some (.int .i64 (C i).a) ∧ cs[o + i * 4 + 1]? = some (.int .i64 (C i).o) ∧ cs[o + i * 4 + 2]? = some (.int .u64 (C i).m) ∧ cs[o + i * 4 + 3]? = some (.int .u64 (C i).v) ∧
  (C i).m ≤ 18446744073709551615 ∧ (C i).v ≤ 18446744073709551615
theorem ConT.keep {w w' : World} {A : Option Addr} {n : Nat} {C : Nat → CD} (h : ConT w A n C) (hk : KeepC w w') : ConT w' A n C := by
  rcases h with h | ⟨b, o, cs, fr, rfl, hb, hc⟩
  · exact .inl h
  · exact .inr ⟨b, o, cs, fr, rfl, (hk b cs fr hb).trans hb, hc⟩
theorem ConT.conA {w : World} {A : Option Addr} {n : Nat} {C : Nat → CD} (h : ConT w A n C) : ConA w A n C := by
  rcases h with h | ⟨b, o, cs, fr, rfl, hb, hc⟩
  · exact .inl h
  · refine .inr ⟨b, o, rfl, (Array.getElem?_eq_some_iff.1 hb).1, fun i hi => ?_⟩
    obtain ⟨h0, h1, h2, h3, h4, h5⟩ := hc i hi
    exact ⟨(cell_of_row w b _ cs _ fr hb).trans h0, (cell_of_row w b _ cs _ fr hb).trans h1, (cell_of_row w b _ cs _ fr hb).trans h2, (cell_of_row w b _ cs _ fr hb).trans h3, h4, h5⟩
theorem ConT.of_cells {w : World} {b o n : Nat} {C : Nat → CD} (ht : TyAt w b 61) (hc : ∀ i, i < n → w.cell? ⟨b, o + i * 4 + 0, none⟩ = some (.int .i64 (C i).a) ∧ w.cell? ⟨b, o + i * 4 + 1, none⟩ = some (.int .i64 (C i).o) ∧ w.cell? ⟨b, o + i * 4 + 2, none⟩ = some (.int .u64 (C i).m) ∧ w.cell? ⟨b, o + i * 4 + 3, none⟩ = some (.int .u64 (C i).v))
    (hb : ∀ i, i < n → (C i).m ≤ 18446744073709551615 ∧ (C i).v ≤ 18446744073709551615) : ConT w (some ⟨b, o, none⟩) n C := by
  obtain ⟨cs, fr, h⟩ := ht
  refine .inr ⟨b, o, cs, fr, rfl, h, fun i hi => ?_⟩
  obtain ⟨h0, h1, h2, h3⟩ := hc i hi
  rw [cell_of_row w b _ cs _ fr h] at h0 h1 h2 h3
  exact ⟨h0, h1, h2, h3, (hb i hi).1, (hb i hi).2⟩
theorem ConT.of_own {w : World} {base n c : Nat} {A : Option Addr} {C : Nat → CD} (h : OwnC w base 61 4 A n c (ccell C)) (hb : ∀ i, i < n → (C i).m ≤ 18446744073709551615 ∧ (C i).v ≤ 18446744073709551615) : ConT w A n C ∧ n ≤ c ∧ c ≤ maxLen := by
  have hle := h.cel.le
  rcases Nat.eq_zero_or_pos n with h0 | hp
  · exact ⟨.inl h0, hle.1, hle.2⟩
  · have hown := h
    obtain ⟨h1, h2⟩ := h
    rcases h2 with ⟨_, h0⟩ | ⟨gg, cap, cur, hv, hg, hh, _⟩
    · omega
    · injection hv with e1 e2 e3
      subst e1
      refine ⟨ConT.of_cells ⟨cur, _, hh⟩ (fun i hi => ?_) hb, hle.1, hle.2⟩
      have hcell : ∀ j, j < 4 → w.cell? ⟨gg, i * 4 + j, none⟩ = some ((crow (C i)).getD j undef) := fun j hj => by
        have hx := World.ownsRow.cells hown rfl (i * 4 + j) (ccell C (i * 4 + j)) (by rw [List.getElem?_map, List.getElem?_range (by omega)]; rfl)
        rw [ccell_at C i j hj] at hx
        rw [← hx]
        congr 1
        unfold Addr.add
        split <;> simp_all
      simp only [Nat.zero_add]
      exact ⟨hcell 0 (by decide), hcell 1 (by decide), hcell 2 (by decide), hcell 3 (by decide)⟩
/-- What a rule's cells are good for. -/
def RuT (w : World) (r : RL) : Prop := r.nm.size ≤ maxLen ∧ (Lit.int .i64 r.k).wf = true ∧ (Lit.int .i64 r.u).wf = true ∧ r.n ≤ r.c ∧ r.c ≤ maxLen ∧ ConT w r.A r.n r.C
theorem RuT.keep {w w' : World} {r : RL} (h : RuT w r) (hk : KeepC w w') : RuT w' r := ⟨h.1, h.2.1, h.2.2.1, h.2.2.2.1, h.2.2.2.2.1, h.2.2.2.2.2.keep hk⟩
/-- The call's own row of rules. -/
def RowL (w : World) (base : Nat) (A : Option Addr) (l : List RL) (c : Nat) : Prop := w.ownsRow base 57 4 (.slice A l.length c) l.length (l.flatMap rrow) ∧ ∀ r ∈ l, RuT w r
/-- Rules that are read. -/
def RlL (w : World) (A : Option Addr) (l : List RL) : Prop := (l = [] ∨ ∃ b o, A = some ⟨b, o, none⟩ ∧ b < w.heap.size ∧ ∀ i, i < l.length →
  w.cell? ⟨b, o + i * 4 + 0, none⟩ = some (.string l[i]!.nm) ∧ w.cell? ⟨b, o + i * 4 + 1, none⟩ = some (.int .i64 l[i]!.k) ∧ w.cell? ⟨b, o + i * 4 + 2, none⟩ = some (.int .i64 l[i]!.u) ∧ w.cell? ⟨b, o + i * 4 + 3, none⟩ = some (.slice l[i]!.A l[i]!.n l[i]!.c)) ∧ ∀ r ∈ l, RuT w r
theorem RlL.below {w w' : World} {A : Option Addr} {l : List RL} {B : Nat} (h : RlL w A l) (hb : Below B w w') (hB : w.heap.size ≤ B) : RlL w' A l := by
  refine ⟨?_, fun r hr => (h.2 r hr).keep (KeepC.of_below hb hB)⟩
  rcases h.1 with h | ⟨b, o, rfl, hl, hc⟩
  · exact .inl h
  · refine .inr ⟨b, o, rfl, Nat.lt_of_lt_of_le hl hb.size, fun i hi => ?_⟩
    obtain ⟨h0, h1, h2, h3⟩ := hc i hi
    have hx : b < B := Nat.lt_of_lt_of_le hl hB
    exact ⟨(hb.cell hx).trans h0, (hb.cell hx).trans h1, (hb.cell hx).trans h2, (hb.cell hx).trans h3⟩
theorem RowL.rl {w : World} {base : Nat} {A : Option Addr} {l : List RL} {c : Nat} (h : RowL w base A l c) : RlL w A l := by
  refine ⟨?_, h.2⟩
  have hown := h.1
  rcases Nat.eq_zero_or_pos l.length with h0 | hp
  · exact .inl (List.eq_nil_of_length_eq_zero h0)
  · obtain ⟨gg, cap, hv, hg, hl⟩ := hown.form hp
    injection hv with e1 e2 e3
    subst e1
    refine .inr ⟨gg, 0, rfl, hl, fun i hi => ?_⟩
    have hcell : ∀ j, j < 4 → w.cell? ⟨gg, 0 + i * 4 + j, none⟩ = (rrow l[i]!)[j]? := fun j hj => by
      have hat := flat_at rrow (fun _ => rfl) l i j hi hj
      have hj' : j < (rrow l[i]!).length := hj
      obtain ⟨v, hv⟩ : ∃ v, (rrow l[i]!)[j]? = some v := ⟨_, List.getElem?_eq_getElem hj'⟩
      have hx := World.ownsRow.cells hown rfl (i * 4 + j) v (by rw [hat, hv])
      rw [hv, ← hx]
      congr 1
      unfold Addr.add
      split <;> simp_all
    exact ⟨hcell 0 (by decide), hcell 1 (by decide), hcell 2 (by decide), hcell 3 (by decide)⟩
theorem RowL.le {w : World} {base : Nat} {A : Option Addr} {l : List RL} {c : Nat} (h : RowL w base A l c) : l.length ≤ c ∧ c ≤ maxLen := by
  rcases h.1.2 with ⟨hv, h0⟩ | ⟨gg, cap, cur, hv, _, _, h1, h2, _⟩
  · injection hv with _ _ e3
    subst e3
    exact ⟨by omega, by simp [maxLen]⟩
  · injection hv with _ _ e3
    subst e3
    exact ⟨h1, h2⟩
theorem RowL.nil_ (w : World) (base : Nat) : RowL w base none [] 0 := ⟨World.ownsRow_nil _ _ _ _, fun _ h => by cases h⟩
theorem RowL.ty {w : World} {base : Nat} {A : Option Addr} {l : List RL} {c : Nat} (h : RowL w base A l c) : ∀ g, (Value.slice A l.length c).ownBlock = some g → TyAt w g 57 := fun g hg => by
  rcases h.1.2 with ⟨hv, h0⟩ | ⟨gg, cap, cur, hv, _, hh, _⟩
  · rw [hv] at hg; cases hg
  · rw [hv] at hg
    cases hg
    exact ⟨cur, _, hh⟩
theorem RowL.kept {w w' : World} {base : Nat} {A : Option Addr} {l : List RL} {c : Nat} {row : Option Nat} (h : RowL w base A l c) (hg : w.grownBy w' row) (hne : (Value.slice A l.length c).ownBlock = none ∨ (Value.slice A l.length c).ownBlock ≠ row) (hk : KeepC w w') : RowL w' base A l c :=
  ⟨h.1.kept hg hne, fun r hr => (h.2 r hr).keep hk⟩
theorem RowL.below {w w' : World} {base : Nat} {A : Option Addr} {l : List RL} {c B : Nat} (h : RowL w base A l c) (hb : Below B w w') (hB : w.heap.size ≤ B) : RowL w' base A l c := by
  refine ⟨?_, fun r hr => (h.2 r hr).keep (KeepC.of_below hb hB)⟩
  obtain ⟨h1, h2⟩ := h.1
  refine ⟨h1, ?_⟩
  rcases h2 with h2 | ⟨gg, cap, cur, hv, hg, hh, r⟩
  · exact Or.inl h2
  · exact Or.inr ⟨gg, cap, cur, hv, hg, (hb.block gg (Nat.lt_of_lt_of_le (Array.getElem?_eq_some_iff.1 hh).1 hB)).trans hh, r⟩
theorem RowL.lower {w : World} {base base' : Nat} {A : Option Addr} {l : List RL} {c : Nat} (h : RowL w base A l c) (hb : base' ≤ base) : RowL w base' A l c := by
  refine ⟨?_, h.2⟩
  obtain ⟨h1, h2⟩ := h.1
  refine ⟨h1, ?_⟩
  rcases h2 with h2 | ⟨gg, cap, cur, hv, hg, r⟩
  · exact Or.inl h2
  · exact Or.inr ⟨gg, cap, cur, hv, by omega, r⟩
/-- A store into another block. -/
theorem RowL.setLow {w : World} {base : Nat} {A : Option Addr} {l : List RL} {c g : Nat} {T : TypeId} (h : RowL w base A l c) (hg : TyAt w g T) (h1 : T ≠ 61) (h2 : T ≠ 57) (i : Nat) (v : Value) : RowL (w.setCell ⟨g, i, none⟩ v) base A l c := by
  refine ⟨?_, fun r hr => (h.2 r hr).keep ((KeepC.refl w).set hg h1 i v)⟩
  obtain ⟨q1, q2⟩ := h.1
  refine ⟨q1, ?_⟩
  rcases q2 with q2 | ⟨gg, cap, cur, hv, hgg, hh, r⟩
  · exact Or.inl q2
  · refine Or.inr ⟨gg, cap, cur, hv, hgg, (Below.heap_setCell w ⟨g, i, none⟩ v gg (fun e => ?_)).trans hh, r⟩
    have e' : gg = g := e
    subst e'
    obtain ⟨cs, fr, ht⟩ := hg
    rw [hh] at ht
    cases ht
    exact h2 rfl
theorem infoRu2 : (Tryz.prog.info? 57).map (fun i => (i.zero, i.size, i.bytes)) = some (some (.agg #[.string ⟨#[]⟩, .int .i64 0, .int .i64 0, .slice none 0 0]), 4, 56) := by kernel_rfl
theorem flat_snoc (l : List RL) (r : RL) : l.flatMap rrow ++ rrow r = (l ++ [r]).flatMap rrow := by simp
/-- A rule appended. -/
theorem app_rule {w : World} {ops : Array Oper} {rest : List Oper} {o : Oper} {a : Act} {Q : Exit → Act → World → Prop} (hgd : o.guard = none) (s x : Operand)
    (ho : o.op = .call { callee := .builtin .append, args := #[s, x], argTypes := #[24, 24] })
    {base c d g1 : Nat} {A : Option Addr} {l : List RL} (hs : a.eval s = .slice A l.length c) (hown : RowL w base A l c) {r : RL} (hx : a.eval x = .slice (some ⟨g1, 0, none⟩) 1 d) (hg1 : RowC w g1 (rrow r).toArray 57) (hr : RuT w r)
    (hn : l.length ≤ 100000) (hbase : base ≤ w.heap.size)
    (h : ∀ g c' w', RowL w' base (some ⟨g, 0, none⟩) (l ++ [r]) c' → w.grownBy w' (Value.slice A l.length c).ownBlock → ((Value.slice A l.length c).ownBlock = some g ∨ g = w.heap.size) → KeepC w w' → Below base w w' → wpList Tryz.prog ops Q rest (a.put o.dst (.slice (some ⟨g, 0, none⟩) (l.length + 1) c')) w') : wpList Tryz.prog ops Q (o :: rest) a w := by
  obtain ⟨i, hi, hz, hsz, hby⟩ := info_parts infoRu2
  refine wpList_append_lies w hgd s x 24 ho base 57 i _ 4 56 Tryz.underlying24 hi hz hsz hby (by rfl) (by decide) _ l.length _ hs hown.1 ⟨g1, 0, none⟩ 1 d (rrow r) hx (by rfl) (World.news_of_block hg1) (rrow_one r) (by decide) (by unfold maxLen; omega) (by omega) hbase _ rfl ?_
  intro g cap w' h1 h2 h3 h4
  have hk : KeepC w w' := KeepC.grown h2 fun b hb => ⟨_, hown.ty b hb, by decide⟩
  have hB : Below base w w' := (Below.refl _ _).grown h2 hbase (fun k hk => (hown.1.lt k hk).1)
  refine h g cap w' ⟨?_, fun q hq => ?_⟩ h2 h3 hk hB
  · rw [flat_snoc] at h1
    simpa using h1
  · rcases List.mem_append.1 hq with hq | hq
    · exact (hown.2 q hq).keep hk
    · rw [List.mem_singleton] at hq
      subst hq
      exact hr.keep hk
end Go.Proofs.YtcmdmnnkbliggaaGreatDoor

/-
  Layer 16, pure: sorted and made compact, conditions are in order, each once; and in memory.
-/
namespace Go.Proofs.YtcmdmnnkbliggaaGreatDoor
open Go.RowKit Go.Shelf Go.Lib Go.Sort
set_option linter.unusedVariables false

def cvOf (c : CD) : CV := (c.a, c.o, (c.m : Int), (c.v : Int))
theorem ltC_cv (c d : CD) : ltOf cfC (cvOf c) (cvOf d) = true ↔ ltD c d := by
  rw [ltC_iff]
  unfold ltC ltD cvOf
  simp only [Int.ofNat_lt]
  omega
theorem enc_cv (c : CD) : encC (cvOf c) = crow c := rfl
theorem mem_compact (d : Array CV) (x : CV) : x ∈ compactUpTo d d.size ↔ x ∈ d.toList := by
  unfold compactUpTo
  rw [List.mem_map]
  constructor
  · rintro ⟨i, hi, rfl⟩
    have hi' : i < d.size := List.mem_range.1 (List.mem_filter.1 hi).1
    rw [getElem!_pos d i hi']
    simp
  · intro hx
    obtain ⟨i, hi, rfl⟩ := List.getElem_of_mem hx
    have hi0 : i < d.size := by simpa using hi
    have key : ∀ i, i < d.size → ∃ a ∈ (List.range d.size).filter (keeps d), d[a]! = d[i]! := by
      intro i
      induction i with
      | zero => exact fun h => ⟨0, List.mem_filter.2 ⟨List.mem_range.2 h, by simp [keeps]⟩, rfl⟩
      | succ n ih =>
        intro h
        by_cases e : d[n + 1]! = d[n]!
        · obtain ⟨a, ha, hv⟩ := ih (by omega)
          exact ⟨a, ha, hv.trans e.symm⟩
        · exact ⟨n + 1, List.mem_filter.2 ⟨List.mem_range.2 h, keeps_pos e⟩, rfl⟩
    obtain ⟨a, ha, hv⟩ := key i hi0
    refine ⟨a, ha, ?_⟩
    rw [hv, getElem!_pos d i hi0]
    simp
theorem pw_compact (d : Array CV) (hs : SortedIn (ltOf cfC) 0 d.size d) : (compactUpTo d d.size).Pairwise fun x y => ltOf cfC x y = true := by
  unfold compactUpTo
  rw [List.pairwise_map]
  refine ((List.pairwise_lt_range (n := d.size)).filter _).imp_of_mem fun {i j} hi hj hij => ?_
  have hj' := List.mem_filter.1 hj
  have hjs : j < d.size := List.mem_range.1 hj'.1
  have hne : d[j]! ≠ d[j - 1]! := by
    have := hj'.2
    simp only [keeps, decide_eq_true_eq] at this
    exact this.resolve_left (by omega)
  have h1 : ltOf cfC d[j]! d[i]! = false := hs i j (Nat.zero_le _) hij hjs
  rcases hb : ltOf cfC d[i]! d[j]! with _ | _
  · exfalso
    have e : d[i]! = d[j]! := ltC_total _ _ hb h1
    have h2 : ltOf cfC d[j]! d[j - 1]! = false := hs (j - 1) j (Nat.zero_le _) (by omega) hjs
    have h3 : ltOf cfC d[j - 1]! d[j]! = false := by
      rcases Nat.lt_or_ge i (j - 1) with h | h
      · rw [← e]; exact hs i (j - 1) (Nat.zero_le _) h (by omega)
      · have : j - 1 = i := by omega
        rw [this]; exact hb
    exact hne (ltC_total _ _ h2 h3)
  · rfl
theorem compact_srt (M : List CD) (d : Array CV) (hp : PermIn 0 d.size (M.map cvOf).toArray d) (hs : SortedIn (ltOf cfC) 0 d.size d) : compactUpTo d d.size = (srt M).map cvOf := by
  have hm : ∀ x, x ∈ compactUpTo d d.size ↔ x ∈ (srt M).map cvOf := fun x => by
    rw [mem_compact]
    have h3 := hp.2.2
    have e1 : (d.extract 0 d.size).toList = d.toList := by simp
    have e2 : ((M.map cvOf).toArray.extract 0 d.size).toList = M.map cvOf := by
      have : (M.map cvOf).toArray.size = d.size := hp.1.symm
      rw [← this]; simp [List.take_of_length_le]
    rw [e1, e2] at h3
    rw [h3.mem_iff, List.mem_map, List.mem_map]
    constructor
    · rintro ⟨c, hc, rfl⟩; exact ⟨c, (mem_srt c M).2 hc, rfl⟩
    · rintro ⟨c, hc, rfl⟩; exact ⟨c, (mem_srt c M).1 hc, rfl⟩
  refine pw_uniq (R := fun x y => ltOf cfC x y = true) (fun a h => by rw [swoC.irrefl] at h; cases h) (fun a b h h' => by have := swoC.trans _ _ _ h h'; rw [swoC.irrefl] at this; cases this) _ _ (pw_compact d hs) ?_ hm
  rw [List.pairwise_map]
  exact (pw_srt M).imp fun {a b} h => (ltC_cv a b).2 h
theorem below_sorted (w : World) (b off n : Nat) (d : Array CV) (os : Array Obj) (hb : b < w.heap.size) : Below b w (sortWorldK encC 4 w b off n d os) := by
  refine ⟨rfl, rfl, rfl, by simp [sortWorldK, grow, putRowK, putRow, mapBlock, Sort.ahead], fun k hk => ?_⟩
  unfold sortWorldK putRowK putRow grow
  simp only
  rw [Array.getElem?_append_left (by simp [mapBlock, Sort.ahead]; omega)]
  have : b ≠ k := by omega
  simp [mapBlock, Sort.ahead, Array.getElem?_modify, this]
/-- The call's own row of conditions. -/
def RowK (w : World) (base : Nat) (A : Option Addr) (M : List CD) (c : Nat) : Prop := w.ownsRow base 61 4 (.slice A M.length c) M.length (M.flatMap crow) ∧ (M = [] → A = none ∧ c = 0)
theorem RowK.nil_ (w : World) (base : Nat) : RowK w base none [] 0 := ⟨World.ownsRow_nil _ _ _ _, fun _ => ⟨rfl, rfl⟩⟩
theorem RowK.below {w w' : World} {base : Nat} {A : Option Addr} {M : List CD} {c B : Nat} (h : RowK w base A M c) (hb : Below B w w') (hB : w.heap.size ≤ B) : RowK w' base A M c := by
  refine ⟨?_, h.2⟩
  obtain ⟨h1, h2⟩ := h.1
  refine ⟨h1, ?_⟩
  rcases h2 with h2 | ⟨gg, cap, cur, hv, hg, hh, r⟩
  · exact Or.inl h2
  · exact Or.inr ⟨gg, cap, cur, hv, hg, (hb.block gg (Nat.lt_of_lt_of_le (Array.getElem?_eq_some_iff.1 hh).1 hB)).trans hh, r⟩
theorem RowK.alloc {w : World} {base : Nat} {A : Option Addr} {M : List CD} {c : Nat} (h : RowK w base A M c) (o : Obj) : RowK (w.alloc o) base A M c := h.below ((Below.refl w.heap.size w).alloc (Nat.le_refl _) o) (Nat.le_refl _)
/-- A row that is not empty, as the sort wants it. -/
theorem RowK.holds {w : World} {base : Nat} {A : Option Addr} {M : List CD} {c : Nat} (h : RowK w base A M c) (hM : M ≠ []) : ∃ g, A = some ⟨g, 0, none⟩ ∧ base ≤ g ∧ g < w.heap.size ∧ TyAt w g 61 ∧ M.length ≤ c ∧ c ≤ maxLen ∧ HoldsK encC 4 w g 0 (M.map cvOf).toArray := by
  have hp : 0 < M.length := List.length_pos_iff.2 hM
  have hown := h.1
  rcases hown.2 with ⟨_, h0⟩ | ⟨g, cap, cur, hv, hg, hh, h1, h2, _⟩
  · omega
  · injection hv with e1 e2 e3
    subst e1 e3
    refine ⟨g, rfl, hg, (Array.getElem?_eq_some_iff.1 hh).1, ⟨cur, _, hh⟩, h1, h2, fun t ht => ?_⟩
    have ht' : t < M.length * 4 := by simpa using ht
    obtain ⟨i, j, hi, hj, rfl⟩ : ∃ i j, i < M.length ∧ j < 4 ∧ t = i * 4 + j := ⟨t / 4, t % 4, by omega, by omega, by omega⟩
    refine ⟨?_, hown.frozenAt _⟩
    rw [get_flatK _ _ _ _ (by simpa using ht'), (divmod4 i j hj).1, (divmod4 i j hj).2, Nat.zero_add]
    have hat := flat_at crow (fun _ => rfl) M i j hi hj
    have hd : (M.map cvOf).toArray[i]! = cvOf M[i]! := by
      rw [getElem!_pos (M.map cvOf).toArray i (by simpa using hi), getElem!_pos M i hi]
      simp
    rw [hd, enc_cv]
    have hj' : j < (crow M[i]!).length := hj
    rw [List.getElem?_eq_getElem hj'] at hat
    rw [hown.cellAt (i * 4 + j) ht', hat]
    show some _ = some (id _)
    rw [getElem!_pos (crow M[i]!) j hj']
    rfl
theorem app_cond {w : World} {ops : Array Oper} {rest : List Oper} {o : Oper} {a : Act} {Q : Exit → Act → World → Prop} (hgd : o.guard = none) (s x : Operand)
    (ho : o.op = .call { callee := .builtin .append, args := #[s, x], argTypes := #[55, 55] })
    {base c d g1 : Nat} {A : Option Addr} {M : List CD} (hs : a.eval s = .slice A M.length c) (hown : RowK w base A M c) {r : CD} (hx : a.eval x = .slice (some ⟨g1, 0, none⟩) 1 d) (hg1 : RowC w g1 (crow r).toArray 61)
    (hn : M.length ≤ 100000) (hbase : base ≤ w.heap.size)
    (h : ∀ A' c' w', RowK w' base A' (M ++ [r]) c' → Below base w w' → wpList Tryz.prog ops Q rest (a.put o.dst (.slice A' (M.length + 1) c')) w') : wpList Tryz.prog ops Q (o :: rest) a w := by
  obtain ⟨i, hi, hz, hsz, hby⟩ := info_parts infoC2
  refine wpList_append_lies w hgd s x 55 ho base 61 i _ 4 32 Tryz.underlying55 hi hz hsz hby (by rfl) (by decide) _ M.length _ hs hown.1 ⟨g1, 0, none⟩ 1 d (crow r) hx (by rfl) (World.news_of_block hg1) (crowL_one r) (by decide) (by unfold maxLen; omega) (by omega) hbase _ rfl ?_
  intro g cap w' h1 h2 h3 h4
  refine h (some ⟨g, 0, none⟩) cap w' ⟨?_, fun e => absurd e (by simp)⟩ ((Below.refl _ _).grown h2 hbase (fun k hk => (hown.1.lt k hk).1))
  have e : M.flatMap crow ++ crow r = (M ++ [r]).flatMap crow := by simp
  rw [e] at h1
  simpa using h1
end Go.Proofs.YtcmdmnnkbliggaaGreatDoor

/-
  Layer 16: norm.Rule at any right rule.
-/
namespace Go.Proofs.YtcmdmnnkbliggaaGreatDoor
open Go.RowKit Go.Shelf Go.Lib Go.Sort
set_option linter.unusedVariables false

def RL.cs (r : RL) : List CD := (List.range r.n).map r.C
theorem RL.val_L (r : RL) : r.val.L = r.cs := rfl
theorem normD (c : CD) (hr : RiC c) (hm : c.m ≤ 18446744073709551615) (hv : c.v ≤ 18446744073709551615) (w : World) :
    Calls Tryz.prog 156 #[.agg (condA c.a c.o c.m c.v)] w fun e w' => e = .returned (.tuple #[.agg (condA (nC c).1.a (nC c).1.o (nC c).1.m (nC c).1.v), .int .i64 (nC c).2]) ∧ Below w.heap.size w w' := by
  obtain ⟨j, hj⟩ := hr.right
  have := normC_ok c.a c.o c.m c.v j hj hm hv w
  rw [nF_nC c j hj] at this
  exact this
theorem nC_bound (c : CD) (hm : c.m ≤ 18446744073709551615) (hv : c.v ≤ 18446744073709551615) : (nC c).1.m ≤ 18446744073709551615 ∧ (nC c).1.v ≤ 18446744073709551615 := by
  unfold nC bel atl
  repeat' split
  all_goals simp_all
  all_goals omega
theorem askL_snoc (l : List CD) (c : CD) (M : List CD) (h : askL l = some M) : askL (l ++ [c]) = if (nC c).2 = 2 then none else some (if (nC c).2 = 0 then M ++ [(nC c).1] else M) := by
  rw [askL_append, h]
  show (askL [c]).map _ = _
  rw [askL_cons]
  by_cases h2 : (nC c).2 = 2
  · rw [if_pos h2, if_pos h2]; rfl
  · rw [if_neg h2, if_neg h2]
    by_cases h0 : (nC c).2 = 0
    · simp [askL, h0]
    · simp [askL, h0]
theorem askL_none (l m : List CD) (h : askL l = none) : askL (l ++ m) = none := by rw [askL_append, h]; rfl
theorem askL_len : ∀ (l M : List CD), askL l = some M → M.length ≤ l.length
  | [], M, h => by cases h; simp
  | c :: t, M, h => by
    rw [askL_cons] at h
    by_cases h2 : (nC c).2 = 2
    · rw [if_pos h2] at h; cases h
    · rw [if_neg h2] at h
      rcases ht : askL t with _ | x
      · rw [ht] at h; cases h
      · rw [ht] at h
        have := askL_len t x ht
        by_cases h0 : (nC c).2 = 0
        · simp [h0] at h; subst h; simp; omega
        · simp [h0] at h; subst h; simp; omega
/-- What is asked of a rule of the program. -/
def RiR (r : RL) : Prop := r.n ≤ 6 ∧ ∀ i, i < r.n → RiC (r.C i)
theorem range_take (C : Nat → CD) (q n : Nat) (h : q < n) : (List.range n).map C = ((List.range q).map C ++ [C q]) ++ ((List.range (n - q - 1)).map fun i => C (q + 1 + i)) := by
  have e : n = q + 1 + (n - q - 1) := by omega
  rw [e, List.range_add, List.map_append, List.range_succ, List.map_append, List.map_map]
  congr 1
  have : q + 1 + (n - q - 1) - q - 1 = n - q - 1 := by omega
  rw [this]
  rfl
theorem conds_heads {w : World} {g : Nat} {M : List CD} (ht : TyAt w g 61) (h : Heads w g 0 ((srt M).map cvOf)) (hb : ∀ c ∈ M, c.m ≤ 18446744073709551615 ∧ c.v ≤ 18446744073709551615) : ConT w (some ⟨g, 0, none⟩) (srt M).length (fun i => (srt M)[i]!) := by
  refine ConT.of_cells ht (fun i hi => ?_) fun i hi => ?_
  · have := h i (by simpa using hi)
    have e : ((srt M).map cvOf)[i]! = cvOf (srt M)[i]! := by
      rw [getElem!_pos ((srt M).map cvOf) i (by simpa using hi), getElem!_pos (srt M) i hi]
      simp
    rw [e] at this
    exact this
  · refine hb _ ((mem_srt _ M).1 ?_)
    rw [getElem!_pos (srt M) i hi]
    exact List.getElem_mem hi
theorem range_get {α : Type} [Inhabited α] (l : List α) : (List.range l.length).map (fun i => l[i]!) = l := by
  apply List.ext_getElem
  · simp
  · intro i h1 h2
    simp [List.getElem?_eq_getElem h2]
set_option maxRecDepth 100000 in
set_option maxHeartbeats 8000000 in
theorem ruleN_any (r : RL) (w : World) (hr : RiR r) (hC : ConA w r.A r.n r.C) (hcap : r.n ≤ r.c) :
    Calls Tryz.prog 118 #[.agg (rulA r.nm r.k r.u r.A r.n r.c)] w fun e w' => Below w.heap.size w w' ∧
      ((askL r.cs = none ∧ e = .returned (.tuple #[.agg zRu, .bool false])) ∨
       ∃ M A' c', askL r.cs = some M ∧ e = .returned (.tuple #[.agg (rulA r.nm r.k r.u A' (srt M).length c'), .bool true]) ∧ (srt M).length ≤ c' ∧ c' ≤ maxLen ∧ ConT w' A' (srt M).length fun i => (srt M)[i]!) := by
  obtain ⟨nm, k, u, A, n, c, C⟩ := r
  simp only [RL.cs] at *
  obtain ⟨hn6, hri⟩ := hr
  simp only at hn6 hri hcap
  have HRI := Lib.hid hri
  have HC := Lib.hid hC
  obtain ⟨B, hBs⟩ : ∃ B, w.heap.size = B := ⟨_, rfl⟩
  obtain ⟨W0, hW0⟩ : ∃ W, (w.alloc (.cells (rulA nm k u A n c) 57)).alloc (.cells zRu 57) = W := ⟨_, rfl⟩
  have HB0 := Lib.hid (show Below B w W0 by rw [← hW0, ← hBs]; exact ((Below.refl _ _).alloc (Nat.le_refl _) _).alloc (by simp) _)
  have HP0 := Lib.hid (show RowC W0 B (rulA nm k u A n c) 57 by rw [← hW0, ← hBs]; exact (RowC.new _ _ _ _ rfl).alloc _)
  have HR0 := Lib.hid (show RowC W0 (B + 1) zRu 57 by rw [← hW0, ← hBs]; exact RowC.new _ _ _ _ (by simp))
  have HW := Lib.hid hW0
  have HBS := Lib.hid hBs
  have HS := Lib.hid (show W0.heap.size = B + 2 by rw [← hW0, ← hBs]; simp)
  clear hW0 hri hC hBs
  have k3 := HP0.out.cell 3 (.slice A n c) rfl
  go_enter Tryz.func118, Tryz.ntmps118
  go_upto_region 1 with fail
  rw [HW.out, HBS.out]
  clear HW
  go_wp2
  go_loopw [4, 12] (fun l i wr => ∃ (q : Nat) (A' : Option Addr) (c' : Nat) (M : List CD), q ≤ n ∧ l = .slice A' M.length c' ∧ i = .int .i64 q ∧ Hid (askL ((List.range q).map C) = some M ∧ RowK wr (B + 2) A' M c' ∧ Below (B + 2) W0 wr ∧ (∀ c ∈ M, c.m ≤ 18446744073709551615 ∧ c.v ≤ 18446744073709551615)))
    (fun _ i _ => n - (intOf i).toNat)
  case atStart => exact ⟨0, none, 0, [], Nat.zero_le _, rfl, rfl, Lib.hid ⟨rfl, RowK.nil_ _ _, Below.refl _ _, fun _ h => by cases h⟩⟩
  case round =>
    obtain ⟨q, A', c', M, hq, rfl, rfl, HI⟩ := hrel
    have hws : B + 2 ≤ wr.heap.size := by rw [← HS.out]; exact HI.out.2.2.1.size
    by_cases hlt : q < n
    · have hcb := HC.out.below (HB0.out.trans (HI.out.2.2.1.mono (by omega))) (by rw [HBS.out]; exact Nat.le_refl _)
      rcases hcb with h0 | ⟨bb, o, rfl, hbl, hcs⟩
      · omega
      obtain ⟨q0, q1, q2, q3, hbm, hbv⟩ := hcs q hlt
      obtain ⟨x, hx⟩ : ∃ x, C q = x := ⟨_, rfl⟩
      have HNX := Lib.hid fun X => normD (C q) (HRI.out q hlt) hbm hbv X
      have hst := nC_st (C q)
      have HSN := Lib.hid (askL_snoc ((List.range q).map C) (C q) M HI.out.1)
      have HBD := Lib.hid (nC_bound (C q) hbm hbv)
      have HRT := Lib.hid (range_take C q n hlt)
      have HX := Lib.hid hx
      rw [hx] at q0 q1 q2 q3 hst HSN HBD HNX
      rw [Nat.add_zero] at q0
      obtain ⟨d, hd⟩ : ∃ d, (nC x).1 = d := ⟨_, rfl⟩
      obtain ⟨st, hs⟩ : ∃ st, (nC x).2 = st := ⟨_, rfl⟩
      rw [hd, hs] at HNX HSN
      rw [hd] at HBD
      rw [hs] at hst
      have i1 : (0 : Int) ≤ (q : Int) := by omega
      have i2 : (q : Int) < (n : Int) := by omega
      clear hcs hbm hbv hx hd hs
      go_wp2_with fail
      refine (HNX.out _).mono ?_
      rintro e w2 ⟨rfl, hB2⟩
      have HB2 := Lib.hid (((Below.refl wr.heap.size wr).alloc (Nat.le_refl _) _).trans (hB2.mono (by simp)))
      have hs2 := HB2.out.size
      clear hB2
      rcases hst with rfl | rfl | rfl
      · go_wp2_with (refine app_cond rfl _ _ rfl (by rfl) (((HI.out.2.1.below HB2.out (Nat.le_refl _)).alloc _).alloc _) (by rfl) (RowC.new _ (crow d).toArray _ _ (by simp)) (by have := askL_len _ _ HI.out.1; simp at this; omega) (by simp; omega) ?_; intro A2 c2 w3 hown3 hB3)
        have hB4 : Below (B + 2) wr w3 := ((((HB2.out.mono hws).alloc (by omega) _).alloc (by simp; omega) _)).trans hB3
        exact ⟨⟨q + 1, A2, c2, M ++ [d], by omega, by simp, by go_num, Lib.hid ⟨by rw [List.range_succ, List.map_append]; simpa [HX.out] using HSN.out, hown3, HI.out.2.2.1.trans hB4, fun c hc => by
          rcases List.mem_append.1 hc with h | h
          · exact HI.out.2.2.2 c h
          · rw [List.mem_singleton] at h; subst h; exact HBD.out⟩⟩, by simp [intOf]; omega⟩
      · go_wp2
        exact ⟨⟨q + 1, A', c', M, by omega, rfl, by go_num, Lib.hid ⟨by rw [List.range_succ, List.map_append]; simpa [HX.out] using HSN.out, (HI.out.2.1.below HB2.out (Nat.le_refl _)).alloc _, HI.out.2.2.1.trans ((HB2.out.mono hws).alloc (by omega) _), HI.out.2.2.2⟩⟩, by simp [intOf]; omega⟩
      · have hR2 := HR0.out.below (HI.out.2.2.1.trans (HB2.out.mono hws)) (by omega)
        have HR2 := Lib.hid hR2
        have hnn : askL ((List.range n).map C) = none := by rw [HRT.out]; exact askL_none _ _ (by simpa [HX.out] using HSN.out)
        have z0 := fun ob => (hR2.alloc ob).cell 0 (.string ⟨#[]⟩) rfl
        have z1 := fun ob => (hR2.alloc ob).cell 1 (.int .i64 0) rfl
        have z2 := fun ob => (hR2.alloc ob).cell 2 (.int .i64 0) rfl
        have z3 := fun ob => (hR2.alloc ob).cell 3 (.slice none 0 0) rfl
        have y0 := fun ob => (hR2.alloc ob).frozen 0
        have y1 := fun ob => (hR2.alloc ob).frozen 1
        have y2 := fun ob => (hR2.alloc ob).frozen 2
        have y3 := fun ob => (hR2.alloc ob).frozen 3
        have HNN := Lib.hid hnn
        clear hR2 hnn
        go_wp2
        (try simp only [Exit.inBlock, Exit.then])
        refine bodyPost_ret (results_ctO Tryz.results118 _ _ (B + 1) _ zRu (0, 0) _ (.bool false) (by rfl) (by rfl) (show RowC _ (B + 1) zRu 57 from ((((HR2.out.alloc _).set 0 (.string ⟨#[]⟩)).set 1 (.int .i64 0)).set 2 (.int .i64 0)).set 3 (.slice none 0 0)) Tryz.underlying57 (by rfl) infoRu) rfl ?_
        exact ⟨by rw [HBS.out]; exact (((((HB0.out.trans ((HI.out.2.2.1.trans (HB2.out.mono hws)).mono (by omega))).alloc (by have := HB2.out.size; omega) _).setCell (Nat.le_succ _) _).setCell (Nat.le_succ _) _).setCell (Nat.le_succ _) _).setCell (Nat.le_succ _) _, .inl ⟨HNN.out, rfl⟩⟩
    · obtain rfl : q = n := by omega
      have hP := HP0.out.below HI.out.2.2.1 (by omega)
      have hR := HR0.out.below HI.out.2.2.1 (by omega)
      have HP := Lib.hid hP
      have HR := Lib.hid hR
      have hl6 : M.length ≤ 6 := by have := askL_len _ _ HI.out.1; simp at this; omega
      by_cases hM : M = []
      · obtain ⟨rfl, rfl⟩ := HI.out.2.1.2 hM
        have HM := Lib.hid hM
        have HMl := Lib.hid (show M.length = 0 by rw [hM]; rfl)
        rw [HMl.out]
        have p0 := hP.cell 0 (.string nm) rfl
        have p1 := hP.cell 1 (.int .i64 k) rfl
        have p2 := hP.cell 2 (.int .i64 u) rfl
        have p3 := hP.cell 3 (.slice A q c) rfl
        have f3 := hP.frozen 3
        have z0 := hR.cell 0 (.string ⟨#[]⟩) rfl
        have z1 := hR.cell 1 (.int .i64 0) rfl
        have z2 := hR.cell 2 (.int .i64 0) rfl
        have z3 := hR.cell 3 (.slice none 0 0) rfl
        have y0 := hR.frozen 0
        have y1 := hR.frozen 1
        have y2 := hR.frozen 2
        have y3 := hR.frozen 3
        clear hP hR hM hl6
        go_wp2_with fail
        refine (sort_nil _ _).mono ?_
        rintro e w2 ⟨rfl, rfl⟩
        go_wp2_with fail
        refine (compact_nil _).mono ?_
        rintro e w3 ⟨rfl, rfl⟩
        go_wp2
        exact bodyPost_ret (results_ctO Tryz.results118 _ _ (B + 1) _ (rulA nm k u none 0 0) (0, 0) _ (.bool true) (by rfl) (by rfl) (show RowC _ (B + 1) (rulA nm k u none 0 0) 57 from ((((HR.out.setOther 3 (.slice none 0 0) (by omega)).set 0 (.string nm)).set 1 (.int .i64 k)).set 2 (.int .i64 u)).set 3 (.slice none 0 0)) Tryz.underlying57 (by rfl) infoRu) rfl
          ⟨by rw [HBS.out]; exact (((((HB0.out.trans (HI.out.2.2.1.mono (by omega))).setCell (Nat.le_refl _) _).setCell (Nat.le_succ _) _).setCell (Nat.le_succ _) _).setCell (Nat.le_succ _) _).setCell (Nat.le_succ _) _, .inr ⟨M, none, 0, HI.out.1, by rw [HM.out]; rfl, by rw [HM.out]; exact Nat.le_refl _, by simp [maxLen], .inl (by rw [HM.out]; rfl)⟩⟩
      · obtain ⟨g, rfl, hg1, hg2, hgt, hlc, hcm, hH⟩ := HI.out.2.1.holds hM
        clear hP hR
        have hsz : (M.map cvOf).toArray.size = M.length := by simp
        have HSRT := Lib.hid (sortC_any g 0 c' (M.map cvOf).toArray wr hH hg2 (by rw [hsz]; omega))
        rw [hsz] at HSRT
        have HX := Lib.hid (And.intro hgt (And.intro hg1 (And.intro hg2 hH)))
        clear hH hgt hM
        go_wp2_with fail
        refine HSRT.out.mono ?_
        rintro e w2 ⟨rfl, d', n', os, hperm, hsort, hw2⟩
        have hds : d'.size = M.length := hperm.1.trans hsz
        have HY := Lib.hid (show PermIn 0 d'.size (M.map cvOf).toArray d' ∧ SortedIn (ltOf cfC) 0 d'.size d' from by rw [hds]; exact ⟨hperm, hsort⟩)
        have hH2 : HoldsK encC 4 w2 g 0 d' := by rw [hw2]; exact holdsK_sortWorldK_c encC 4 wr g 0 _ d' n' os HX.out.2.2.2 HX.out.2.2.1 (by rw [hds, hsz])
        have hB2 : Below g wr w2 := by rw [hw2]; exact below_sorted wr g 0 n' d' os HX.out.2.2.1
        have hT2 : TyAt w2 g 61 := by rw [hw2]; exact HX.out.1.sorted 0 n' d' os
        have HCMP := Lib.hid (compactC_any g 0 c' d' w2 hH2 hT2.lt (by omega) (by omega) hcm _ hT2)
        have hcs := compact_srt M d' HY.out.1 HY.out.2
        have hbe : B ≤ B + 1 := by omega
        rw [hcs, hds] at HCMP
        rw [List.length_map] at HCMP
        have HB2 := Lib.hid (hB2.mono hg1)
        have HDS := Lib.hid hds
        clear hperm hsort hw2 hH2 hB2 hT2 hcs hds hg2
        have hP2 := HP.out.below HB2.out (by omega)
        have hR2 := HR.out.below HB2.out (by omega)
        go_wp2_with fail
        refine HCMP.out.mono ?_
        rintro e w3 ⟨rfl, hB3, hT3, hHd⟩
        have HB3 := Lib.hid (HB2.out.trans (hB3.mono hg1))
        have hP3 := HP.out.below HB3.out (by omega)
        have hR3 := HR.out.below HB3.out (by omega)
        have HR3 := Lib.hid hR3
        have HP3 := Lib.hid hP3
        have HE := Lib.hid (And.intro hT3 hHd)
        clear hB3 hT3 hHd hP2 hR2
        have p0 := hP3.cell 0 (.string nm) rfl
        have p1 := hP3.cell 1 (.int .i64 k) rfl
        have p2 := hP3.cell 2 (.int .i64 u) rfl
        have p3 := hP3.cell 3 (.slice A q c) rfl
        have f3 := hP3.frozen 3
        have z0 := hR3.cell 0 (.string ⟨#[]⟩) rfl
        have z1 := hR3.cell 1 (.int .i64 0) rfl
        have z2 := hR3.cell 2 (.int .i64 0) rfl
        have z3 := hR3.cell 3 (.slice none 0 0) rfl
        have y0 := hR3.frozen 0
        have y1 := hR3.frozen 1
        have y2 := hR3.frozen 2
        have y3 := hR3.frozen 3
        clear hP3 hR3
        go_wp2
        have hT : ConT w3 (some ⟨g, 0, none⟩) (srt M).length (fun i => (srt M)[i]!) := conds_heads HE.out.1 HE.out.2 HI.out.2.2.2
        have hK : KeepC w3 (((((w3.setCell ⟨B, 3, none⟩ (.slice (some ⟨g, 0, none⟩) (srt M).length c')).setCell ⟨B + 1, 0, none⟩ (.string nm)).setCell ⟨B + 1, 1, none⟩ (.int .i64 k)).setCell ⟨B + 1, 2, none⟩ (.int .i64 u)).setCell ⟨B + 1, 3, none⟩ (.slice (some ⟨g, 0, none⟩) (srt M).length c')) :=
          have q0 := HR3.out.setOther 3 (.slice (some ⟨g, 0, none⟩) (srt M).length c') (show B + 1 ≠ B by omega)
          have q1 := q0.set 0 (.string nm)
          have q2 := q1.set 1 (.int .i64 k)
          have q3 := q2.set 2 (.int .i64 u)
          (((((KeepC.refl w3).set HP3.out.ty (by decide) _ _).set q0.ty (by decide) _ _).set q1.ty (by decide) _ _).set q2.ty (by decide) _ _).set q3.ty (by decide) _ _
        exact bodyPost_ret (results_ctO Tryz.results118 _ _ (B + 1) _ (rulA nm k u (some ⟨g, 0, none⟩) (srt M).length c') (0, 0) _ (.bool true) (by rfl) (by rfl) (show RowC _ (B + 1) (rulA nm k u (some ⟨g, 0, none⟩) (srt M).length c') 57 from ((((HR3.out.setOther 3 (.slice (some ⟨g, 0, none⟩) (srt M).length c') (by omega)).set 0 (.string nm)).set 1 (.int .i64 k)).set 2 (.int .i64 u)).set 3 (.slice (some ⟨g, 0, none⟩) (srt M).length c')) Tryz.underlying57 (by rfl) infoRu) rfl
          ⟨by rw [HBS.out]; exact (((((HB0.out.trans ((HI.out.2.2.1.trans HB3.out).mono (by omega))).setCell (Nat.le_refl _) _).setCell hbe _).setCell hbe _).setCell hbe _).setCell hbe _, .inr ⟨M, some ⟨g, 0, none⟩, c', HI.out.1, rfl, by have := srt_len M; omega, hcm, hT.keep hK⟩⟩
end Go.Proofs.YtcmdmnnkbliggaaGreatDoor

/-
  Layer 16: the laws' own of: a document's policy as the program's.
-/
namespace Go.Proofs.YtcmdmnnkbliggaaGreatDoor
open Go.RowKit Go.Shelf
set_option linter.unusedVariables false

theorem RowL.alloc {w : World} {base : Nat} {A : Option Addr} {l : List RL} {c : Nat} (h : RowL w base A l c) (o : Obj) : RowL (w.alloc o) base A l c := h.below ((Below.refl w.heap.size w).alloc (Nat.le_refl _) o) (Nat.le_refl _)
theorem RowL.drew {w : World} {base : Nat} {A : Option Addr} {l : List RL} {c : Nat} (h : RowL w base A l c) : RowL w.drew base A l c := h.below (B := w.heap.size) (Below.refl _ w).drew (Nat.le_refl _)
/-- A rule appended, as a step of a region that draws its order. -/
theorem step_rule {w : World} {ops : Array Oper} {o : Oper} {a : Act} {K : Act → World → Prop} {Q : Exit → Act → World → Prop} {R : Prop} (hgd : o.guard = none) (s x : Operand)
    (ho : o.op = .call { callee := .builtin .append, args := #[s, x], argTypes := #[24, 24] })
    {base c d g1 : Nat} {A : Option Addr} {l : List RL} (hs : a.eval s = .slice A l.length c) (hown : RowL w base A l c) {r : RL} (hx : a.eval x = .slice (some ⟨g1, 0, none⟩) 1 d) (hg1 : RowC w g1 (rrow r).toArray 57) (hr : RuT w r)
    (hn : l.length ≤ 100000) (hbase : base ≤ w.heap.size)
    (h : ∀ g c' w', RowL w' base (some ⟨g, 0, none⟩) (l ++ [r]) c' → w.grownBy w' (Value.slice A l.length c).ownBlock → ((Value.slice A l.length c).ownBlock = some g ∨ g = w.heap.size) → KeepC w w' → Below base w w' → K (a.put o.dst (.slice (some ⟨g, 0, none⟩) (l.length + 1) c')) w') :
    if Region.wanted o (yielded ops a.tmps) = true then Oper.wp Tryz.prog o a w K Q else R := by
  obtain ⟨i, hi, hz, hsz, hby⟩ := info_parts infoRu2
  refine step_append_lies w hgd s x 24 ho base 57 i _ 4 56 Tryz.underlying24 hi hz hsz hby (by rfl) (by decide) _ l.length _ hs hown.1 ⟨g1, 0, none⟩ 1 d (rrow r) hx (by rfl) (World.news_of_block hg1) (rrow_one r) (by decide) (by unfold maxLen; omega) (by omega) hbase _ rfl ?_
  intro g cap w' h1 h2 h3 h4
  have hk : KeepC w w' := KeepC.grown h2 fun b hb => ⟨_, hown.ty b hb, by decide⟩
  have hB : Below base w w' := (Below.refl _ _).grown h2 hbase (fun k hk => (hown.1.lt k hk).1)
  refine h g cap w' ⟨?_, fun q hq => ?_⟩ h2 h3 hk hB
  · rw [flat_snoc] at h1
    simpa using h1
  · rcases List.mem_append.1 hq with hq | hq
    · exact (hown.2 q hq).keep hk
    · rw [List.mem_singleton] at hq
      subst hq
      exact hr.keep hk
abbrev zPol : Array Value := polA 0 0 false none 0 0
theorem infoPol : (Tryz.prog.info? 26).map (·.size) = some 4 := by kernel_rfl
end Go.Proofs.YtcmdmnnkbliggaaGreatDoor
