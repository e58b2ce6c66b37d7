/-
  Words for bytes in memory: when a slice value reads as bytes, when a call owns a row of bytes, and how an append joins the two. Nothing here speaks of a program.
-/
import Derived.WalkKit
import Derived.WalkLawsBesides
import Derived.WalkSpells
import Derived.Laws.AppendOwnNone
import Derived.Deep.AppendLies
import Derived.Deep.Draws
import Derived.Lib.Hide
import Derived.ChangeShapes
import Derived.WideShapes
namespace Go.Proofs.Ytfanapnhdhoppaa
open Go.RowKit

theorem ret_tup2 {k j : IntKind} {a b c d : Int} (h : a = b) (h' : c = d) : Ending.returned (.tuple #[.int k a, .int j c]) = Ending.returned (.tuple #[.int k b, .int j d]) := by rw [h, h']
theorem ret_int {k : IntKind} {a b : Int} (h : a = b) : Ending.returned (.int k a) = .returned (.int k b) := by rw [h]
theorem ret_bool {a b : Bool} (h : a = b) : Ending.returned (.bool a) = .returned (.bool b) := by rw [h]

theorem bdn {B : Nat} {a w : World} (h : Below B a w) (n : Nat) : Below B a (w.drewN n) := ⟨h.os, h.tape, h.output, h.size, h.block⟩

/-- A byte as a value. -/
abbrev bv (n : Nat) : Value := .int .u8 (n : Int)

/-- The slice value with these parts reads as the n bytes f 0, f 1, ..; it lies below block B. -/
def Byt (w : World) (B : Nat) (A : Option Addr) (n c : Nat) (f : Nat → Nat) : Prop :=
  (A = none ∧ n = 0 ∧ c = 0) ∨ ∃ ad, A = some ad ∧ n ≤ c ∧ c ≤ maxLen ∧ ∀ i, i < n → (ad.block < B ∧ w.cell? (ad.add i) = some (bv (f i)) ∧ f i < 256)

section
variable {w w' : World} {B B' n c : Nat} {A : Option Addr} {f g : Nat → Nat}
theorem Byt.below (h : Byt w B A n c f) (hb : Below B w w') : Byt w' B A n c f := by
  rcases h with h | ⟨ad, rfl, h1, h2, hc⟩
  · exact .inl h
  · refine .inr ⟨ad, rfl, h1, h2, fun i hi => ⟨(hc i hi).1, (hb.cell (p := ad.add i) ?_).trans (hc i hi).2.1, (hc i hi).2.2⟩⟩
    unfold Addr.add; split <;> exact (hc i hi).1
theorem Byt.more (h : Byt w B A n c f) (hb : B ≤ B') : Byt w B' A n c f := by
  rcases h with h | ⟨ad, rfl, h1, h2, hc⟩
  · exact .inl h
  · exact .inr ⟨ad, rfl, h1, h2, fun i hi => ⟨Nat.lt_of_lt_of_le (hc i hi).1 hb, (hc i hi).2⟩⟩
theorem Byt.drewN (h : Byt w B A n c f) (k : Nat) : Byt (w.drewN k) B A n c f := h
theorem Byt.le (h : Byt w B A n c f) : n ≤ c ∧ c ≤ maxLen := by
  rcases h with ⟨_, rfl, rfl⟩ | ⟨ad, rfl, h1, h2, hc⟩
  · exact ⟨Nat.le_refl _, Nat.zero_le _⟩
  · exact ⟨h1, h2⟩
theorem Byt.lt (h : Byt w B A n c f) {i : Nat} (hi : i < n) : f i < 256 := by
  rcases h with ⟨_, rfl, _⟩ | ⟨ad, rfl, h1, h2, hc⟩
  · omega
  · exact (hc i hi).2.2
theorem Byt.congr (h : Byt w B A n c f) (he : ∀ i, i < n → f i = g i) : Byt w B A n c g := by
  rcases h with h | ⟨ad, rfl, h1, h2, hc⟩
  · exact .inl h
  · exact .inr ⟨ad, rfl, h1, h2, fun i hi => by rw [← he i hi]; exact hc i hi⟩
theorem Byt.at_ (h : Byt w B A n c f) (hn : 0 < n) : ∃ b off, A = some ⟨b, off, none⟩ ∧ b < B ∧ ∀ i, i < n → (w.cell? ⟨b, off + i, none⟩ = some (bv (f i)) ∧ f i < 256) := by
  rcases h with ⟨_, rfl, _⟩ | ⟨⟨b, off, spot⟩, rfl, h1, h2, hc⟩
  · omega
  · have hspot : spot = none := by simpa [Addr.add] using World.cell?_spot (hc 0 hn).2.1
    subst hspot
    exact ⟨b, off, rfl, (hc 0 hn).1, fun i hi => ⟨by rw [← Go.WideShapes.add_plain]; exact (hc i hi).2.1, (hc i hi).2.2⟩⟩
theorem Byt.nil_ : Byt w B none 0 0 f := .inl ⟨rfl, rfl, rfl⟩
/-- A block that holds just these bytes. -/
theorem Byt.mk_ {b off : Nat} (hb : b < B) (h1 : n ≤ c) (h2 : c ≤ maxLen) (hc : ∀ i, i < n → w.cell? ⟨b, off + i, none⟩ = some (bv (f i)) ∧ f i < 256) : Byt w B (some ⟨b, off, none⟩) n c f :=
  .inr ⟨⟨b, off, none⟩, rfl, h1, h2, fun i hi => ⟨hb, by rw [Go.WideShapes.add_plain]; exact (hc i hi).1, (hc i hi).2⟩⟩
/-- A part of a slice, as the walk cuts it. -/
theorem Byt.cut (h : Byt w B A n c f) {i j : Nat} (hij : i ≤ j) (hj : j ≤ n) : Byt w B (if c = i then A else A.map (·.add i)) (j - i) (c - i) (fun k => f (i + k)) := by
  rcases h with ⟨rfl, rfl, rfl⟩ | ⟨ad, rfl, h1, h2, hc⟩
  · obtain rfl : j = 0 := by omega
    obtain rfl : i = 0 := by omega
    exact .inl ⟨by simp, rfl, rfl⟩
  · by_cases hci : c = i
    · rw [if_pos hci]
      exact .inr ⟨ad, rfl, by omega, by omega, fun k hk => by omega⟩
    · rw [if_neg hci]
      refine .inr ⟨ad.add i, rfl, by omega, by omega, fun k hk => ?_⟩
      have := hc (i + k) (by omega)
      have e : (ad.add i).add k = ad.add (i + k) := by
        unfold Addr.add
        by_cases hi : i = 0 <;> by_cases hk' : k = 0 <;> simp [hi, hk', Nat.add_assoc]
      have eb : (ad.add i).block = ad.block := by unfold Addr.add; split <;> rfl
      rw [e, eb]; exact this
theorem Byt.take (h : Byt w B A n c f) {j : Nat} (hj : j ≤ n) : Byt w B A j c f := by
  rcases h with ⟨rfl, rfl, rfl⟩ | ⟨ad, rfl, h1, h2, hc⟩
  · obtain rfl : j = 0 := by omega
    exact .inl ⟨rfl, rfl, rfl⟩
  · exact .inr ⟨ad, rfl, by omega, h2, fun i hi => hc i (by omega)⟩
/-- What a reading of an argument of bytes tells. -/
theorem byt_of_ints {x : Addr} {zs : List Int} (h1 : n ≤ c) (h2 : c ≤ maxLen) (hz : n ≤ zs.length) (hc : ∀ i, i < zs.length → w.cell? (x.add i) = some (.int .u8 (zs.getD i 0))) (hw : ∀ z ∈ zs, (Lit.int .u8 z).wf = true) :
    Byt w w.heap.size (some x) n c (fun i => (zs.getD i 0).toNat) := by
  refine .inr ⟨x, rfl, h1, h2, fun i hi => ?_⟩
  have hi' : i < zs.length := by omega
  have hcell := hc i hi'
  have hmem : zs.getD i 0 ∈ zs := by rw [List.getD_eq_getElem?_getD, List.getElem?_eq_getElem hi']; exact List.getElem_mem hi'
  have hwf := hw _ hmem
  simp [Lit.wf, IntKind.min, IntKind.max, IntKind.signed, IntKind.bits] at hwf
  have hb := World.block_lt_of_cell? w _ hcell
  have eb : (x.add i).block = x.block := by unfold Addr.add; split <;> rfl
  rw [eb] at hb
  refine ⟨hb, ?_, ?_⟩
  · rw [hcell]
    show some (Value.int .u8 _) = some (Value.int .u8 _)
    rw [Int.toNat_of_nonneg (by simpa using hwf.1)]
  · have := hwf.2
    simp only [List.getD_eq_getElem?_getD] at this ⊢
    omega
end

/-- The call owns the n bytes g 0, g 1, .. in a row of its own, from block base on; E: the type of bytes. -/
def Own_ (w : World) (base : Nat) (E : TypeId) (A : Option Addr) (n c : Nat) (g : Nat → Nat) : Prop :=
  w.ownsRow base E 1 (.slice A n c) n ((List.range n).map fun i => bv (g i)) ∧ (∀ i, i < n → g i < 256)

section
variable {w w' : World} {base base' n c : Nat} {E : TypeId} {A : Option Addr} {f g : Nat → Nat}
theorem Own_.nil_ : Own_ w base E none 0 0 g := ⟨World.ownsRow_nil _ _ _ _, fun i h => by omega⟩
theorem Own_.congr (h : Own_ w base E A n c f) (he : ∀ i, i < n → f i = g i) : Own_ w base E A n c g := by
  refine ⟨?_, fun i hi => by rw [← he i hi]; exact h.2 i hi⟩
  have : ((List.range n).map fun i => bv (g i)) = ((List.range n).map fun i => bv (f i)) := List.map_congr_left (fun i hi => by rw [he i (List.mem_range.1 hi)])
  rw [this]; exact h.1
theorem Own_.alloc (h : Own_ w base E A n c g) (o : Obj) : Own_ (w.alloc o) base E A n c g := ⟨h.1.alloc o, h.2⟩
theorem Own_.drewN (h : Own_ w base E A n c g) (k : Nat) : Own_ (w.drewN k) base E A n c g := h
theorem Own_.below {B : Nat} (h : Own_ w base E A n c g) (hb : Below B w w') (hB : w.heap.size ≤ B) : Own_ w' base E A n c g := by
  refine ⟨?_, h.2⟩
  obtain ⟨h1, h2⟩ := h.1
  refine ⟨h1, ?_⟩
  rcases h2 with h2 | ⟨gg, cap, cur, hv, hg, hh, r⟩
  · exact Or.inl h2
  · have hlt : gg < w.heap.size := (Array.getElem?_eq_some_iff.1 hh).1
    exact Or.inr ⟨gg, cap, cur, hv, hg, (hb.block gg (by omega)).trans hh, r⟩
theorem Own_.lower (h : Own_ w base E A n c g) (hb : base' ≤ base) : Own_ w base' E A n c g := by
  refine ⟨?_, h.2⟩
  obtain ⟨h1, h2⟩ := h.1
  refine ⟨h1, ?_⟩
  rcases h2 with h2 | ⟨gg, cap, cur, hv, hg, r⟩
  · exact Or.inl h2
  · exact Or.inr ⟨gg, cap, cur, hv, by omega, r⟩
theorem Own_.byt (h : Own_ w base E A n c g) : Byt w w.heap.size A n c g := by
  obtain ⟨⟨h1, h2⟩, hlt⟩ := h
  rcases h2 with ⟨hv, h0⟩ | ⟨gg, cap, cur, hv, hg, hh, h3, h4, h5, h6⟩
  · injection hv with e1 e2 e3
    exact .inl ⟨e1, h0, e3⟩
  · have hown : w.ownsRow base E 1 (.slice A n c) n ((List.range n).map fun i => bv (g i)) := ⟨h1, .inr ⟨gg, cap, cur, hv, hg, hh, h3, h4, h5, h6⟩⟩
    injection hv with e1 e2 e3
    subst e1 e3
    refine .inr ⟨_, rfl, h3, h4, fun i hi => ⟨(Array.getElem?_eq_some_iff.1 hh).1, ?_, hlt i hi⟩⟩
    exact hown.cells rfl i _ (by simp [hi])
theorem Own_.byt_at (h : Own_ w base E A n c g) (hn : 0 < n) : ∃ b, A = some ⟨b, 0, none⟩ ∧ base ≤ b ∧ b < w.heap.size ∧ ∀ i, i < n → (w.cell? ⟨b, i, none⟩ = some (bv (g i)) ∧ w.frozen? ⟨b, i, none⟩ = false ∧ g i < 256) := by
  obtain ⟨hown, hlt⟩ := h
  obtain ⟨gg, cap, hv, hg, hl⟩ := hown.form hn
  injection hv with e1 e2 e3
  subst e1 e3
  refine ⟨gg, rfl, hg, hl, fun i hi => ⟨?_, hown.frozenAt i, hlt i hi⟩⟩
  rw [hown.cellAt i (by omega)]
  simp [hi]
/-- A store of one byte. -/
theorem Own_.set_ {b : Nat} (h : Own_ w base E (some ⟨b, 0, none⟩) n c g) {j : Nat} (_hj : j < n) {u : Nat} (hu : u < 256) : Own_ (w.setCell ⟨b, j, none⟩ (bv u)) base E (some ⟨b, 0, none⟩) n c (fun i => if i = j then u else g i) := by
  obtain ⟨hown, hlt⟩ := h
  refine ⟨?_, fun i hi => by dsimp only; split; exact hu; exact hlt i hi⟩
  have h1 := (hown.stored j (bv u)).1
  have e : (((List.range n).map fun i => bv (g i)).set j (bv u)) = ((List.range n).map fun i => bv (if i = j then u else g i)) := by
    apply List.ext_getElem (by simp)
    intro i h1 h2
    simp only [List.getElem_map, List.getElem_range, List.getElem_set]
    by_cases e : i = j
    · rw [if_pos e, if_pos e.symm]
    · rw [if_neg e, if_neg (fun x => e x.symm)]
  rw [e] at h1
  exact h1
end

/-- Two rows, one behind the other. -/
def cat (n : Nat) (f g : Nat → Nat) (i : Nat) : Nat := if i < n then f i else g (i - n)

theorem cat_snoc (f : Nat → Nat) (j u : Nat) (hu : u = f j) : ∀ i, i < j + 1 → cat j f (fun _ => u) i = f i := fun i hi => by
  unfold cat; split
  · rfl
  · rw [hu, show i = j from by omega]

theorem ownsRow_parts {w : World} {base : Nat} {e : TypeId} {size : Nat} {v : Value} {n : Nat} {xs : List Value} (h : w.ownsRow base e size v n xs) : ∃ A c, v = .slice A n c := by
  rcases h.2 with ⟨rfl, rfl⟩ | ⟨g, cap, cur, rfl, _⟩
  · exact ⟨none, 0, rfl⟩
  · exact ⟨_, _, rfl⟩
/-- append onto a row of the call's own, of bytes that a slice holds, a nil one too. -/
theorem wp_bytes {P : Program} (w : World) {o : Oper} {a : Act} {K : Act → World → Prop} {Q : Exit → Act → World → Prop} (s x : Operand) (t E : TypeId)
    (ho : o.op = .call { callee := .builtin .append, args := #[s, x], argTypes := #[t, t] })
    (ht : P.underlying t = some (.slice E)) (hinfo : (P.info? E).map (fun i => (i.zero, i.size, i.bytes)) = some (some (.int .u8 0), 1, 1))
    {base n c m d : Nat} {A C : Option Addr} {f g : Nat → Nat} (hs : a.eval s = .slice A n c) (hown : Own_ w base E A n c f) (hx : a.eval x = .slice C m d) {B : Nat} (hr : Byt w B C m d g)
    (hn : n + m ≤ 140737488355328) (hbase : base ≤ w.heap.size)
    (h : ∀ A' c' w', Own_ w' base E A' (n + m) c' (cat n f g) → w.grownBy w' (Value.slice A n c).ownBlock → Below base w w' → K (a.put o.dst (.slice A' (n + m) c')) w') : o.wp P a w K Q := by
  obtain ⟨i0, hi, hz0, hz1, hz2⟩ := info_parts hinfo
  have hcat : ((List.range (n + m)).map fun i => bv (cat n f g i)) = ((List.range n).map fun i => bv (f i)) ++ ((List.range m).map fun i => bv (g i)) := by
    rw [List.range_add, List.map_append, List.map_map]
    congr 1
    · exact List.map_congr_left (fun i hi => by simp [cat, List.mem_range.1 hi])
    · exact List.map_congr_left (fun i _ => by show bv (cat n f g (n + i)) = bv (g i); unfold cat; rw [if_neg (by omega), Nat.add_sub_cancel_left])
  have hlt : ∀ i, i < n + m → cat n f g i < 256 := fun i hi => by
    unfold cat; split
    · exact hown.2 i (by assumption)
    · exact hr.lt (by omega)
  rcases hr with ⟨rfl, rfl, rfl⟩ | ⟨ad, rfl, h1, h2, hc⟩
  · have hrun := run_append_owned_none (P := P) (w := w) base t o.type E i0 1 ht hi (.slice A n c) n _ hown.1
    have hK := h A c w ⟨by rw [hcat]; simp only [List.range_zero, List.map_nil, List.append_nil, Nat.add_zero]; exact hown.1, hlt⟩ (World.grownBy.refl _ _) (Below.refl _ _)
    unfold Oper.wp execOp
    simp only [ho, resolve, invoke, builtin, Sem.run_bind, Sem.run_pure, Result.andThen_ok, List.map_toArray, List.map_cons, List.map_nil, hs, hx, hrun]
    exact hK
  · refine wp_append_own w s x t ho base E i0 _ 1 1 ht hi hz0 hz1 hz2 rfl (by decide) (.slice A n c) n _ hs hown.1 ad m d ((List.range m).map fun i => bv (g i)) hx (by simp) ?_ ?_ (by simp only [maxLen]; omega) (by omega) hbase ?_
    · intro j u hu
      have hj : j < m := by
        rcases Nat.lt_or_ge j m with h | h
        · exact h
        · rw [List.getElem?_eq_none (by simpa using h)] at hu; cases hu
      rw [(hc j hj).2.1]; rw [← hu]; simp [hj]
    · intro u hu
      obtain ⟨i, _, rfl⟩ := List.mem_map.1 hu
      rfl
    · intro v' w' hown' hgrow _
      have hb : Below base w w' := (Below.refl _ _).grown hgrow hbase (fun k hk => (hown.1.lt k hk).1)
      rw [← hcat] at hown'
      rcases ownsRow_parts hown' with ⟨A', c', rfl⟩
      exact h A' c' w' ⟨hown', hlt⟩ hgrow hb
theorem app_bytes {P : Program} (w : World) {ops : Array Oper} {rest : List Oper} {o : Oper} {a : Act} {Q : Exit → Act → World → Prop} (hgd : o.guard = none) (s x : Operand) (t E : TypeId)
    (ho : o.op = .call { callee := .builtin .append, args := #[s, x], argTypes := #[t, t] })
    (ht : P.underlying t = some (.slice E)) (hinfo : (P.info? E).map (fun i => (i.zero, i.size, i.bytes)) = some (some (.int .u8 0), 1, 1))
    {base n c m d : Nat} {A C : Option Addr} {f g : Nat → Nat} (hs : a.eval s = .slice A n c) (hown : Own_ w base E A n c f) (hx : a.eval x = .slice C m d) {B : Nat} (hr : Byt w B C m d g)
    (hn : n + m ≤ 140737488355328) (hbase : base ≤ w.heap.size)
    (h : ∀ A' c' w', Own_ w' base E A' (n + m) c' (cat n f g) → w.grownBy w' (Value.slice A n c).ownBlock → Below base w w' → wpList P ops Q rest (a.put o.dst (.slice A' (n + m) c')) w') : wpList P ops Q (o :: rest) a w :=
  wpList_plain hgd fun _ hK => wp_bytes w s x t E ho ht hinfo hs hown hx hr hn hbase fun A' c' w' h1 h2 h3 => hK _ _ (h A' c' w' h1 h2 h3)
/-- The same as a step of a region that draws its order. -/
theorem step_bytes {P : Program} {w : World} {ops : Array Oper} {o : Oper} {a : Act} {K : Act → World → Prop} {Q : Exit → Act → World → Prop} {R : Prop} (hgd : o.guard = none) (s x : Operand) (t E : TypeId)
    (ho : o.op = .call { callee := .builtin .append, args := #[s, x], argTypes := #[t, t] })
    (ht : P.underlying t = some (.slice E)) (hinfo : (P.info? E).map (fun i => (i.zero, i.size, i.bytes)) = some (some (.int .u8 0), 1, 1))
    {base n c m d : Nat} {A C : Option Addr} {f g : Nat → Nat} (hs : a.eval s = .slice A n c) (hown : Own_ w base E A n c f) (hx : a.eval x = .slice C m d) {B : Nat} (hr : Byt w B C m d g)
    (hn : n + m ≤ 140737488355328) (hbase : base ≤ w.heap.size)
    (h : ∀ A' c' w', Own_ w' base E A' (n + m) c' (cat n f g) → w.grownBy w' (Value.slice A n c).ownBlock → Below base w w' → K (a.put o.dst (.slice A' (n + m) c')) w') :
    if Region.wanted o (yielded ops a.tmps) = true then Oper.wp P o a w K Q else R := by
  have hw : Region.wanted o (yielded ops a.tmps) = true := by simp [Region.wanted, hgd]
  rw [if_pos hw]
  exact wp_bytes w s x t E ho ht hinfo hs hown hx hr hn hbase h
end Go.Proofs.Ytfanapnhdhoppaa
