/-
  Words for bytes in memory: when a slice value reads as bytes, when a call owns a row of bytes, and how an append joins the two. Nothing here speaks of a program.
-/
import Derived.WalkKit
import Derived.WalkLawsBesides
import Derived.WalkSpells
import Derived.Laws.AppendOwnNone
import Derived.Deep.AppendLies
import Derived.Deep.Draws
import Derived.Lib.Hide
import Derived.ChangeShapes
import Derived.WideShapes
import Derived.Maps.OwnSet
import Derived.Maps.OwnOps
namespace Go.Proofs.Ytmndolojfdekdaa
open Go.RowKit

theorem ret_tup2 {k j : IntKind} {a b c d : Int} (h : a = b) (h' : c = d) : Ending.returned (.tuple #[.int k a, .int j c]) = Ending.returned (.tuple #[.int k b, .int j d]) := by rw [h, h']
theorem ret_int {k : IntKind} {a b : Int} (h : a = b) : Ending.returned (.int k a) = .returned (.int k b) := by rw [h]
theorem ret_bool {a b : Bool} (h : a = b) : Ending.returned (.bool a) = .returned (.bool b) := by rw [h]

theorem bdn {B : Nat} {a w : World} (h : Below B a w) (n : Nat) : Below B a (w.drewN n) := ⟨h.os, h.tape, h.output, h.size, h.block⟩

/-- A byte as a value. -/
abbrev bv (n : Nat) : Value := .int .u8 (n : Int)

/-- The slice value with these parts reads as the n bytes f 0, f 1, ..; it lies below block B. -/
def Byt (w : World) (B : Nat) (A : Option Addr) (n c : Nat) (f : Nat → Nat) : Prop :=
  (A = none ∧ n = 0 ∧ c = 0) ∨ ∃ ad, A = some ad ∧ n ≤ c ∧ c ≤ maxLen ∧ ∀ i, i < n → (ad.block < B ∧ w.cell? (ad.add i) = some (bv (f i)) ∧ f i < 256)

section
variable {w w' : World} {B B' n c : Nat} {A : Option Addr} {f g : Nat → Nat}
theorem Byt.below (h : Byt w B A n c f) (hb : Below B w w') : Byt w' B A n c f := by
  rcases h with h | ⟨ad, rfl, h1, h2, hc⟩
  · exact .inl h
  · refine .inr ⟨ad, rfl, h1, h2, fun i hi => ⟨(hc i hi).1, (hb.cell (p := ad.add i) ?_).trans (hc i hi).2.1, (hc i hi).2.2⟩⟩
    unfold Addr.add; split <;> exact (hc i hi).1
theorem Byt.more (h : Byt w B A n c f) (hb : B ≤ B') : Byt w B' A n c f := by
  rcases h with h | ⟨ad, rfl, h1, h2, hc⟩
  · exact .inl h
  · exact .inr ⟨ad, rfl, h1, h2, fun i hi => ⟨Nat.lt_of_lt_of_le (hc i hi).1 hb, (hc i hi).2⟩⟩
theorem Byt.drewN (h : Byt w B A n c f) (k : Nat) : Byt (w.drewN k) B A n c f := h
theorem Byt.le (h : Byt w B A n c f) : n ≤ c ∧ c ≤ maxLen := by
  rcases h with ⟨_, rfl, rfl⟩ | ⟨ad, rfl, h1, h2, hc⟩
  · exact ⟨Nat.le_refl _, Nat.zero_le _⟩
  · exact ⟨h1, h2⟩
theorem Byt.lt (h : Byt w B A n c f) {i : Nat} (hi : i < n) : f i < 256 := by
  rcases h with ⟨_, rfl, _⟩ | ⟨ad, rfl, h1, h2, hc⟩
  · omega
  · exact (hc i hi).2.2
theorem Byt.congr (h : Byt w B A n c f) (he : ∀ i, i < n → f i = g i) : Byt w B A n c g := by
  rcases h with h | ⟨ad, rfl, h1, h2, hc⟩
  · exact .inl h
  · exact .inr ⟨ad, rfl, h1, h2, fun i hi => by rw [← he i hi]; exact hc i hi⟩
theorem Byt.at_ (h : Byt w B A n c f) (hn : 0 < n) : ∃ b off, A = some ⟨b, off, none⟩ ∧ b < B ∧ ∀ i, i < n → (w.cell? ⟨b, off + i, none⟩ = some (bv (f i)) ∧ f i < 256) := by
  rcases h with ⟨_, rfl, _⟩ | ⟨⟨b, off, spot⟩, rfl, h1, h2, hc⟩
  · omega
  · have hspot : spot = none := by simpa [Addr.add] using World.cell?_spot (hc 0 hn).2.1
    subst hspot
    exact ⟨b, off, rfl, (hc 0 hn).1, fun i hi => ⟨by rw [← Go.WideShapes.add_plain]; exact (hc i hi).2.1, (hc i hi).2.2⟩⟩
theorem Byt.nil_ : Byt w B none 0 0 f := .inl ⟨rfl, rfl, rfl⟩
/-- A block that holds just these bytes. -/
theorem Byt.mk_ {b off : Nat} (hb : b < B) (h1 : n ≤ c) (h2 : c ≤ maxLen) (hc : ∀ i, i < n → w.cell? ⟨b, off + i, none⟩ = some (bv (f i)) ∧ f i < 256) : Byt w B (some ⟨b, off, none⟩) n c f :=
  .inr ⟨⟨b, off, none⟩, rfl, h1, h2, fun i hi => ⟨hb, by rw [Go.WideShapes.add_plain]; exact (hc i hi).1, (hc i hi).2⟩⟩
/-- A part of a slice, as the walk cuts it. -/
theorem Byt.cut (h : Byt w B A n c f) {i j : Nat} (hij : i ≤ j) (hj : j ≤ n) : Byt w B (if c = i then A else A.map (·.add i)) (j - i) (c - i) (fun k => f (i + k)) := by
  rcases h with ⟨rfl, rfl, rfl⟩ | ⟨ad, rfl, h1, h2, hc⟩
  · obtain rfl : j = 0 := by omega
    obtain rfl : i = 0 := by omega
    exact .inl ⟨by simp, rfl, rfl⟩
  · by_cases hci : c = i
    · rw [if_pos hci]
      exact .inr ⟨ad, rfl, by omega, by omega, fun k hk => by omega⟩
    · rw [if_neg hci]
      refine .inr ⟨ad.add i, rfl, by omega, by omega, fun k hk => ?_⟩
      have := hc (i + k) (by omega)
      have e : (ad.add i).add k = ad.add (i + k) := by
        unfold Addr.add
        by_cases hi : i = 0 <;> by_cases hk' : k = 0 <;> simp [hi, hk', Nat.add_assoc]
      have eb : (ad.add i).block = ad.block := by unfold Addr.add; split <;> rfl
      rw [e, eb]; exact this
theorem Byt.take (h : Byt w B A n c f) {j : Nat} (hj : j ≤ n) : Byt w B A j c f := by
  rcases h with ⟨rfl, rfl, rfl⟩ | ⟨ad, rfl, h1, h2, hc⟩
  · obtain rfl : j = 0 := by omega
    exact .inl ⟨rfl, rfl, rfl⟩
  · exact .inr ⟨ad, rfl, by omega, h2, fun i hi => hc i (by omega)⟩
/-- What a reading of an argument of bytes tells. -/
theorem byt_of_ints {x : Addr} {zs : List Int} (h1 : n ≤ c) (h2 : c ≤ maxLen) (hz : n ≤ zs.length) (hc : ∀ i, i < zs.length → w.cell? (x.add i) = some (.int .u8 (zs.getD i 0))) (hw : ∀ z ∈ zs, (Lit.int .u8 z).wf = true) :
    Byt w w.heap.size (some x) n c (fun i => (zs.getD i 0).toNat) := by
  refine .inr ⟨x, rfl, h1, h2, fun i hi => ?_⟩
  have hi' : i < zs.length := by omega
  have hcell := hc i hi'
  have hmem : zs.getD i 0 ∈ zs := by rw [List.getD_eq_getElem?_getD, List.getElem?_eq_getElem hi']; exact List.getElem_mem hi'
  have hwf := hw _ hmem
  simp [Lit.wf, IntKind.min, IntKind.max, IntKind.signed, IntKind.bits] at hwf
  have hb := World.block_lt_of_cell? w _ hcell
  have eb : (x.add i).block = x.block := by unfold Addr.add; split <;> rfl
  rw [eb] at hb
  refine ⟨hb, ?_, ?_⟩
  · rw [hcell]
    show some (Value.int .u8 _) = some (Value.int .u8 _)
    rw [Int.toNat_of_nonneg (by simpa using hwf.1)]
  · have := hwf.2
    simp only [List.getD_eq_getElem?_getD] at this ⊢
    omega
end

/-- The call owns the n bytes g 0, g 1, .. in a row of its own, from block base on; E: the type of bytes. -/
def Own_ (w : World) (base : Nat) (E : TypeId) (A : Option Addr) (n c : Nat) (g : Nat → Nat) : Prop :=
  w.ownsRow base E 1 (.slice A n c) n ((List.range n).map fun i => bv (g i)) ∧ (∀ i, i < n → g i < 256)

section
variable {w w' : World} {base base' n c : Nat} {E : TypeId} {A : Option Addr} {f g : Nat → Nat}
theorem Own_.nil_ : Own_ w base E none 0 0 g := ⟨World.ownsRow_nil _ _ _ _, fun i h => by omega⟩
theorem Own_.congr (h : Own_ w base E A n c f) (he : ∀ i, i < n → f i = g i) : Own_ w base E A n c g := by
  refine ⟨?_, fun i hi => by rw [← he i hi]; exact h.2 i hi⟩
  have : ((List.range n).map fun i => bv (g i)) = ((List.range n).map fun i => bv (f i)) := List.map_congr_left (fun i hi => by rw [he i (List.mem_range.1 hi)])
  rw [this]; exact h.1
theorem Own_.alloc (h : Own_ w base E A n c g) (o : Obj) : Own_ (w.alloc o) base E A n c g := ⟨h.1.alloc o, h.2⟩
theorem Own_.drewN (h : Own_ w base E A n c g) (k : Nat) : Own_ (w.drewN k) base E A n c g := h
theorem Own_.below {B : Nat} (h : Own_ w base E A n c g) (hb : Below B w w') (hB : w.heap.size ≤ B) : Own_ w' base E A n c g := by
  refine ⟨?_, h.2⟩
  obtain ⟨h1, h2⟩ := h.1
  refine ⟨h1, ?_⟩
  rcases h2 with h2 | ⟨gg, cap, cur, hv, hg, hh, r⟩
  · exact Or.inl h2
  · have hlt : gg < w.heap.size := (Array.getElem?_eq_some_iff.1 hh).1
    exact Or.inr ⟨gg, cap, cur, hv, hg, (hb.block gg (by omega)).trans hh, r⟩
theorem Own_.lower (h : Own_ w base E A n c g) (hb : base' ≤ base) : Own_ w base' E A n c g := by
  refine ⟨?_, h.2⟩
  obtain ⟨h1, h2⟩ := h.1
  refine ⟨h1, ?_⟩
  rcases h2 with h2 | ⟨gg, cap, cur, hv, hg, r⟩
  · exact Or.inl h2
  · exact Or.inr ⟨gg, cap, cur, hv, by omega, r⟩
theorem Own_.byt (h : Own_ w base E A n c g) : Byt w w.heap.size A n c g := by
  obtain ⟨⟨h1, h2⟩, hlt⟩ := h
  rcases h2 with ⟨hv, h0⟩ | ⟨gg, cap, cur, hv, hg, hh, h3, h4, h5, h6⟩
  · injection hv with e1 e2 e3
    exact .inl ⟨e1, h0, e3⟩
  · have hown : w.ownsRow base E 1 (.slice A n c) n ((List.range n).map fun i => bv (g i)) := ⟨h1, .inr ⟨gg, cap, cur, hv, hg, hh, h3, h4, h5, h6⟩⟩
    injection hv with e1 e2 e3
    subst e1 e3
    refine .inr ⟨_, rfl, h3, h4, fun i hi => ⟨(Array.getElem?_eq_some_iff.1 hh).1, ?_, hlt i hi⟩⟩
    exact hown.cells rfl i _ (by simp [hi])
theorem Own_.byt_at (h : Own_ w base E A n c g) (hn : 0 < n) : ∃ b, A = some ⟨b, 0, none⟩ ∧ base ≤ b ∧ b < w.heap.size ∧ ∀ i, i < n → (w.cell? ⟨b, i, none⟩ = some (bv (g i)) ∧ w.frozen? ⟨b, i, none⟩ = false ∧ g i < 256) := by
  obtain ⟨hown, hlt⟩ := h
  obtain ⟨gg, cap, hv, hg, hl⟩ := hown.form hn
  injection hv with e1 e2 e3
  subst e1 e3
  refine ⟨gg, rfl, hg, hl, fun i hi => ⟨?_, hown.frozenAt i, hlt i hi⟩⟩
  rw [hown.cellAt i (by omega)]
  simp [hi]
/-- A store of one byte. -/
theorem Own_.set_ {b : Nat} (h : Own_ w base E (some ⟨b, 0, none⟩) n c g) {j : Nat} (_hj : j < n) {u : Nat} (hu : u < 256) : Own_ (w.setCell ⟨b, j, none⟩ (bv u)) base E (some ⟨b, 0, none⟩) n c (fun i => if i = j then u else g i) := by
  obtain ⟨hown, hlt⟩ := h
  refine ⟨?_, fun i hi => by dsimp only; split; exact hu; exact hlt i hi⟩
  have h1 := (hown.stored j (bv u)).1
  have e : (((List.range n).map fun i => bv (g i)).set j (bv u)) = ((List.range n).map fun i => bv (if i = j then u else g i)) := by
    apply List.ext_getElem (by simp)
    intro i h1 h2
    simp only [List.getElem_map, List.getElem_range, List.getElem_set]
    by_cases e : i = j
    · rw [if_pos e, if_pos e.symm]
    · rw [if_neg e, if_neg (fun x => e x.symm)]
  rw [e] at h1
  exact h1
end

/-- Two rows, one behind the other. -/
def cat (n : Nat) (f g : Nat → Nat) (i : Nat) : Nat := if i < n then f i else g (i - n)

theorem cat_snoc (f : Nat → Nat) (j u : Nat) (hu : u = f j) : ∀ i, i < j + 1 → cat j f (fun _ => u) i = f i := fun i hi => by
  unfold cat; split
  · rfl
  · rw [hu, show i = j from by omega]

theorem ownsRow_parts {w : World} {base : Nat} {e : TypeId} {size : Nat} {v : Value} {n : Nat} {xs : List Value} (h : w.ownsRow base e size v n xs) : ∃ A c, v = .slice A n c := by
  rcases h.2 with ⟨rfl, rfl⟩ | ⟨g, cap, cur, rfl, _⟩
  · exact ⟨none, 0, rfl⟩
  · exact ⟨_, _, rfl⟩
/-- append onto a row of the call's own, of bytes that a slice holds, a nil one too. -/
theorem wp_bytes {P : Program} (w : World) {o : Oper} {a : Act} {K : Act → World → Prop} {Q : Exit → Act → World → Prop} (s x : Operand) (t E : TypeId)
    (ho : o.op = .call { callee := .builtin .append, args := #[s, x], argTypes := #[t, t] })
    (ht : P.underlying t = some (.slice E)) (hinfo : (P.info? E).map (fun i => (i.zero, i.size, i.bytes)) = some (some (.int .u8 0), 1, 1))
    {base n c m d : Nat} {A C : Option Addr} {f g : Nat → Nat} (hs : a.eval s = .slice A n c) (hown : Own_ w base E A n c f) (hx : a.eval x = .slice C m d) {B : Nat} (hr : Byt w B C m d g)
    (hn : n + m ≤ 140737488355328) (hbase : base ≤ w.heap.size)
    (h : ∀ A' c' w', Own_ w' base E A' (n + m) c' (cat n f g) → w.grownBy w' (Value.slice A n c).ownBlock → Below base w w' → K (a.put o.dst (.slice A' (n + m) c')) w') : o.wp P a w K Q := by
  obtain ⟨i0, hi, hz0, hz1, hz2⟩ := info_parts hinfo
  have hcat : ((List.range (n + m)).map fun i => bv (cat n f g i)) = ((List.range n).map fun i => bv (f i)) ++ ((List.range m).map fun i => bv (g i)) := by
    rw [List.range_add, List.map_append, List.map_map]
    congr 1
    · exact List.map_congr_left (fun i hi => by simp [cat, List.mem_range.1 hi])
    · exact List.map_congr_left (fun i _ => by show bv (cat n f g (n + i)) = bv (g i); unfold cat; rw [if_neg (by omega), Nat.add_sub_cancel_left])
  have hlt : ∀ i, i < n + m → cat n f g i < 256 := fun i hi => by
    unfold cat; split
    · exact hown.2 i (by assumption)
    · exact hr.lt (by omega)
  rcases hr with ⟨rfl, rfl, rfl⟩ | ⟨ad, rfl, h1, h2, hc⟩
  · have hrun := run_append_owned_none (P := P) (w := w) base t o.type E i0 1 ht hi (.slice A n c) n _ hown.1
    have hK := h A c w ⟨by rw [hcat]; simp only [List.range_zero, List.map_nil, List.append_nil, Nat.add_zero]; exact hown.1, hlt⟩ (World.grownBy.refl _ _) (Below.refl _ _)
    unfold Oper.wp execOp
    simp only [ho, resolve, invoke, builtin, Sem.run_bind, Sem.run_pure, Result.andThen_ok, List.map_toArray, List.map_cons, List.map_nil, hs, hx, hrun]
    exact hK
  · refine wp_append_own w s x t ho base E i0 _ 1 1 ht hi hz0 hz1 hz2 rfl (by decide) (.slice A n c) n _ hs hown.1 ad m d ((List.range m).map fun i => bv (g i)) hx (by simp) ?_ ?_ (by simp only [maxLen]; omega) (by omega) hbase ?_
    · intro j u hu
      have hj : j < m := by
        rcases Nat.lt_or_ge j m with h | h
        · exact h
        · rw [List.getElem?_eq_none (by simpa using h)] at hu; cases hu
      rw [(hc j hj).2.1]; rw [← hu]; simp [hj]
    · intro u hu
      obtain ⟨i, _, rfl⟩ := List.mem_map.1 hu
      rfl
    · intro v' w' hown' hgrow _
      have hb : Below base w w' := (Below.refl _ _).grown hgrow hbase (fun k hk => (hown.1.lt k hk).1)
      rw [← hcat] at hown'
      rcases ownsRow_parts hown' with ⟨A', c', rfl⟩
      exact h A' c' w' ⟨hown', hlt⟩ hgrow hb
theorem app_bytes {P : Program} (w : World) {ops : Array Oper} {rest : List Oper} {o : Oper} {a : Act} {Q : Exit → Act → World → Prop} (hgd : o.guard = none) (s x : Operand) (t E : TypeId)
    (ho : o.op = .call { callee := .builtin .append, args := #[s, x], argTypes := #[t, t] })
    (ht : P.underlying t = some (.slice E)) (hinfo : (P.info? E).map (fun i => (i.zero, i.size, i.bytes)) = some (some (.int .u8 0), 1, 1))
    {base n c m d : Nat} {A C : Option Addr} {f g : Nat → Nat} (hs : a.eval s = .slice A n c) (hown : Own_ w base E A n c f) (hx : a.eval x = .slice C m d) {B : Nat} (hr : Byt w B C m d g)
    (hn : n + m ≤ 140737488355328) (hbase : base ≤ w.heap.size)
    (h : ∀ A' c' w', Own_ w' base E A' (n + m) c' (cat n f g) → w.grownBy w' (Value.slice A n c).ownBlock → Below base w w' → wpList P ops Q rest (a.put o.dst (.slice A' (n + m) c')) w') : wpList P ops Q (o :: rest) a w :=
  wpList_plain hgd fun _ hK => wp_bytes w s x t E ho ht hinfo hs hown hx hr hn hbase fun A' c' w' h1 h2 h3 => hK _ _ (h A' c' w' h1 h2 h3)
/-- The same as a step of a region that draws its order. -/
theorem step_bytes {P : Program} {w : World} {ops : Array Oper} {o : Oper} {a : Act} {K : Act → World → Prop} {Q : Exit → Act → World → Prop} {R : Prop} (hgd : o.guard = none) (s x : Operand) (t E : TypeId)
    (ho : o.op = .call { callee := .builtin .append, args := #[s, x], argTypes := #[t, t] })
    (ht : P.underlying t = some (.slice E)) (hinfo : (P.info? E).map (fun i => (i.zero, i.size, i.bytes)) = some (some (.int .u8 0), 1, 1))
    {base n c m d : Nat} {A C : Option Addr} {f g : Nat → Nat} (hs : a.eval s = .slice A n c) (hown : Own_ w base E A n c f) (hx : a.eval x = .slice C m d) {B : Nat} (hr : Byt w B C m d g)
    (hn : n + m ≤ 140737488355328) (hbase : base ≤ w.heap.size)
    (h : ∀ A' c' w', Own_ w' base E A' (n + m) c' (cat n f g) → w.grownBy w' (Value.slice A n c).ownBlock → Below base w w' → K (a.put o.dst (.slice A' (n + m) c')) w') :
    if Region.wanted o (yielded ops a.tmps) = true then Oper.wp P o a w K Q else R := by
  have hw : Region.wanted o (yielded ops a.tmps) = true := by simp [Region.wanted, hgd]
  rw [if_pos hw]
  exact wp_bytes w s x t E ho ht hinfo hs hown hx hr hn hbase h
end Go.Proofs.Ytmndolojfdekdaa

/-
  Words for slices whose elements take any number of cells: when a slice value reads as cells, when a call owns such a row, and how an append joins the two. Nothing here speaks of a program.
-/
namespace Go.Proofs.Ytmndolojfdekdaa
open Go.RowKit

/-- The slice value with these parts reads as n elements of z cells each, the cells F 0, F 1, ..; it lies below block B. -/
def Cel (w : World) (B z : Nat) (A : Option Addr) (n c : Nat) (F : Nat → Value) : Prop :=
  (A = none ∧ n = 0 ∧ c = 0) ∨ ∃ ad, A = some ad ∧ n ≤ c ∧ c ≤ maxLen ∧ ∀ j, j < n * z → (ad.block < B ∧ w.cell? (ad.add j) = some (F j))

section
variable {w w' : World} {B B' z n c : Nat} {A : Option Addr} {F G : Nat → Value}
theorem Cel.below (h : Cel w B z A n c F) (hb : Below B w w') : Cel w' B z A n c F := by
  rcases h with h | ⟨ad, rfl, h1, h2, hc⟩
  · exact .inl h
  · refine .inr ⟨ad, rfl, h1, h2, fun i hi => ⟨(hc i hi).1, (hb.cell (p := ad.add i) ?_).trans (hc i hi).2⟩⟩
    unfold Addr.add; split <;> exact (hc i hi).1
theorem Cel.more (h : Cel w B z A n c F) (hb : B ≤ B') : Cel w B' z A n c F := by
  rcases h with h | ⟨ad, rfl, h1, h2, hc⟩
  · exact .inl h
  · exact .inr ⟨ad, rfl, h1, h2, fun i hi => ⟨Nat.lt_of_lt_of_le (hc i hi).1 hb, (hc i hi).2⟩⟩
theorem Cel.le (h : Cel w B z A n c F) : n ≤ c ∧ c ≤ maxLen := by
  rcases h with ⟨_, rfl, rfl⟩ | ⟨ad, rfl, h1, h2, hc⟩
  · exact ⟨Nat.le_refl _, Nat.zero_le _⟩
  · exact ⟨h1, h2⟩
theorem Cel.congr (h : Cel w B z A n c F) (he : ∀ i, i < n * z → F i = G i) : Cel w B z A n c G := by
  rcases h with h | ⟨ad, rfl, h1, h2, hc⟩
  · exact .inl h
  · exact .inr ⟨ad, rfl, h1, h2, fun i hi => by rw [← he i hi]; exact hc i hi⟩
theorem Cel.at_ (h : Cel w B z A n c F) (hn : 0 < n * z) : ∃ b off, A = some ⟨b, off, none⟩ ∧ b < B ∧ ∀ i, i < n * z → w.cell? ⟨b, off + i, none⟩ = some (F i) := by
  rcases h with ⟨_, rfl, _⟩ | ⟨⟨b, off, spot⟩, rfl, h1, h2, hc⟩
  · omega
  · have hspot : spot = none := by simpa [Addr.add] using World.cell?_spot (hc 0 hn).2
    subst hspot
    exact ⟨b, off, rfl, (hc 0 hn).1, fun i hi => by rw [← Go.WideShapes.add_plain]; exact (hc i hi).2⟩
theorem Cel.mk_ {b off : Nat} (hb : b < B) (h1 : n ≤ c) (h2 : c ≤ maxLen) (hc : ∀ i, i < n * z → w.cell? ⟨b, off + i, none⟩ = some (F i)) : Cel w B z (some ⟨b, off, none⟩) n c F :=
  .inr ⟨⟨b, off, none⟩, rfl, h1, h2, fun i hi => ⟨hb, by rw [Go.WideShapes.add_plain]; exact hc i hi⟩⟩
theorem Cel.nil_ : Cel w B z none 0 0 F := .inl ⟨rfl, rfl, rfl⟩
end

/-- The call owns the n elements of z cells in a row of its own, from block base on; E: the elements' type. -/
def OwnC (w : World) (base : Nat) (E : TypeId) (z : Nat) (A : Option Addr) (n c : Nat) (F : Nat → Value) : Prop :=
  w.ownsRow base E z (.slice A n c) n ((List.range (n * z)).map F)

section
variable {w w' : World} {base base' z n c : Nat} {E : TypeId} {A : Option Addr} {F G : Nat → Value}
theorem OwnC.nil_ : OwnC w base E z none 0 0 F := by unfold OwnC; rw [Nat.zero_mul]; exact World.ownsRow_nil _ _ _ _
theorem OwnC.congr (h : OwnC w base E z A n c F) (he : ∀ i, i < n * z → F i = G i) : OwnC w base E z A n c G := by
  unfold OwnC at *
  have : ((List.range (n * z)).map G) = ((List.range (n * z)).map F) := List.map_congr_left (fun i hi => (he i (List.mem_range.1 hi)).symm)
  rw [this]; exact h
theorem OwnC.alloc (h : OwnC w base E z A n c F) (o : Obj) : OwnC (w.alloc o) base E z A n c F := World.ownsRow.alloc h o
theorem OwnC.drew (h : OwnC w base E z A n c F) : OwnC w.drew base E z A n c F := h
theorem OwnC.below {B : Nat} (h : OwnC w base E z A n c F) (hb : Below B w w') (hB : w.heap.size ≤ B) : OwnC w' base E z A n c F := by
  obtain ⟨h1, h2⟩ := h
  refine ⟨h1, ?_⟩
  rcases h2 with h2 | ⟨gg, cap, cur, hv, hg, hh, r⟩
  · exact Or.inl h2
  · have hlt : gg < w.heap.size := (Array.getElem?_eq_some_iff.1 hh).1
    exact Or.inr ⟨gg, cap, cur, hv, hg, (hb.block gg (by omega)).trans hh, r⟩
theorem OwnC.lower (h : OwnC w base E z A n c F) (hb : base' ≤ base) : OwnC w base' E z A n c F := by
  obtain ⟨h1, h2⟩ := h
  refine ⟨h1, ?_⟩
  rcases h2 with h2 | ⟨gg, cap, cur, hv, hg, r⟩
  · exact Or.inl h2
  · exact Or.inr ⟨gg, cap, cur, hv, by omega, r⟩
theorem OwnC.cel (h : OwnC w base E z A n c F) : Cel w w.heap.size z A n c F := by
  have hown := h
  obtain ⟨h1, h2⟩ := h
  rcases h2 with ⟨hv, h0⟩ | ⟨gg, cap, cur, hv, hg, hh, h3, h4, h5, h6⟩
  · injection hv with e1 e2 e3
    exact .inl ⟨e1, h0, e3⟩
  · injection hv with e1 e2 e3
    subst e1 e3
    refine .inr ⟨_, rfl, h3, h4, fun i hi => ⟨(Array.getElem?_eq_some_iff.1 hh).1, ?_⟩⟩
    exact World.ownsRow.cells hown rfl i _ (by simp [hi])
end

/-- Two rows of cells, one behind the other. -/
def catC (n : Nat) (F G : Nat → Value) (i : Nat) : Value := if i < n then F i else G (i - n)

/-- append onto a row of the call's own, of elements that a slice holds, a nil one too. -/
theorem wp_cells {P : Program} (w : World) {o : Oper} {a : Act} {K : Act → World → Prop} {Q : Exit → Act → World → Prop} (s x : Operand) (t E : TypeId)
    (ho : o.op = .call { callee := .builtin .append, args := #[s, x], argTypes := #[t, t] })
    (ht : P.underlying t = some (.slice E)) {zv : Value} {z by_ : Nat} (hinfo : (P.info? E).map (fun i => (i.zero, i.size, i.bytes)) = some (some zv, z, by_)) (hzs : zv.cells.size = z) (hz : 0 < z)
    {base n c m d : Nat} {A C : Option Addr} {F G : Nat → Value} (hs : a.eval s = .slice A n c) (hown : OwnC w base E z A n c F) (hx : a.eval x = .slice C m d) {B : Nat} (hr : Cel w B z C m d G) (h1c : ∀ i, i < m * z → (G i).oneCell' = true)
    (hn : n + m ≤ maxLen) (hby : (n + m) * by_ ≤ 140737488355328) (hbase : base ≤ w.heap.size)
    (h : ∀ A' c' w', OwnC w' base E z A' (n + m) c' (catC (n * z) F G) → w.grownBy w' (Value.slice A n c).ownBlock → Below base w w' → K (a.put o.dst (.slice A' (n + m) c')) w') : o.wp P a w K Q := by
  obtain ⟨i0, hi, hz0, hz1, hz2⟩ := info_parts hinfo
  have hcat : ((List.range ((n + m) * z)).map (catC (n * z) F G)) = ((List.range (n * z)).map F) ++ ((List.range (m * z)).map G) := by
    rw [Nat.add_mul, List.range_add, List.map_append, List.map_map]
    congr 1
    · exact List.map_congr_left (fun i hi => by simp [catC, List.mem_range.1 hi])
    · exact List.map_congr_left (fun i _ => by show catC (n * z) F G (n * z + i) = G i; unfold catC; rw [if_neg (by omega), Nat.add_sub_cancel_left])
  rcases hr with ⟨rfl, rfl, rfl⟩ | ⟨ad, rfl, h1, h2, hc⟩
  · have hrun := run_append_owned_none (P := P) (w := w) base t o.type E i0 z ht hi (.slice A n c) n _ hown
    have hK := h A c w (by unfold OwnC; rw [hcat]; simp only [Nat.zero_mul, List.range_zero, List.map_nil, List.append_nil, Nat.add_zero]; exact hown) (World.grownBy.refl _ _) (Below.refl _ _)
    unfold Oper.wp execOp
    simp only [ho, resolve, invoke, builtin, Sem.run_bind, Sem.run_pure, Result.andThen_ok, List.map_toArray, List.map_cons, List.map_nil, hs, hx, hrun]
    exact hK
  · refine wp_append_own w s x t ho base E i0 _ z by_ ht hi hz0 hz1 hz2 hzs hz (.slice A n c) n _ hs hown ad m d ((List.range (m * z)).map G) hx (by simp) ?_ ?_ hn hby hbase ?_
    · intro j u hu
      have hj : j < m * z := by
        rcases Nat.lt_or_ge j (m * z) with h | h
        · exact h
        · rw [List.getElem?_eq_none (by simpa using h)] at hu; cases hu
      rw [(hc j hj).2]; rw [← hu]; simp [hj]
    · intro u hu
      obtain ⟨i, hi, rfl⟩ := List.mem_map.1 hu
      exact h1c i (List.mem_range.1 hi)
    · intro v' w' hown' hgrow _
      have hb : Below base w w' := (Below.refl _ _).grown hgrow hbase (fun k hk => (World.ownsRow.lt hown k hk).1)
      rw [← hcat] at hown'
      rcases ownsRow_parts hown' with ⟨A', c', rfl⟩
      exact h A' c' w' hown' hgrow hb
/-- The same for the walk, the length and the cells told anew. -/
theorem app_cells {P : Program} (w : World) {ops : Array Oper} {rest : List Oper} {o : Oper} {a : Act} {Q : Exit → Act → World → Prop} (hgd : o.guard = none) (s x : Operand) (t E : TypeId)
    (ho : o.op = .call { callee := .builtin .append, args := #[s, x], argTypes := #[t, t] })
    (ht : P.underlying t = some (.slice E)) {zv : Value} {z by_ : Nat} (hinfo : (P.info? E).map (fun i => (i.zero, i.size, i.bytes)) = some (some zv, z, by_)) (hzs : zv.cells.size = z) (hz : 0 < z)
    {base n c m d : Nat} {A C : Option Addr} {F G : Nat → Value} (hs : a.eval s = .slice A n c) (hown : OwnC w base E z A n c F) (hx : a.eval x = .slice C m d) {B : Nat} (hr : Cel w B z C m d G) (h1c : ∀ i, i < m * z → (G i).oneCell' = true)
    (hn : n + m ≤ maxLen) (hby : (n + m) * by_ ≤ 140737488355328) (hbase : base ≤ w.heap.size) (N : Nat) (hN : n + m = N) (H : Nat → Value) (hH : ∀ i, i < N * z → catC (n * z) F G i = H i)
    (h : ∀ A' c' w', OwnC w' base E z A' N c' H → Below base w w' → wpList P ops Q rest (a.put o.dst (.slice A' N c')) w') : wpList P ops Q (o :: rest) a w := by
  subst hN
  exact wpList_plain hgd fun _ hK => wp_cells w s x t E ho ht hinfo hzs hz hs hown hx hr h1c hn hby hbase fun A' c' w' h1 _ h3 => hK _ _ (h A' c' w' (h1.congr hH) h3)
end Go.Proofs.Ytmndolojfdekdaa

/-
  Words for maps from numbers to numbers that a call makes: when a map's block reads as an association list, what a look-up gives and what an insertion of a new key makes. Nothing here speaks of a program.
-/
namespace Go.Proofs.Ytmndolojfdekdaa
open Go.RowKit

def assoc (kv : List (Int × Int)) (k : Int) : Option Int := (kv.find? fun p => p.1 == k).map (·.2)

/-- The block b is a map that holds the pairs kv, in the order of their coming. -/
def IsMap (q q' : IntKind) (w : World) (b : Nat) (kv : List (Int × Int)) : Prop :=
  ∃ es clock, w.heap[b]? = some (.map es clock) ∧ es.toList.map (fun e => (e.key, e.val)) = kv.map (fun p => (Value.int q p.1, Value.int q' p.2))

theorem findNow_pairs (q q' : IntKind) (k : Int) : ∀ (es : List MapEntry) (kv : List (Int × Int)) (i : Nat), es.map (fun e => (e.key, e.val)) = kv.map (fun p => (Value.int q p.1, Value.int q' p.2)) →
    (assoc kv k = none → Instr.findNow (.int q) (.int q k) es i = some none) ∧ (∀ v, assoc kv k = some v → ∃ j, Instr.findNow (.int q) (.int q k) es i = some (some (j, .int q' v))) := by
  intro es
  induction es with
  | nil =>
    intro kv i h
    cases kv with
    | nil => exact ⟨fun _ => rfl, fun v h => by simp [assoc] at h⟩
    | cons p kv => simp at h
  | cons e es ih =>
    intro kv i h
    cases kv with
    | nil => simp at h
    | cons p kv =>
      simp only [List.map_cons, List.cons.injEq, Prod.mk.injEq] at h
      obtain ⟨⟨hk, hv⟩, hr⟩ := h
      obtain ⟨h1, h2⟩ := ih kv (i + 1) hr
      by_cases hpk : p.1 = k
      · have e1 : assoc (p :: kv) k = some p.2 := by simp [assoc, hpk]
        rw [e1]
        refine ⟨fun h => (by cases h), fun v h => ?_⟩
        cases h
        exact ⟨i, by simp [Instr.findNow, Instr.sameNow, hk, hv, hpk]⟩
      · have e1 : assoc (p :: kv) k = assoc kv k := by simp [assoc, hpk]
        rw [e1]
        have hne : (k == p.1) = false := by simp; exact fun h => hpk h.symm
        have e2 : Instr.findNow (.int q) (.int q k) (e :: es) i = Instr.findNow (.int q) (.int q k) es (i + 1) := by simp [Instr.findNow, Instr.sameNow, hk, hne]
        rw [e2]
        exact ⟨h1, h2⟩

section
variable {P : Program} {w w' : World} {q q' : IntKind} {t kt et : TypeId} {b : Nat} {kv : List (Int × Int)}
theorem IsMap.below {B : Nat} (h : IsMap q q' w b kv) (hb : Below B w w') (hB : b < B) : IsMap q q' w' b kv := by
  obtain ⟨es, c, h1, h2⟩ := h
  exact ⟨es, c, (hb.block b hB).trans h1, h2⟩
theorem IsMap.new (q q' : IntKind) (w : World) : IsMap q q' (w.alloc (.map #[] 0)) w.heap.size [] := ⟨#[], 0, (MapKept.heap_alloc w _).1, rfl⟩
theorem run_checkKey_int (em : Bool) (hk : P.underlying kt = some (.int q)) (k : Int) (n : Nat) (w : World) : (Instr.checkKey em (n + 1) kt (.int q k)).run P w = .ok () w := by
  simp [Instr.checkKey, run_underlying hk]
theorem IsMap.look (h : IsMap q q' w b kv) (ht : P.underlying t = some (.map kt et)) (hk : P.underlying kt = some (.int q)) (hz : (zeroValue et).run P w = .ok (.int q' 0) w) (k : Int) (c : Bool) :
    (Instr.lookup t (.map (some b)) (.int q k) c).run P w = .ok (if c then .tuple #[.int q' ((assoc kv k).getD 0), .bool (assoc kv k).isSome] else .int q' ((assoc kv k).getD 0)) w := by
  obtain ⟨es, clock, hb, he⟩ := h
  obtain ⟨h1, h2⟩ := findNow_pairs q q' k es.toList kv 0 he
  have hc := run_checkKey_int (P := P) (kt := kt) (es.isEmpty) hk k 9999 w
  rcases ha : assoc kv k with _ | v
  · have hf : (Instr.findKey kt (.int q k) es.toList).run P w = .ok none w := by simp [Instr.findKey, run_underlying hk, h1 ha]
    cases c <;> simp [Instr.lookup, run_underlying ht, MapKept.run_getObj_map hb, hc, hf, hz, Result.andThen]
  · obtain ⟨j, hj⟩ := h2 v ha
    have hf : (Instr.findKey kt (.int q k) es.toList).run P w = .ok (some (j, .int q' v)) w := by simp [Instr.findKey, run_underlying hk, hj]
    cases c <;> simp [Instr.lookup, run_underlying ht, MapKept.run_getObj_map hb, hc, hf, Result.andThen]
theorem IsMap.insert (h : IsMap q q' w b kv) (ht : P.underlying t = some (.map kt et)) (hk : P.underlying kt = some (.int q)) (k v : Int) (hn : assoc kv k = none) :
    ∃ w', (Instr.mapUpdate t (.map (some b)) (.int q k) (.int q' v)).run P w = .ok () w' ∧ IsMap q q' w' b (kv ++ [(k, v)]) ∧ w.grownBy w' (some b) := by
  obtain ⟨es, clock, hb, he⟩ := h
  obtain ⟨h1, _⟩ := findNow_pairs q q' k es.toList kv 0 he
  have hc := run_checkKey_int (P := P) (kt := kt) false hk k 9999 w
  have hf : (Instr.findKey kt (.int q k) es.toList).run P w = .ok none w := by simp [Instr.findKey, run_underlying hk, h1 hn]
  have hlt : b < w.heap.size := (Array.getElem?_eq_some_iff.1 hb).1
  refine ⟨{ w with heap := w.heap.setIfInBounds b (.map (es.push { key := .int q k, val := .int q' v, born := clock }) (clock + 1)) }, ?_, ⟨es.push { key := .int q k, val := .int q' v, born := clock }, clock + 1, ?_, ?_⟩, ⟨rfl, rfl, rfl, by simp, fun i _ hi => ?_⟩⟩
  · simp [Instr.mapUpdate, run_underlying ht, MapKept.run_getObj_map hb, hc, hf, MapKept.run_setObj_map _ hb, Result.andThen]
  · simp [hlt]
  · simp [he]
  · have hne : b ≠ i := fun e => hi (by rw [e])
    simp [hne]
/-- An insertion of a new key at the operation, for the walk. -/
theorem wpList_ins {ops : Array Oper} {rest : List Oper} {o : Oper} {a : Act} {Q : Exit → Act → World → Prop} (hg : o.guard = none) (m x y : Operand) (hop : o.op = Op.insert t m x y)
    (ht : P.underlying t = some (.map kt et)) (hk : P.underlying kt = some (.int q)) (k v : Int) (hm : a.eval m = .map (some b)) (hx : a.eval x = .int q k) (hy : a.eval y = .int q' v)
    {w0 : World} {B : Nat} (h : IsMap q q' w b kv) (hn : assoc kv k = none) (hB : Below B w0 w) (hb : B ≤ b)
    (hK : ∀ w', IsMap q q' w' b (kv ++ [(k, v)]) → Below B w0 w' → wpList P ops Q rest (a.put o.dst undef) w') : wpList P ops Q (o :: rest) a w := by
  refine wpList_plain hg fun K' hK' => ?_
  obtain ⟨w', hrun, r1, r2⟩ := h.insert ht hk k v hn
  have hlt : b < w.heap.size := by obtain ⟨es, c, h1, _⟩ := h; exact (Array.getElem?_eq_some_iff.1 h1).1
  have hB' : Below B w0 w' := hB.trans ⟨r2.os, r2.tape, r2.output, r2.size, fun i hi => by
    rcases Nat.lt_or_ge i w.heap.size with hl | hl
    · exact r2.block i hl (fun e => by cases e; omega)
    · omega⟩
  unfold Oper.wp
  simp [execOp, hop, hm, hx, hy, hrun, Result.andThen]
  exact hK' _ _ (hK w' r1 hB')
end
end Go.Proofs.Ytmndolojfdekdaa

/-
  Words for maps from numbers to whatever values that a call makes: when a map's block reads as an association list, what a look-up of a key that is there gives and what an insertion of a new key makes. Nothing here speaks of a program.
-/
namespace Go.Proofs.Ytmndolojfdekdaa
open Go.RowKit

def assocV (kv : List (Int × Value)) (k : Int) : Option Value := (kv.find? fun p => p.1 == k).map (·.2)

/-- The block b is a map that holds the pairs kv, in the order of their coming. -/
def IsMapV (q : IntKind) (w : World) (b : Nat) (kv : List (Int × Value)) : Prop :=
  ∃ es clock, w.heap[b]? = some (.map es clock) ∧ es.toList.map (fun e => (e.key, e.val)) = kv.map (fun p => (Value.int q p.1, p.2))

theorem findNow_pairsV (q : IntKind) (k : Int) : ∀ (es : List MapEntry) (kv : List (Int × Value)) (i : Nat), es.map (fun e => (e.key, e.val)) = kv.map (fun p => (Value.int q p.1, p.2)) →
    (assocV kv k = none → Instr.findNow (.int q) (.int q k) es i = some none) ∧ (∀ v, assocV kv k = some v → ∃ j, Instr.findNow (.int q) (.int q k) es i = some (some (j, v))) := by
  intro es
  induction es with
  | nil =>
    intro kv i h
    cases kv with
    | nil => exact ⟨fun _ => rfl, fun v h => by simp [assocV] at h⟩
    | cons p kv => simp at h
  | cons e es ih =>
    intro kv i h
    cases kv with
    | nil => simp at h
    | cons p kv =>
      simp only [List.map_cons, List.cons.injEq, Prod.mk.injEq] at h
      obtain ⟨⟨hk, hv⟩, hr⟩ := h
      obtain ⟨h1, h2⟩ := ih kv (i + 1) hr
      by_cases hpk : p.1 = k
      · have e1 : assocV (p :: kv) k = some p.2 := by simp [assocV, hpk]
        rw [e1]
        refine ⟨fun h => (by cases h), fun v h => ?_⟩
        cases h
        exact ⟨i, by simp [Instr.findNow, Instr.sameNow, hk, hv, hpk]⟩
      · have e1 : assocV (p :: kv) k = assocV kv k := by simp [assocV, hpk]
        rw [e1]
        have hne : (k == p.1) = false := by simp; exact fun h => hpk h.symm
        have e2 : Instr.findNow (.int q) (.int q k) (e :: es) i = Instr.findNow (.int q) (.int q k) es (i + 1) := by simp [Instr.findNow, Instr.sameNow, hk, hne]
        rw [e2]
        exact ⟨h1, h2⟩

section
variable {P : Program} {w w' : World} {q : IntKind} {t kt et : TypeId} {b : Nat} {kv : List (Int × Value)}
theorem IsMapV.new (q : IntKind) (w : World) : IsMapV q (w.alloc (.map #[] 0)) w.heap.size [] := ⟨#[], 0, (MapKept.heap_alloc w _).1, rfl⟩
theorem IsMapV.of_block (h : IsMapV q w b kv) (hb : w'.heap[b]? = w.heap[b]?) : IsMapV q w' b kv := by
  obtain ⟨es, c, h1, h2⟩ := h
  exact ⟨es, c, hb.trans h1, h2⟩
theorem IsMapV.lt (h : IsMapV q w b kv) : b < w.heap.size := by
  obtain ⟨es, c, h1, h2⟩ := h
  exact (Array.getElem?_eq_some_iff.1 h1).1
theorem checkKey_int (em : Bool) (hk : P.underlying kt = some (.int q)) (k : Int) (n : Nat) (w : World) : (Instr.checkKey em (n + 1) kt (.int q k)).run P w = .ok () w := by
  simp [Instr.checkKey, run_underlying hk]
theorem IsMapV.look (h : IsMapV q w b kv) (ht : P.underlying t = some (.map kt et)) (hk : P.underlying kt = some (.int q)) (k : Int) (v : Value) (ha : assocV kv k = some v) :
    (Instr.lookup t (.map (some b)) (.int q k) false).run P w = .ok v w := by
  obtain ⟨es, clock, hb, he⟩ := h
  obtain ⟨_, h2⟩ := findNow_pairsV q k es.toList kv 0 he
  have hc := checkKey_int (P := P) (kt := kt) (es.isEmpty) hk k 9999 w
  obtain ⟨j, hj⟩ := h2 v ha
  have hf : (Instr.findKey kt (.int q k) es.toList).run P w = .ok (some (j, v)) w := by simp [Instr.findKey, run_underlying hk, hj]
  simp [Instr.lookup, run_underlying ht, MapKept.run_getObj_map hb, hc, hf, Result.andThen]
theorem IsMapV.insert (h : IsMapV q w b kv) (ht : P.underlying t = some (.map kt et)) (hk : P.underlying kt = some (.int q)) (k : Int) (v : Value) (hn : assocV kv k = none) :
    ∃ w', (Instr.mapUpdate t (.map (some b)) (.int q k) v).run P w = .ok () w' ∧ IsMapV q w' b (kv ++ [(k, v)]) ∧ w.grownBy w' (some b) := by
  obtain ⟨es, clock, hb, he⟩ := h
  obtain ⟨h1, _⟩ := findNow_pairsV q k es.toList kv 0 he
  have hc := checkKey_int (P := P) (kt := kt) false hk k 9999 w
  have hf : (Instr.findKey kt (.int q k) es.toList).run P w = .ok none w := by simp [Instr.findKey, run_underlying hk, h1 hn]
  have hlt : b < w.heap.size := (Array.getElem?_eq_some_iff.1 hb).1
  refine ⟨{ w with heap := w.heap.setIfInBounds b (.map (es.push { key := .int q k, val := v, born := clock }) (clock + 1)) }, ?_, ⟨es.push { key := .int q k, val := v, born := clock }, clock + 1, ?_, ?_⟩, ⟨rfl, rfl, rfl, by simp, fun i _ hi => ?_⟩⟩
  · simp [Instr.mapUpdate, run_underlying ht, MapKept.run_getObj_map hb, hc, hf, MapKept.run_setObj_map _ hb, Result.andThen]
  · simp [hlt]
  · simp [he]
  · have hne : b ≠ i := fun e => hi (by rw [e])
    simp [hne]
/-- An insertion of a new key at the operation, for the walk. -/
theorem wpList_insV {ops : Array Oper} {rest : List Oper} {o : Oper} {a : Act} {Q : Exit → Act → World → Prop} (hg : o.guard = none) (m x y : Operand) (hop : o.op = Op.insert t m x y)
    (ht : P.underlying t = some (.map kt et)) (hk : P.underlying kt = some (.int q)) (k : Int) (v : Value) (hm : a.eval m = .map (some b)) (hx : a.eval x = .int q k) (hy : a.eval y = v)
    {w0 : World} {B : Nat} (h : IsMapV q w b kv) (hn : assocV kv k = none) (hB : Below B w0 w) (hb : B ≤ b)
    (hK : ∀ w', IsMapV q w' b (kv ++ [(k, v)]) → Below B w0 w' → wpList P ops Q rest (a.put o.dst undef) w') : wpList P ops Q (o :: rest) a w := by
  refine wpList_plain hg fun K' hK' => ?_
  obtain ⟨w', hrun, r1, r2⟩ := h.insert ht hk k v hn
  have hlt : b < w.heap.size := by obtain ⟨es, c, h1, _⟩ := h; exact (Array.getElem?_eq_some_iff.1 h1).1
  have hB' : Below B w0 w' := hB.trans ⟨r2.os, r2.tape, r2.output, r2.size, fun i hi => by
    rcases Nat.lt_or_ge i w.heap.size with hl | hl
    · exact r2.block i hl (fun e => by cases e; omega)
    · omega⟩
  unfold Oper.wp
  simp [execOp, hop, hm, hx, hy, hrun, Result.andThen]
  exact hK' _ _ (hK w' r1 hB')
end
end Go.Proofs.Ytmndolojfdekdaa
