/-
  Words for slices whose elements take any number of cells: when a slice value reads as cells, when a call owns such a row, and how an append joins the two. Nothing here speaks of a program.
-/
import Derived.Test.YtfanapnhdhoppaaMem
namespace Go.Proofs.Ytfanapnhdhoppaa
open Go.RowKit

/-- The slice value with these parts reads as n elements of z cells each, the cells F 0, F 1, ..; it lies below block B. -/
def Cel (w : World) (B z : Nat) (A : Option Addr) (n c : Nat) (F : Nat → Value) : Prop :=
  (A = none ∧ n = 0 ∧ c = 0) ∨ ∃ ad, A = some ad ∧ n ≤ c ∧ c ≤ maxLen ∧ ∀ j, j < n * z → (ad.block < B ∧ w.cell? (ad.add j) = some (F j))

section
variable {w w' : World} {B B' z n c : Nat} {A : Option Addr} {F G : Nat → Value}
theorem Cel.below (h : Cel w B z A n c F) (hb : Below B w w') : Cel w' B z A n c F := by
  rcases h with h | ⟨ad, rfl, h1, h2, hc⟩
  · exact .inl h
  · refine .inr ⟨ad, rfl, h1, h2, fun i hi => ⟨(hc i hi).1, (hb.cell (p := ad.add i) ?_).trans (hc i hi).2⟩⟩
    unfold Addr.add; split <;> exact (hc i hi).1
theorem Cel.more (h : Cel w B z A n c F) (hb : B ≤ B') : Cel w B' z A n c F := by
  rcases h with h | ⟨ad, rfl, h1, h2, hc⟩
  · exact .inl h
  · exact .inr ⟨ad, rfl, h1, h2, fun i hi => ⟨Nat.lt_of_lt_of_le (hc i hi).1 hb, (hc i hi).2⟩⟩
theorem Cel.le (h : Cel w B z A n c F) : n ≤ c ∧ c ≤ maxLen := by
  rcases h with ⟨_, rfl, rfl⟩ | ⟨ad, rfl, h1, h2, hc⟩
  · exact ⟨Nat.le_refl _, Nat.zero_le _⟩
  · exact ⟨h1, h2⟩
theorem Cel.congr (h : Cel w B z A n c F) (he : ∀ i, i < n * z → F i = G i) : Cel w B z A n c G := by
  rcases h with h | ⟨ad, rfl, h1, h2, hc⟩
  · exact .inl h
  · exact .inr ⟨ad, rfl, h1, h2, fun i hi => by rw [← he i hi]; exact hc i hi⟩
theorem Cel.at_ (h : Cel w B z A n c F) (hn : 0 < n * z) : ∃ b off, A = some ⟨b, off, none⟩ ∧ b < B ∧ ∀ i, i < n * z → w.cell? ⟨b, off + i, none⟩ = some (F i) := by
  rcases h with ⟨_, rfl, _⟩ | ⟨⟨b, off, spot⟩, rfl, h1, h2, hc⟩
  · omega
  · have hspot : spot = none := by simpa [Addr.add] using World.cell?_spot (hc 0 hn).2
    subst hspot
    exact ⟨b, off, rfl, (hc 0 hn).1, fun i hi => by rw [← Go.WideShapes.add_plain]; exact (hc i hi).2⟩
theorem Cel.mk_ {b off : Nat} (hb : b < B) (h1 : n ≤ c) (h2 : c ≤ maxLen) (hc : ∀ i, i < n * z → w.cell? ⟨b, off + i, none⟩ = some (F i)) : Cel w B z (some ⟨b, off, none⟩) n c F :=
  .inr ⟨⟨b, off, none⟩, rfl, h1, h2, fun i hi => ⟨hb, by rw [Go.WideShapes.add_plain]; exact hc i hi⟩⟩
theorem Cel.nil_ : Cel w B z none 0 0 F := .inl ⟨rfl, rfl, rfl⟩
end

/-- The call owns the n elements of z cells in a row of its own, from block base on; E: the elements' type. -/
def OwnC (w : World) (base : Nat) (E : TypeId) (z : Nat) (A : Option Addr) (n c : Nat) (F : Nat → Value) : Prop :=
  w.ownsRow base E z (.slice A n c) n ((List.range (n * z)).map F)

section
variable {w w' : World} {base base' z n c : Nat} {E : TypeId} {A : Option Addr} {F G : Nat → Value}
theorem OwnC.nil_ : OwnC w base E z none 0 0 F := by unfold OwnC; rw [Nat.zero_mul]; exact World.ownsRow_nil _ _ _ _
theorem OwnC.congr (h : OwnC w base E z A n c F) (he : ∀ i, i < n * z → F i = G i) : OwnC w base E z A n c G := by
  unfold OwnC at *
  have : ((List.range (n * z)).map G) = ((List.range (n * z)).map F) := List.map_congr_left (fun i hi => (he i (List.mem_range.1 hi)).symm)
  rw [this]; exact h
theorem OwnC.alloc (h : OwnC w base E z A n c F) (o : Obj) : OwnC (w.alloc o) base E z A n c F := World.ownsRow.alloc h o
theorem OwnC.drew (h : OwnC w base E z A n c F) : OwnC w.drew base E z A n c F := h
theorem OwnC.below {B : Nat} (h : OwnC w base E z A n c F) (hb : Below B w w') (hB : w.heap.size ≤ B) : OwnC w' base E z A n c F := by
  obtain ⟨h1, h2⟩ := h
  refine ⟨h1, ?_⟩
  rcases h2 with h2 | ⟨gg, cap, cur, hv, hg, hh, r⟩
  · exact Or.inl h2
  · have hlt : gg < w.heap.size := (Array.getElem?_eq_some_iff.1 hh).1
    exact Or.inr ⟨gg, cap, cur, hv, hg, (hb.block gg (by omega)).trans hh, r⟩
theorem OwnC.lower (h : OwnC w base E z A n c F) (hb : base' ≤ base) : OwnC w base' E z A n c F := by
  obtain ⟨h1, h2⟩ := h
  refine ⟨h1, ?_⟩
  rcases h2 with h2 | ⟨gg, cap, cur, hv, hg, r⟩
  · exact Or.inl h2
  · exact Or.inr ⟨gg, cap, cur, hv, by omega, r⟩
theorem OwnC.cel (h : OwnC w base E z A n c F) : Cel w w.heap.size z A n c F := by
  have hown := h
  obtain ⟨h1, h2⟩ := h
  rcases h2 with ⟨hv, h0⟩ | ⟨gg, cap, cur, hv, hg, hh, h3, h4, h5, h6⟩
  · injection hv with e1 e2 e3
    exact .inl ⟨e1, h0, e3⟩
  · injection hv with e1 e2 e3
    subst e1 e3
    refine .inr ⟨_, rfl, h3, h4, fun i hi => ⟨(Array.getElem?_eq_some_iff.1 hh).1, ?_⟩⟩
    exact World.ownsRow.cells hown rfl i _ (by simp [hi])
end

/-- Two rows of cells, one behind the other. -/
def catC (n : Nat) (F G : Nat → Value) (i : Nat) : Value := if i < n then F i else G (i - n)

/-- append onto a row of the call's own, of elements that a slice holds, a nil one too. -/
theorem wp_cells {P : Program} (w : World) {o : Oper} {a : Act} {K : Act → World → Prop} {Q : Exit → Act → World → Prop} (s x : Operand) (t E : TypeId)
    (ho : o.op = .call { callee := .builtin .append, args := #[s, x], argTypes := #[t, t] })
    (ht : P.underlying t = some (.slice E)) {zv : Value} {z by_ : Nat} (hinfo : (P.info? E).map (fun i => (i.zero, i.size, i.bytes)) = some (some zv, z, by_)) (hzs : zv.cells.size = z) (hz : 0 < z)
    {base n c m d : Nat} {A C : Option Addr} {F G : Nat → Value} (hs : a.eval s = .slice A n c) (hown : OwnC w base E z A n c F) (hx : a.eval x = .slice C m d) {B : Nat} (hr : Cel w B z C m d G) (h1c : ∀ i, i < m * z → (G i).oneCell' = true)
    (hn : n + m ≤ maxLen) (hby : (n + m) * by_ ≤ 140737488355328) (hbase : base ≤ w.heap.size)
    (h : ∀ A' c' w', OwnC w' base E z A' (n + m) c' (catC (n * z) F G) → w.grownBy w' (Value.slice A n c).ownBlock → Below base w w' → K (a.put o.dst (.slice A' (n + m) c')) w') : o.wp P a w K Q := by
  obtain ⟨i0, hi, hz0, hz1, hz2⟩ := info_parts hinfo
  have hcat : ((List.range ((n + m) * z)).map (catC (n * z) F G)) = ((List.range (n * z)).map F) ++ ((List.range (m * z)).map G) := by
    rw [Nat.add_mul, List.range_add, List.map_append, List.map_map]
    congr 1
    · exact List.map_congr_left (fun i hi => by simp [catC, List.mem_range.1 hi])
    · exact List.map_congr_left (fun i _ => by show catC (n * z) F G (n * z + i) = G i; unfold catC; rw [if_neg (by omega), Nat.add_sub_cancel_left])
  rcases hr with ⟨rfl, rfl, rfl⟩ | ⟨ad, rfl, h1, h2, hc⟩
  · have hrun := run_append_owned_none (P := P) (w := w) base t o.type E i0 z ht hi (.slice A n c) n _ hown
    have hK := h A c w (by unfold OwnC; rw [hcat]; simp only [Nat.zero_mul, List.range_zero, List.map_nil, List.append_nil, Nat.add_zero]; exact hown) (World.grownBy.refl _ _) (Below.refl _ _)
    unfold Oper.wp execOp
    simp only [ho, resolve, invoke, builtin, Sem.run_bind, Sem.run_pure, Result.andThen_ok, List.map_toArray, List.map_cons, List.map_nil, hs, hx, hrun]
    exact hK
  · refine wp_append_own w s x t ho base E i0 _ z by_ ht hi hz0 hz1 hz2 hzs hz (.slice A n c) n _ hs hown ad m d ((List.range (m * z)).map G) hx (by simp) ?_ ?_ hn hby hbase ?_
    · intro j u hu
      have hj : j < m * z := by
        rcases Nat.lt_or_ge j (m * z) with h | h
        · exact h
        · rw [List.getElem?_eq_none (by simpa using h)] at hu; cases hu
      rw [(hc j hj).2]; rw [← hu]; simp [hj]
    · intro u hu
      obtain ⟨i, hi, rfl⟩ := List.mem_map.1 hu
      exact h1c i (List.mem_range.1 hi)
    · intro v' w' hown' hgrow _
      have hb : Below base w w' := (Below.refl _ _).grown hgrow hbase (fun k hk => (World.ownsRow.lt hown k hk).1)
      rw [← hcat] at hown'
      rcases ownsRow_parts hown' with ⟨A', c', rfl⟩
      exact h A' c' w' hown' hgrow hb
/-- The same for the walk, the length and the cells told anew. -/
theorem app_cells {P : Program} (w : World) {ops : Array Oper} {rest : List Oper} {o : Oper} {a : Act} {Q : Exit → Act → World → Prop} (hgd : o.guard = none) (s x : Operand) (t E : TypeId)
    (ho : o.op = .call { callee := .builtin .append, args := #[s, x], argTypes := #[t, t] })
    (ht : P.underlying t = some (.slice E)) {zv : Value} {z by_ : Nat} (hinfo : (P.info? E).map (fun i => (i.zero, i.size, i.bytes)) = some (some zv, z, by_)) (hzs : zv.cells.size = z) (hz : 0 < z)
    {base n c m d : Nat} {A C : Option Addr} {F G : Nat → Value} (hs : a.eval s = .slice A n c) (hown : OwnC w base E z A n c F) (hx : a.eval x = .slice C m d) {B : Nat} (hr : Cel w B z C m d G) (h1c : ∀ i, i < m * z → (G i).oneCell' = true)
    (hn : n + m ≤ maxLen) (hby : (n + m) * by_ ≤ 140737488355328) (hbase : base ≤ w.heap.size) (N : Nat) (hN : n + m = N) (H : Nat → Value) (hH : ∀ i, i < N * z → catC (n * z) F G i = H i)
    (h : ∀ A' c' w', OwnC w' base E z A' N c' H → Below base w w' → wpList P ops Q rest (a.put o.dst (.slice A' N c')) w') : wpList P ops Q (o :: rest) a w := by
  subst hN
  exact wpList_plain hgd fun _ hK => wp_cells w s x t E ho ht hinfo hzs hz hs hown hx hr h1c hn hby hbase fun A' c' w' h1 _ h3 => hK _ _ (h A' c' w' (h1.congr hH) h3)
end Go.Proofs.Ytfanapnhdhoppaa
