/-
  Layer 21: what a program's growing keeps, from the last instruction on.
-/
import Derived.Test.YtiofgaadfbjnoaaAs7
import Derived.Test.YtiofgaadfbjnoaaAs8
namespace Go.Proofs.Ytiofgaadfbjnoaa
open Go.RowKit Go.Shelf
set_option linter.unusedVariables false

/-- Memory while a program grows. -/
def PInvA (W : World) (B S3 N : Nat) (st : List IV × (Int → Nat)) : Prop :=
  (∃ A' c', RowC W B #[.slice A' st.1.length c'] 29 ∧ OwnC W S3 52 4 A' st.1.length c' (icell fun i => st.1[i]!)) ∧ PlM W (B + 1) N st.2 ∧ RowC W (B + 2) #[.map (some (B + 1))] 71 ∧ RowC W (B + 3) #[.func (.func 31) #[] #[.pointer (some ⟨B, 0, none⟩), .pointer (some ⟨B + 2, 0, none⟩)]] 78
theorem OwnC.of_keep {W W' : World} {base z n c : Nat} {E : TypeId} {A : Option Addr} {F : Nat → Value} (h : OwnC W base E z A n c F) (hk : ∀ g, (Value.slice A n c).ownBlock = some g → W'.heap[g]? = W.heap[g]?) : OwnC W' base E z A n c F := by
  obtain ⟨q1, q2⟩ := h
  refine ⟨q1, ?_⟩
  rcases q2 with q2 | ⟨g, cap, cs, e, hg, hr, rest⟩
  · exact .inl q2
  · exact .inr ⟨g, cap, cs, e, hg, (hk g (by rw [e]; rfl)).trans hr, rest⟩
theorem OwnC.obj {W : World} {base z n c g : Nat} {E : TypeId} {A : Option Addr} {F : Nat → Value} (h : OwnC W base E z A n c F) (hg : (Value.slice A n c).ownBlock = some g) : base ≤ g ∧ g < W.heap.size ∧ ∃ cs, W.heap[g]? = some (.cells cs E) := by
  obtain ⟨q1, q2⟩ := h
  rcases q2 with ⟨e, _⟩ | ⟨g', cap, cs, e, hb, hr, rest⟩
  · rw [e] at hg; cases hg
  · rw [e] at hg
    cases hg
    exact ⟨hb, (Array.getElem?_eq_some_iff.1 hr).1, cs, hr⟩
theorem PInvA.of_keep {W W' : World} {B S3 N : Nat} {st : List IV × (Int → Nat)} (h : PInvA W B S3 N st) (hk : ∀ g, g < W.heap.size → (g < S3 ∨ ∃ cs T, W.heap[g]? = some (.cells cs T)) → W'.heap[g]? = W.heap[g]?) (hS : B + 4 ≤ S3) : PInvA W' B S3 N st := by
  obtain ⟨⟨A', c', h1, h2⟩, h3, h4, h5⟩ := h
  refine ⟨⟨A', c', (hk B h1.lt (.inl (by omega))).trans h1, h2.of_keep fun g hg => ?_⟩, h3.of_keep (hk _ h3.lt (.inl (by omega))), (hk _ h4.lt (.inl (by omega))).trans h4, (hk _ h5.lt (.inl (by omega))).trans h5⟩
  obtain ⟨_, h7, cs, h8⟩ := h2.obj hg
  exact hk g h7 (.inr ⟨cs, _, h8⟩)
theorem PInvA.below {W W' : World} {B S3 N : Nat} {st : List IV × (Int → Nat)} (h : PInvA W B S3 N st) (hb : Below W.heap.size W W') (hS : B + 4 ≤ S3) : PInvA W' B S3 N st := h.of_keep (fun g hg _ => hb.block g hg) hS
theorem pinvA_from (B S3 : Nat) (hS : B + 4 ≤ S3) {β : Type} (st : β → List IV × (Int → Nat)) (N : β → Nat) : OwnFrom S3 (fun (s : β) W => PInvA W B S3 (N s) (st s)) := fun s W W' row hs hg hr => by
  refine hs.of_keep (fun g hg2 hc => hg.block g hg2 fun e => ?_) hS
  obtain ⟨h1, o, h2, h3⟩ := hr g e.symm
  rcases hc with hc | ⟨cs, T, hc⟩
  · omega
  · rw [hc] at h2
    injection h2 with h2
    subst h2
    cases h3
/-- A place more. -/
theorem PInvA.put {W : World} {B S3 N : Nat} {st : List IV × (Int → Nat)} (h : PInvA W B S3 N st) (hS : B + 4 ≤ S3) (k : Int) (hk : (Lit.int .i64 k).wf = true) (hN : N < maxLen) (hl : st.1.length ≤ 100000000) : ∃ W', (Instr.mapUpdate 71 (.map (some (B + 1))) (.int .i64 k) (.int .i64 (st.1.length : Int))).run Try.prog W = .ok () W' ∧
    PInvA W' B S3 (N + 1) (st.1, fun j => if j = k then st.1.length else st.2 j) ∧ KeepsFrom S3 W W' ∧ (∀ g, g < W.heap.size → g ≠ B + 1 → W'.heap[g]? = W.heap[g]?) ∧ Below B W W' := by
  obtain ⟨⟨A', c', h1, h2⟩, h3, h4, h5⟩ := h
  obtain ⟨W', hrun, hm, hg⟩ := h3.put hk hN st.1.length hl
  have hb : ∀ g, g < W.heap.size → g ≠ B + 1 → W'.heap[g]? = W.heap[g]? := fun g hlt hne => hg.block g hlt fun e => hne (by injection e)
  refine ⟨W', hrun, ⟨⟨A', c', (hb B h1.lt (by omega)).trans h1, h2.of_keep fun g hg2 => ?_⟩, hm, (hb _ h4.lt (by omega)).trans h4, (hb _ h5.lt (by omega)).trans h5⟩, KeepsFrom.of_grownBy hg (fun j hj => by injection hj with hj; omega), hb, (Below.refl _ _).grown hg (by have := h1.lt; omega) (fun j hj => by injection hj with hj; omega)⟩
  obtain ⟨h6, h7, _⟩ := h2.obj hg2
  exact hb g h7 (by omega)
/-- Instructions more: an append, and the variable's store. -/
theorem PInvA.more {V W7 W8 : World} {B S3 N n8 c8 : Nat} {A8 : Option Addr} {st st' : List IV × (Int → Nat)} (h : PInvA V B S3 N st) (hS : B + 4 ≤ S3) (h7 : Below V.heap.size V W7) (A' : Option Addr) (c' : Nat) (hA : RowC V B #[.slice A' st.1.length c'] 29) (hO : OwnC V S3 52 4 A' st.1.length c' (icell fun i => st.1[i]!))
    (hg : W7.grownBy W8 (Value.slice A' st.1.length c').ownBlock) (h8 : OwnC W8 S3 52 4 A8 n8 c8 (icell fun i => st'.1[i]!)) (hn : st'.1.length = n8) (h2 : st'.2 = st.2) :
    RowC W8 B #[.slice A' st.1.length c'] 29 ∧ PInvA (W8.setCell ⟨B, 0, none⟩ (.slice A8 n8 c8)) B S3 (N + 1) st' ∧ KeepsFrom S3 V (W8.setCell ⟨B, 0, none⟩ (.slice A8 n8 c8)) ∧ (∀ g, g < V.heap.size → g < S3 → g ≠ B → (W8.setCell ⟨B, 0, none⟩ (.slice A8 n8 c8)).heap[g]? = V.heap[g]?) ∧ Below B V (W8.setCell ⟨B, 0, none⟩ (.slice A8 n8 c8)) := by
  obtain ⟨_, h3, h4, h5⟩ := h
  have hb : ∀ g, g < V.heap.size → g < S3 → W8.heap[g]? = V.heap[g]? := fun g hlt hs => by
    refine (hg.block g (Nat.lt_of_lt_of_le hlt h7.size) fun e => ?_).trans (h7.block g hlt)
    obtain ⟨h6, _⟩ := hO.obj e.symm
    omega
  have hB8 : RowC W8 B #[.slice A' st.1.length c'] 29 := (hb B hA.lt (by omega)).trans hA
  have hc : ∀ g, g ≠ B → (W8.setCell ⟨B, 0, none⟩ (.slice A8 n8 c8)).heap[g]? = W8.heap[g]? := fun g hne => Below.heap_setCell W8 ⟨B, 0, none⟩ _ g hne
  have hBV : Below B V W8 := (h7.mono (by have := hA.lt; omega)).trans ((Below.refl _ _).grown hg (by have := hA.lt; have := h7.size; omega) (fun j hj => by have := (hO.obj hj).1; omega))
  have hset := hB8.set 0 (.slice A8 n8 c8)
  refine ⟨hB8, ⟨⟨A8, c8, by rw [hn]; exact hset, by rw [hn]; exact h8.of_keep fun g hg2 => hc g (by have := (h8.obj hg2).1; omega)⟩, ?_, ((hc _ (by omega)).trans (hb _ h4.lt (by omega))).trans h4, ((hc _ (by omega)).trans (hb _ h5.lt (by omega))).trans h5⟩, ⟨?_, fun k o hk1 hk2 hk3 => ?_⟩, fun g h1 h2 h3 => (hc g h3).trans (hb g h1 h2), hBV.setCell (p := ⟨B, 0, none⟩) (Nat.le_refl _) _⟩
  · rw [h2]
    exact ((h3.of_keep (hb _ h3.lt (by omega))).of_keep (hc _ (by omega))).mono (Nat.le_succ _)
  · exact (hBV.setCell (p := ⟨B, 0, none⟩) (Nat.le_refl _) _).size
  · have hklt := (Array.getElem?_eq_some_iff.1 hk2).1
    rw [hc k (by omega), hg.block k (Nat.lt_of_lt_of_le hklt h7.size) (fun e => by
      obtain ⟨_, h6, cs, h9⟩ := hO.obj e.symm
      rw [hk2] at h9
      injection h9 with h9
      subst h9
      cases hk3), h7.block k hklt]
    exact hk2
theorem step_cellsG {P : Program} {w : World} {ops : Array Oper} {o : Oper} {a : Act} {K : Act → World → Prop} {Q : Exit → Act → World → Prop} {R : Prop} (hgd : o.guard = none) (s x : Operand) (t E : TypeId)
    (ho : o.op = .call { callee := .builtin .append, args := #[s, x], argTypes := #[t, t] })
    (ht : P.underlying t = some (.slice E)) {zv : Value} {z by_ : Nat} (hinfo : (P.info? E).map (fun i => (i.zero, i.size, i.bytes)) = some (some zv, z, by_)) (hzs : zv.cells.size = z) (hz : 0 < z)
    {base n c m d : Nat} {A C : Option Addr} {F G : Nat → Value} (hs : a.eval s = .slice A n c) (hown : OwnC w base E z A n c F) (hx : a.eval x = .slice C m d) {B : Nat} (hr : Cel w B z C m d G) (h1c : ∀ i, i < m * z → (G i).oneCell' = true)
    (hn : n + m ≤ maxLen) (hby : (n + m) * by_ ≤ 140737488355328) (hbase : base ≤ w.heap.size) (N : Nat) (hN : n + m = N) (H : Nat → Value) (hH : ∀ i, i < N * z → catC (n * z) F G i = H i)
    (h : ∀ A' c' w', OwnC w' base E z A' N c' H → w.grownBy w' (Value.slice A n c).ownBlock → K (a.put o.dst (.slice A' N c')) w') :
    if Region.wanted o (yielded ops a.tmps) = true then Oper.wp P o a w K Q else R := by
  subst hN
  have hw : Region.wanted o (yielded ops a.tmps) = true := by simp [Region.wanted, hgd]
  rw [if_pos hw]
  exact wp_cells w s x t E ho ht hinfo hzs hz hs hown hx hr h1c hn hby hbase fun A' c' w' h1 h2 _ => h A' c' w' (h1.congr hH) h2
theorem ins1 (w : World) (v : IV) (E : TypeId) : Cel (w.alloc (.cells #[.int .u16 v.c, .int .u8 v.t, .int .u8 v.f, .int .u32 v.k] E)) (w.heap.size + 1) 4 (some ⟨w.heap.size, 0, none⟩) 1 1 (icell fun i => [v][i]!) :=
  Cel.mk_ (Nat.lt_succ_self _) (Nat.le_refl _) (by decide) fun i hi => by
    have hi' : i < 4 := by omega
    rw [Nat.zero_add, cell_of_row _ _ _ _ _ _ (heap_alloc_last w _)]
    match i, hi' with
    | 0, _ => rfl
    | 1, _ => rfl
    | 2, _ => rfl
    | 3, _ => rfl
theorem ins3 (w : World) (u v x : IV) (E : TypeId) : Cel (w.alloc (.cells #[.int .u16 u.c, .int .u8 u.t, .int .u8 u.f, .int .u32 u.k, .int .u16 v.c, .int .u8 v.t, .int .u8 v.f, .int .u32 v.k, .int .u16 x.c, .int .u8 x.t, .int .u8 x.f, .int .u32 x.k] E)) (w.heap.size + 1) 4 (some ⟨w.heap.size, 0, none⟩) 3 3 (icell fun i => [u, v, x][i]!) :=
  Cel.mk_ (Nat.lt_succ_self _) (Nat.le_refl _) (by decide) fun i hi => by
    have hi' : i < 12 := by omega
    rw [Nat.zero_add, cell_of_row _ _ _ _ _ _ (heap_alloc_last w _)]
    match i, hi' with
    | 0, _ => rfl
    | 1, _ => rfl
    | 2, _ => rfl
    | 3, _ => rfl
    | 4, _ => rfl
    | 5, _ => rfl
    | 6, _ => rfl
    | 7, _ => rfl
    | 8, _ => rfl
    | 9, _ => rfl
    | 10, _ => rfl
    | 11, _ => rfl
theorem icell_app (P L : List IV) : ∀ i, i < (P.length + L.length) * 4 → catC (P.length * 4) (icell fun i => P[i]!) (icell fun i => L[i]!) i = icell (fun i => (P ++ L)[i]!) i := fun i hi => by
  unfold catC icell
  split
  · have h : (P ++ L)[i / 4]! = P[i / 4]! := by rw [getElem!_pos P (i / 4) (by omega), getElem!_pos (P ++ L) (i / 4) (by simp; omega), List.getElem_append_left (by omega)]
    simp only [h]
  · have h : (P ++ L)[i / 4]! = L[(i - P.length * 4) / 4]! := by
      rw [getElem!_pos L _ (by omega), getElem!_pos (P ++ L) (i / 4) (by simp; omega), List.getElem_append_right (by omega)]
      congr 1
      omega
    have h2 : (i - P.length * 4) % 4 = i % 4 := by omega
    simp only [h, h2]
end Go.Proofs.Ytiofgaadfbjnoaa
