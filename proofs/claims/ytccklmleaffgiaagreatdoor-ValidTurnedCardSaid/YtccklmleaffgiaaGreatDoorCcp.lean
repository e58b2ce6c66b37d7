/-
  Layer 15: which calls a rule asks for (requestOf).
-/
import Derived.Test.YtccklmleaffgiaaGreatDoorCbp
import Derived.Test.YtccklmleaffgiaaGreatDoorP7
import Derived.RegionTactic
import Derived.Deep.RegionWith
import Derived.Deep.RegionHeld3
namespace Go.Proofs.YtccklmleaffgiaaGreatDoor
open Go.RowKit Go.Shelf Go.Lib Go.Sort
set_option linter.unusedVariables false

/-- A request's cells. -/
def reqA (nm : ByteArray) (g : Nat → CV) : Array Value := #[.string nm, .int .i64 (g 0).1, .int .i64 (g 0).2.1, .int .u64 (g 0).2.2.1, .int .u64 (g 0).2.2.2, .int .i64 (g 1).1, .int .i64 (g 1).2.1, .int .u64 (g 1).2.2.1, .int .u64 (g 1).2.2.2, .int .i64 (g 2).1, .int .i64 (g 2).2.1, .int .u64 (g 2).2.2.1, .int .u64 (g 2).2.2.2, .int .i64 (g 3).1, .int .i64 (g 3).2.1, .int .u64 (g 3).2.2.1, .int .u64 (g 3).2.2.2, .int .i64 (g 4).1, .int .i64 (g 4).2.1, .int .u64 (g 4).2.2.1, .int .u64 (g 4).2.2.2, .int .i64 (g 5).1, .int .i64 (g 5).2.1, .int .u64 (g 5).2.2.1, .int .u64 (g 5).2.2.2]
def reqN (nm : ByteArray) : Array Value := #[.string nm, .int .i64 0, .int .i64 0, .int .u64 0, .int .u64 0, .int .i64 0, .int .i64 0, .int .u64 0, .int .u64 0, .int .i64 0, .int .i64 0, .int .u64 0, .int .u64 0, .int .i64 0, .int .i64 0, .int .u64 0, .int .u64 0, .int .i64 0, .int .i64 0, .int .u64 0, .int .u64 0, .int .i64 0, .int .i64 0, .int .u64 0, .int .u64 0]
def padC (l : List CD) (j : Nat) : CV := (l.map cvOf).getD j (0, 0, 0, 0)
theorem reqN_eq (nm : ByteArray) : reqN nm = reqA nm (padC []) := rfl
theorem infoCd : (Tryz.prog.info? 53).map (·.size) = some 4 := by kernel_rfl
theorem infoRq : (Tryz.prog.info? 147).map (·.size) = some 25 := by kernel_rfl
theorem ix_crow (C : Nat → CD) (n j : Nat) (h : j < n * 4) : (flatK encC 4 ((List.range n).map fun i => cvOf (C i)).toArray)[j]! = (crow (C (j / 4))).getD (j % 4) undef := by
  rw [get_flatK _ _ _ _ (by simpa using h)]
  have h1 : j / 4 < n := by omega
  have h2 : ((List.range n).map fun i => cvOf (C i)).toArray[j / 4]! = cvOf (C (j / 4)) := by
    rw [getElem!_pos _ _ (by simpa using h1)]
    simp
  rw [h2, enc_cv]
  have h3 : j % 4 < (crow (C (j / 4))).length := by show j % 4 < 4; omega
  rw [getElem!_pos (crow (C (j / 4))) (j % 4) h3, List.getD_eq_getElem?_getD, List.getElem?_eq_getElem h3]
  rfl
theorem addrN (b o j : Nat) : (⟨b, o, none⟩ : Addr).add j = ⟨b, o + j, none⟩ := by simp [Addr.add]
/-- Conditions copied into a block that has room for them. -/
theorem step_copyC {w : World} {ops : Array Oper} {o : Oper} {a : Act} {K : Act → World → Prop} {Q : Exit → Act → World → Prop} {Z : Prop} (hgd : o.guard = none) (d s : Operand)
    (ho : o.op = .call { callee := .builtin .copy, args := #[d, s], argTypes := #[48, 48] })
    {O off m dc n sc : Nat} {A : Option Addr} {C : Nat → CD} (hd : a.eval d = .slice (some ⟨O, off, none⟩) m dc) (hs : a.eval s = .slice A n sc) (hnm : n ≤ m) (hC : ConA w A n C)
    (hc : ∀ j, j < n * 4 → (w.cell? ⟨O, off + j, none⟩).isSome = true) (hf : ∀ j, j < n * 4 → w.frozen? ⟨O, off + j, none⟩ = false)
    (h : K (a.put o.dst (.int .i64 n)) (w.setCells O off (flatK encC 4 ((List.range n).map fun i => cvOf (C i)).toArray).toList)) :
    if Region.wanted o (yielded ops a.tmps) = true then Oper.wp Tryz.prog o a w K Q else Z := by
  have hw : Region.wanted o (yielded ops a.tmps) = true := by simp [Region.wanted, hgd]
  rw [if_pos hw]
  obtain ⟨cs, hcs⟩ : ∃ cs, (flatK encC 4 ((List.range n).map fun i => cvOf (C i)).toArray).toList = cs := ⟨_, rfl⟩
  have hlen : cs.length = n * 4 := by rw [← hcs]; simp
  have hone : ∀ v ∈ cs, v.oneCell' = true := fun v hv => by
    rw [← hcs] at hv
    obtain ⟨j, hj, hjv⟩ := List.getElem_of_mem hv
    have hj2 : j < n * 4 := by simpa using hj
    have h1 := ix_crow C n j hj2
    rw [getElem!_pos _ _ (by simpa using hj2)] at h1
    rw [Array.getElem_toList] at hjv
    rw [← hjv, h1]
    have hm : j % 4 = 0 ∨ j % 4 = 1 ∨ j % 4 = 2 ∨ j % 4 = 3 := by omega
    rcases hm with hm | hm | hm | hm <;> rw [hm] <;> rfl
  have hmin : Nat.min n m = n := Nat.min_eq_left hnm
  have hst := run_storeCells_cells (P := Tryz.prog) O off cs 0 w (by simpa [hlen] using hc) (by simpa [hlen] using hf) hone
  rw [hcs] at h
  have hu := Tryz.underlying48
  cases hq : Tryz.prog.info? 53 with
  | none => have := infoCd; rw [hq] at this; cases this
  | some i =>
    have hi : i.size = 4 := by have := infoCd; rw [hq] at this; simpa using this
    rcases hC with h0 | ⟨b, o2, rfl, hlt, hcc⟩
    · subst h0
      have hnil : cs = [] := List.eq_nil_of_length_eq_zero (by omega)
      subst hnil
      have hl : ∀ (x : Addr), (loadCells x 0).run Tryz.prog w = .ok #[] w := fun x => by simpa using run_loadCells_list (P := Tryz.prog) w x [] (by simp)
      unfold Oper.wp
      cases A <;> simp [execOp, ho, resolve, invoke, builtin, hd, hs, Builtin.copy_, run_underlying hu, Builtin.lenOf, Builtin.firstCells, sizeOf, typeInfo, hq, storeCells, hl, Result.andThen] <;> exact h
    · have hl := run_loadCells_list (P := Tryz.prog) w ⟨b, o2, none⟩ cs (fun j v hv => by
        have hj : j < n * 4 := by rw [← hlen]; exact (List.getElem?_eq_some_iff.1 hv).1
        obtain ⟨q0, q1, q2, q3, _⟩ := hcc (j / 4) (by omega)
        have hx : v = (crow (C (j / 4))).getD (j % 4) undef := by
          rw [← ix_crow C n j hj, getElem!_pos _ _ (by simpa using hj)]
          rw [← hcs] at hv
          obtain ⟨hj2, hv2⟩ := List.getElem?_eq_some_iff.1 hv
          rw [← hv2, Array.getElem_toList]
        rw [hx]
        have ha : (⟨b, o2, none⟩ : Addr).add j = ⟨b, o2 + j / 4 * 4 + j % 4, none⟩ := by
          rw [addrN b o2 j, show o2 + j = o2 + j / 4 * 4 + j % 4 by omega]
        rw [ha]
        have hm : j % 4 = 0 ∨ j % 4 = 1 ∨ j % 4 = 2 ∨ j % 4 = 3 := by omega
        rcases hm with hm | hm | hm | hm <;> rw [hm]
        · exact q0
        · exact q1
        · exact q2
        · exact q3)
      rw [hlen] at hl
      unfold Oper.wp
      simp [execOp, ho, resolve, invoke, builtin, hd, hs, Builtin.copy_, run_underlying hu, Builtin.lenOf, Builtin.firstCells, sizeOf, typeInfo, hq, hi, hmin, hl, hst, Result.andThen]
      exact h

theorem holds_copied {w : World} {O off : Nat} {d : Array CV} (hc : ∀ j, j < d.size * 4 → (w.cell? ⟨O, off + j, none⟩).isSome = true) (hf : ∀ j, j < d.size * 4 → w.frozen? ⟨O, off + j, none⟩ = false) :
    HoldsK encC 4 (w.setCells O off (flatK encC 4 d).toList) O off d := by
  intro t ht
  have ht2 : t < (flatK encC 4 d).toList.length := by simpa using ht
  have ht3 : t < d.size * 4 := by simpa using ht
  refine ⟨?_, by rw [World.frozen?_setCells]; exact hf t ht3⟩
  rw [World.cell?_setCells_in O (flatK encC 4 d).toList off w (fun j hj => hc j (by simpa using hj)) t ht2, getElem!_pos (flatK encC 4 d) t ht]
  rfl
/-- Beside the sorted part nothing is turned. -/
theorem sorted_out (w : World) (b off n : Nat) (d : Array CV) (os : Array Obj) (hb : b < w.heap.size) (i : Nat) (hi : i < off ∨ off + d.size * 4 ≤ i) : (sortWorldK encC 4 w b off n d os).cell? ⟨b, i, none⟩ = w.cell? ⟨b, i, none⟩ := by
  unfold sortWorldK
  rw [cell?_grow _ _ _ (by rw [size_putRowK]; exact hb)]
  unfold putRowK
  rw [cell?_putRow_other]
  · rfl
  · rcases hi with h | h
    · exact .inr (.inl h)
    · exact .inr (.inr (by rw [size_flatK]; exact h))
theorem reqA_at (nm : ByteArray) (g : Nat → CV) (j c : Nat) (hj : j < 6) (hc : c < 4) : (reqA nm g)[1 + j * 4 + c]? = some ((encC (g j)).getD c undef) := by
  have h1 : j = 0 ∨ j = 1 ∨ j = 2 ∨ j = 3 ∨ j = 4 ∨ j = 5 := by omega
  have h2 : c = 0 ∨ c = 1 ∨ c = 2 ∨ c = 3 := by omega
  rcases h1 with rfl | rfl | rfl | rfl | rfl | rfl <;> rcases h2 with rfl | rfl | rfl | rfl <;> rfl
theorem reqN_at (nm : ByteArray) (j c : Nat) (hj : j < 6) (hc : c < 4) : (reqN nm)[1 + j * 4 + c]? = some (zN.toList.getD c undef) := by
  have h1 : j = 0 ∨ j = 1 ∨ j = 2 ∨ j = 3 ∨ j = 4 ∨ j = 5 := by omega
  have h2 : c = 0 ∨ c = 1 ∨ c = 2 ∨ c = 3 := by omega
  rcases h1 with rfl | rfl | rfl | rfl | rfl | rfl <;> rcases h2 with rfl | rfl | rfl | rfl <;> rfl
theorem enc_zero (c : Nat) (hc : c < 4) : (encC (0, 0, 0, 0)).getD c undef = zN.toList.getD c undef := by
  have h2 : c = 0 ∨ c = 1 ∨ c = 2 ∨ c = 3 := by omega
  rcases h2 with rfl | rfl | rfl | rfl <;> rfl
theorem heads_at {w : World} {O : Nat} {l : List CV} (hh : Heads w O 1 l) (j c : Nat) (hj : j < l.length) (hc : c < 4) : w.cell? ⟨O, 1 + j * 4 + c, none⟩ = some ((encC l[j]!).getD c undef) := by
  obtain ⟨h0, h1, h2, h3⟩ := hh j hj
  have hc2 : c = 0 ∨ c = 1 ∨ c = 2 ∨ c = 3 := by omega
  rcases hc2 with rfl | rfl | rfl | rfl
  · exact h0
  · exact h1
  · exact h2
  · exact h3
/-- A block of which all cells are known. -/
theorem row_of_cells {w : World} {b : Nat} {T : TypeId} (hT : TyAt w b T) (X : Array Value) (hX : ∀ i, w.cell? ⟨b, i, none⟩ = X[i]?) : ∃ fr, w.heap[b]? = some (.cells X T fr) := by
  obtain ⟨cs, fr, h⟩ := hT
  refine ⟨fr, ?_⟩
  have : cs = X := by
    apply Array.ext_getElem?
    intro i
    rw [← hX i, cell_of_row w b _ cs _ fr h]
  rw [← this]
  exact h
theorem req_row {w W1 : World} {O n : Nat} {nm : ByteArray} {l : List CV} {T : TypeId} (ho1 : RowC W1 O (reqN nm) T) (hT : TyO W1 O 1 (1 + n * 4) T 25 w) (hn : n ≤ 6) (hl : l.length ≤ n) (hh : Heads w O 1 l)
    (hz : ∀ j c, l.length ≤ j → j < n → c < 4 → w.cell? ⟨O, 1 + j * 4 + c, none⟩ = some (zN.toList.getD c undef)) : ∃ fr, w.heap[O]? = some (.cells (reqA nm fun j => l.getD j (0, 0, 0, 0)) T fr) := by
  refine row_of_cells hT.1.ty _ fun i => ?_
  have hW1 : ∀ i, W1.cell? ⟨O, i, none⟩ = (reqN nm)[i]? := fun i => cell_of_row W1 O _ _ _ _ ho1
  rcases Nat.eq_zero_or_pos i with rfl | hp
  · rw [hT.2 0 (.inl (by omega)), hW1]
    rfl
  · by_cases h25 : 25 ≤ i
    · rw [hT.2 i (.inr (by omega)), hW1]
      rw [Array.getElem?_eq_none (show (reqN nm).size ≤ i from h25), Array.getElem?_eq_none (show (reqA nm _).size ≤ i from h25)]
    · obtain ⟨j, c, hj, hc, rfl⟩ : ∃ j c, j < 6 ∧ c < 4 ∧ i = 1 + j * 4 + c := ⟨(i - 1) / 4, (i - 1) % 4, by omega, by omega, by omega⟩
      rw [reqA_at nm _ j c hj hc]
      by_cases h1 : j < l.length
      · have hg : l.getD j (0, 0, 0, 0) = l[j]! := by rw [getElem!_pos l j h1, List.getD_eq_getElem?_getD, List.getElem?_eq_getElem h1]; rfl
        rw [hg, heads_at hh j c h1 hc]
      · have hg : l.getD j (0, 0, 0, 0) = (0, 0, 0, 0) := by rw [List.getD_eq_getElem?_getD, List.getElem?_eq_none (by omega)]; rfl
        rw [hg, enc_zero c hc]
        by_cases h2 : j < n
        · exact hz j c (by omega) h2 hc
        · rw [hT.2 _ (.inr (by omega)), hW1, reqN_at nm j c hj hc]
theorem clear_none (A : Option Addr) (c : Nat) (w : World) (ty : TypeId) : (Builtin.clear_ #[48] ty #[.slice A 0 c]).run Tryz.prog w = .ok (.tuple #[]) w := by
  cases A <;> simp [Builtin.clear_, run_underlying Tryz.underlying48]
theorem builtRq (nm : ByteArray) : Tryz.prog.built 147 [(0, .string nm)] = some (reqN nm) := by kernel_rfl
theorem wp_buildRq {ops : Array Oper} {rest : List Oper} {o : Oper} {a : Act} {w : World} {Q : Exit → Act → World → Prop} (hg : o.guard = none) (x : Operand) (ho : o.op = .build 147 #[(0, x)]) {nm : ByteArray} (hx : a.eval x = .string nm)
    (h : wpList Tryz.prog ops Q rest (a.put o.dst (.agg (reqN nm))) w) : wpList Tryz.prog ops Q (o :: rest) a w := by
  have hb : Tryz.prog.built 147 ((#[(0, x)] : Array (Nat × Operand)).map fun (i, x) => (i, a.eval x)).toList = some (reqN nm) := by
    have h0 : ((#[(0, x)] : Array (Nat × Operand)).map fun (i, x) => (i, a.eval x)).toList = [(0, .string nm)] := by simp [hx]
    rw [h0]
    exact builtRq nm
  refine wpList_build hg _ _ ho (by rw [hb]; rfl) ?_
  rw [hb]
  exact h
theorem reqN_one (nm : ByteArray) : (reqN nm).all (·.oneCell') = true := by simp [reqN, Value.oneCell']
theorem reqA_one (nm : ByteArray) (g : Nat → CV) : (reqA nm g).all (·.oneCell') = true := by simp [reqA, Value.oneCell']
theorem reqN_cell (nm : ByteArray) (j : Nat) (h : j < 25) : ∃ v, (reqN nm)[j]? = some v := ⟨(reqN nm)[j]'h, Array.getElem?_eq_getElem _⟩
set_option maxRecDepth 100000 in
set_option maxHeartbeats 16000000 in
theorem requestOf_any (nm : ByteArray) (k u : Int) (A : Option Addr) (n c : Nat) (C : Nat → CD) (w : World) (h6 : n ≤ 6) (hnc : n ≤ c) (hC : ConA w A n C) :
    Calls Tryz.prog 74 #[.agg #[.string nm, .int .i64 k, .int .i64 u, .slice A n c]] w fun e w' => e = .returned (.agg (reqA nm (padC (srt ((List.range n).map C))))) ∧ Below w.heap.size w w' := by
  obtain ⟨B, hBs⟩ : ∃ B, w.heap.size = B := ⟨_, rfl⟩
  obtain ⟨W0, hW0⟩ : ∃ W, (w.alloc (.cells #[.string nm, .int .i64 k, .int .i64 u, .slice A n c] 50)).alloc (.cells (reqN ⟨#[]⟩) 147) = W := ⟨_, rfl⟩
  have hs0 : W0.heap.size = B + 2 := by rw [← hW0, ← hBs]; simp
  have hb0 : Below B w W0 := by rw [← hW0, ← hBs]; exact ((Below.refl _ _).alloc (Nat.le_refl _) _).alloc (by simp) _
  have hr0 : RowC W0 B #[.string nm, .int .i64 k, .int .i64 u, .slice A n c] 50 := by rw [← hW0, ← hBs]; exact (RowC.new _ _ _ _ rfl).alloc _
  have hz0 : RowC W0 (B + 1) (reqN ⟨#[]⟩) 147 := by rw [← hW0, ← hBs]; exact RowC.new _ _ _ _ (by simp)
  have ho0 : RowC (W0.alloc (.cells (reqN ⟨#[]⟩) 147)) (B + 2) (reqN ⟨#[]⟩) 147 := RowC.new _ _ _ _ hs0.symm
  obtain ⟨W1, hW1⟩ : ∃ W, (W0.alloc (.cells (reqN ⟨#[]⟩) 147)).setRow (B + 2) (reqN nm) = W := ⟨_, rfl⟩
  have hb1 : Below B w W1 := by rw [← hW1]; exact below_setRow (hb0.alloc (by rw [hs0]; omega) _) (by omega) _
  have hr1 : RowC W1 B #[.string nm, .int .i64 k, .int .i64 u, .slice A n c] 50 := by rw [← hW1]; exact (hr0.alloc _).setRow _ (by omega)
  have hz1 : RowC W1 (B + 1) (reqN ⟨#[]⟩) 147 := by rw [← hW1]; exact (hz0.alloc _).setRow _ (by omega)
  have ho1 : RowC W1 (B + 2) (reqN nm) 147 := by rw [← hW1]; exact setRow_heap _ _ _ _ _ _ ho0
  have hcc : ∀ j, j < n * 4 → (W1.cell? ⟨B + 2, 1 + j, none⟩).isSome = true := fun j hj => by
    obtain ⟨v, hv⟩ := reqN_cell nm (1 + j) (by omega)
    rw [ho1.cell (1 + j) v hv]; rfl
  have hcf : ∀ j, j < n * 4 → W1.frozen? ⟨B + 2, 1 + j, none⟩ = false := fun j hj => ho1.frozen (1 + j)
  obtain ⟨cs, hcs⟩ : ∃ cs, (flatK encC 4 ((List.range n).map fun i => cvOf (C i)).toArray).toList = cs := ⟨_, rfl⟩
  obtain ⟨W2, hW2⟩ : ∃ W, W1.drew.setCells (B + 2) 1 cs = W := ⟨_, rfl⟩
  have hclen : cs.length = n * 4 := by rw [← hcs]; simp
  have hb2 : Below (B + 2) W1 W2 := by rw [← hW2]; exact below_setCellsC (Nat.le_refl _) _ _ _ (Below.refl _ _).drew
  have hr2 : RowC W2 B #[.string nm, .int .i64 k, .int .i64 u, .slice A n c] 50 := hr1.below hb2 (by omega)
  have hz2 : RowC W2 (B + 1) (reqN ⟨#[]⟩) 147 := hz1.below hb2 (by omega)
  have ht2 : TyO W1 (B + 2) 1 (1 + n * 4) 147 25 W2 := by rw [← hW2]; exact TyO.sets (wr := W1.drew) (show TyO W1 (B + 2) 1 (1 + n * 4) 147 25 W1.drew from TyO.start ⟨_, ho1, rfl⟩) cs 1 (by omega)
  have hH2 : HoldsK encC 4 W2 (B + 2) 1 ((List.range n).map fun i => cvOf (C i)).toArray := by
    rw [← hW2, ← hcs]
    exact holds_copied (w := W1.drew) (fun j hj => hcc j (by simpa using hj)) (fun j hj => hcf j (by simpa using hj))
  have HC1 := Lib.hid (hC.below hb1 (Nat.le_of_eq hBs))
  have HO0 := Lib.hid ho0
  have HW1x : Hid ((W0.alloc (.cells #[.string ⟨#[]⟩, .int .i64 0, .int .i64 0, .int .u64 0, .int .u64 0, .int .i64 0, .int .i64 0, .int .u64 0, .int .u64 0, .int .i64 0, .int .i64 0, .int .u64 0, .int .u64 0, .int .i64 0, .int .i64 0, .int .u64 0, .int .u64 0, .int .i64 0, .int .i64 0, .int .u64 0, .int .u64 0, .int .i64 0, .int .i64 0, .int .u64 0, .int .u64 0] 147)).setRow (B + 2) (reqN nm) = W1) := Lib.hid hW1
  have HW0 := Lib.hid hW0
  have HW1 := Lib.hid hW1
  have HW2 := Lib.hid hW2
  have HB1 := Lib.hid hb1
  have hb1x : Hid (Below B w W1) := Lib.hid hb1
  have HB2 := Lib.hid hb2
  have HR1 := Lib.hid hr1
  have HR2 := Lib.hid hr2
  have HZ2 := Lib.hid hz2
  have HZ1 := Lib.hid hz1
  have HO1 := Lib.hid ho1
  have HT2 := Lib.hid ht2
  have HH2 := Lib.hid hH2
  have HBS := Lib.hid hBs
  have HNC := Lib.hid hnc
  have HCC := Lib.hid hcc
  have HCF := Lib.hid hcf
  have HCS := Lib.hid hcs
  have p0 := hr0.cell 0 (.string nm) rfl
  have p0a := fun o => (hr0.alloc o).cell 0 (.string nm) rfl
  have i0 : (0 : Int) ≤ (n : Int) := by omega
  have i6 : (n : Int) ≤ 6 := by omega
  unfold reqN at hW0
  clear hb0 hr0 hz0 ho0 hW1 hW2 hC hnc hb1 hr1 hz1 ho1 hcc hcf hcs hclen hb2 hr2 hz2 ht2 hH2
  go_enter Tryz.func74, Tryz.ntmps74
  go_upto_region 1 with fail
  (try rw [hW0])
  clear hW0
  go_upto_region 2 with (first | (refine wp_buildRq (by rfl) _ (by rfl) (nm := nm) (by rfl) ?_) | refine wpList_store_row (by rfl) 147 _ _ (by rfl) (B + 2) (reqN nm) (by rfl) (by rfl) _ _ HO0.out infoRq (by rfl) (reqN_one nm) ?_)
  clear p0 p0a
  rw [HW1x.out]
  clear hs0
  have p3 := HR1.out.cell 3 (.slice A n c) rfl
  have HP2 := Lib.hid (HR2.out.cell 3 (.slice A n c) rfl)
  have HW2x : Hid (W1.drew.setCells (B + 2) 1 (flatK encC 4 ((List.range n).map fun i => cvOf (C i)).toArray).toList = W2) := Lib.hid (by rw [HCS.out]; exact HW2.out)
  go_region_held3 (fun w' => w'.cell? ⟨B, 3, none⟩ = some (.slice A n c))
    (first | assumption | exact HP2.out)
    (first | (refine step_copyC (by rfl) _ _ (by rfl) (O := B + 2) (off := 1) (m := 6) (n := n) (C := C) (by rfl) (by rfl) h6 HC1.out HCC.out HCF.out ?_; rw [HW2x.out]))
  obtain ⟨M, hM⟩ : ∃ M, (List.range n).map C = M := ⟨_, rfl⟩
  have hMl : M.length = n := by rw [← hM]; simp
  have hMd : ((List.range n).map fun i => cvOf (C i)).toArray = (M.map cvOf).toArray := by rw [← hM, List.map_map]; rfl
  have hH2 := HH2.out
  rw [hMd] at hH2
  have hsz : (M.map cvOf).toArray.size = n := by simp [hMl]
  have HSRT := Lib.hid (sortV_any (B + 2) 1 6 (M.map cvOf).toArray W2 hH2 HT2.out.1.ty.lt (by rw [hsz]; omega))
  rw [hsz] at HSRT
  have HHM := Lib.hid hH2
  have HSZ := Lib.hid hsz
  have HM := Lib.hid hM
  clear hMd hH2 hsz hM hMl p3
  go_wp2_with fail
  refine HSRT.out.mono ?_
  rintro e w3 ⟨rfl, d', m', os, hperm, hsort, hw3⟩
  have hds : d'.size = n := hperm.1.trans HSZ.out
  have HY := Lib.hid (show PermIn 0 d'.size (M.map cvOf).toArray d' ∧ SortedIn (ltOf cfC) 0 d'.size d' from by rw [hds]; exact ⟨hperm, hsort⟩)
  have hH3 : HoldsK encC 4 w3 (B + 2) 1 d' := by rw [hw3]; exact holdsK_sortWorldK_c encC 4 W2 (B + 2) 1 _ d' m' os HHM.out HT2.out.1.ty.lt (by rw [hds, HSZ.out])
  have hB3 : Below (B + 2) W2 w3 := by rw [hw3]; exact below_sorted W2 (B + 2) 1 m' d' os HT2.out.1.ty.lt
  have hT3 : TyO W2 (B + 2) 1 (1 + n * 4) 147 25 w3 := by rw [hw3]; exact ⟨HT2.out.1.sorted 1 m' d' os, fun i hi => sorted_out W2 (B + 2) 1 m' d' os HT2.out.1.ty.lt i (by rw [hds]; exact hi)⟩
  have HCMP := Lib.hid (compactW_any (B + 2) 1 6 d' w3 hH3 hT3.1.ty.lt (by omega) (by omega) (by decide) _ 25 hT3.1)
  have hcs2 := compact_srt M d' HY.out.1 HY.out.2
  rw [hcs2, hds, List.length_map] at HCMP
  have HB3 := Lib.hid hB3
  have HT3 := Lib.hid hT3
  clear hds hperm hsort hw3 hH3 hB3 hT3 hcs2 HSRT
  go_wp2_with fail
  refine HCMP.out.mono ?_
  rintro e w4 ⟨rfl, hB4, hT4, hh4⟩
  obtain ⟨l, hl⟩ : ∃ l, srt M = l := ⟨_, rfl⟩
  rw [hl] at hh4
  have hln : l.length ≤ n := by rw [← hl]; have := srt_len M; rw [show M.length = n by rw [← HM.out]; simp] at this; exact this
  obtain ⟨m, hm⟩ : ∃ m, l.length = m := ⟨_, rfl⟩
  rw [hm] at hln
  rw [hl, hm]
  have hT14 : TyO W1 (B + 2) 1 (1 + n * 4) 147 25 w4 := (HT2.out.trans HT3.out).trans hT4
  have hB14 : Below (B + 2) W1 w4 := (HB2.out.trans HB3.out).trans hB4
  have hll : (l.map cvOf).length = m := by rw [List.length_map, hm]
  -- what lies behind clear
  obtain ⟨W5, hW5, hB5, hrow5⟩ : ∃ W5, (∀ A ty, A = some (⟨B + 2, 1 + m * 4, none⟩ : Addr) ∨ n - m = 0 → (Builtin.clear_ #[48] ty #[.slice A (n - m) (6 - m)]).run Tryz.prog w4 = .ok (.tuple #[]) W5) ∧ Below (B + 2) W1 W5 ∧ ∃ fr, W5.heap[B + 2]? = some (.cells (reqA nm (padC l)) 147 fr) := by
    by_cases hmn : n - m = 0
    · refine ⟨w4, fun A ty _ => by rw [hmn]; exact clear_none A _ w4 ty, hB14, ?_⟩
      exact req_row HO1.out hT14 h6 (by omega) hh4 (fun j c h1 h2 _ => by omega)
    · have hcell : ∀ j, j < (n - m) * 4 → (w4.cell? ⟨B + 2, 1 + m * 4 + j, none⟩).isSome = true ∧ w4.frozen? ⟨B + 2, 1 + m * 4 + j, none⟩ = false := fun j hj => ⟨hT14.1.is _ (by omega), hT14.1.frozen _⟩
      refine ⟨w4.setCells (B + 2) (1 + m * 4) (Builtin.zeroCells zN (n - m)).toList, fun A ty h => ?_, below_setCellsC (Nat.le_refl _) _ _ _ hB14, ?_⟩
      · obtain rfl : A = some (⟨B + 2, 1 + m * 4, none⟩ : Addr) := h.resolve_right hmn
        exact clearW (B + 2) (1 + m * 4) (n - m) (6 - m) w4 ty (by omega) hcell
      · refine req_row HO1.out (hT14.sets _ _ (by rw [zeros_len]; omega)) h6 (by omega) ?_ ?_
        · intro j hj
          rw [hll] at hj
          have h4 := hh4 j (by omega)
          have ho : ∀ c, c < 4 → (w4.setCells (B + 2) (1 + m * 4) (Builtin.zeroCells zN (n - m)).toList).cell? ⟨B + 2, 1 + j * 4 + c, none⟩ = w4.cell? ⟨B + 2, 1 + j * 4 + c, none⟩ := fun c hc => World.cell?_setCells_out (B + 2) _ _ w4 _ (fun _ _ => .inl (by show 1 + j * 4 + c < 1 + m * 4; omega))
          exact ⟨(ho 0 (by decide)).trans h4.1, (ho 1 (by decide)).trans h4.2.1, (ho 2 (by decide)).trans h4.2.2.1, (ho 3 (by decide)).trans h4.2.2.2⟩
        · intro j c h1 h2 hc
          rw [hll] at h1
          have hx := World.cell?_setCells_in (B + 2) (Builtin.zeroCells zN (n - m)).toList (1 + m * 4) w4 (fun q hq => (hcell q (by rw [zeros_len] at hq; exact hq)).1) ((j - m) * 4 + c) (by rw [zeros_len]; omega)
          rw [zeros_at (n - m) (j - m) c (by omega) hc] at hx
          rw [← hx]
          congr 2
          omega
  obtain ⟨fr, hrow5⟩ := hrow5
  have HR5 := Lib.hid hrow5
  have HZ5 := Lib.hid (HZ1.out.below hB5 (by omega))
  have hB5w := hb1x.out.trans (hB5.mono (by omega : B ≤ B + 2))
  have HB5 := Lib.hid hB5w
  have HL := Lib.hid hl
  have HWC := Lib.hid hW5
  have hmle : m ≤ 6 := by omega
  clear hrow5 hB5 hB5w hB4 hT4 hh4 hl hm hT14 hB14 hll hW5 HCMP
  by_cases h66 : m = 6
  · have hn6 : n = 6 := by omega
    subst h66 hn6
    have hWc := fun A ty => HWC.out A ty (.inr rfl)
    simp only [Nat.sub_self] at hWc
    go_wp2_with (first
      | (refine wpList_load_row (by rfl) 147 _ (by rfl) (B + 2) (by rfl) _ (reqA nm (padC l)) fr _ HR5.out Tryz.underlying147 (by rfl) infoRq ?_)
      | (refine wpList_store_row (by rfl) 147 _ _ (by rfl) (B + 1) (reqA nm (padC l)) (by rfl) (by rfl) _ _ HZ5.out infoRq (by rfl) (reqA_one nm _) ?_))
    exact bodyPost_ret (results_cell_row Tryz.results74 _ _ (B + 1) _ _ (0, 0) _ (by rfl) (setRow_heap _ _ _ _ _ _ HZ5.out) Tryz.underlying147 (by rfl) infoRq) rfl ⟨by rw [HM.out, HL.out], by rw [HBS.out]; exact below_setRow HB5.out (Nat.le_succ _) _⟩
  · have hWc := fun ty => HWC.out _ ty (.inl rfl)
    have h7 : ¬ (6 : Nat) = m := fun h => h66 h.symm
    have g1 : (0 : Int) ≤ (m : Int) := by omega
    have g2 : (m : Int) ≤ (n : Int) := by omega
    have g3 : (m : Int) ≤ 6 := by omega
    go_wp2_with (first
      | (refine wpList_load_row (by rfl) 147 _ (by rfl) (B + 2) (by rfl) _ (reqA nm (padC l)) fr _ HR5.out Tryz.underlying147 (by rfl) infoRq ?_)
      | (refine wpList_store_row (by rfl) 147 _ _ (by rfl) (B + 1) (reqA nm (padC l)) (by rfl) (by rfl) _ _ HZ5.out infoRq (by rfl) (reqA_one nm _) ?_))
    exact bodyPost_ret (results_cell_row Tryz.results74 _ _ (B + 1) _ _ (0, 0) _ (by rfl) (setRow_heap _ _ _ _ _ _ HZ5.out) Tryz.underlying147 (by rfl) infoRq) rfl ⟨by rw [HM.out, HL.out], by rw [HBS.out]; exact below_setRow HB5.out (Nat.le_succ _) _⟩
end Go.Proofs.YtccklmleaffgiaaGreatDoor
