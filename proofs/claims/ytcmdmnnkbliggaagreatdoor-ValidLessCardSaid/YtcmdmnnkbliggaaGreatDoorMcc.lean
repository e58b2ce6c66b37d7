/-
  Layer 15: which calls a rule asks for (requestOf).
-/
import Derived.Test.YtcmdmnnkbliggaaGreatDoorCbk
import Derived.Test.YtcmdmnnkbliggaaGreatDoorZck
import Derived.RegionTactic
import Derived.Deep.RegionWith
import Derived.Deep.RegionHeld3
import Derived.Test.YtcmdmnnkbliggaaGreatDoorMu
import Derived.Maps.OwnOps
import Derived.DeepKeys3
import Derived.Laws.BitsAllLaws
import Derived.Test.YtcmdmnnkbliggaaGreatDoorMs
namespace Go.Proofs.YtcmdmnnkbliggaaGreatDoor
open Go.RowKit Go.Shelf Go.Lib Go.Sort
set_option linter.unusedVariables false

/-- A request's cells. -/
def reqA (nm : ByteArray) (g : Nat → CV) : Array Value := #[.string nm, .int .i64 (g 0).1, .int .i64 (g 0).2.1, .int .u64 (g 0).2.2.1, .int .u64 (g 0).2.2.2, .int .i64 (g 1).1, .int .i64 (g 1).2.1, .int .u64 (g 1).2.2.1, .int .u64 (g 1).2.2.2, .int .i64 (g 2).1, .int .i64 (g 2).2.1, .int .u64 (g 2).2.2.1, .int .u64 (g 2).2.2.2, .int .i64 (g 3).1, .int .i64 (g 3).2.1, .int .u64 (g 3).2.2.1, .int .u64 (g 3).2.2.2, .int .i64 (g 4).1, .int .i64 (g 4).2.1, .int .u64 (g 4).2.2.1, .int .u64 (g 4).2.2.2, .int .i64 (g 5).1, .int .i64 (g 5).2.1, .int .u64 (g 5).2.2.1, .int .u64 (g 5).2.2.2]
def reqN (nm : ByteArray) : Array Value := #[.string nm, .int .i64 0, .int .i64 0, .int .u64 0, .int .u64 0, .int .i64 0, .int .i64 0, .int .u64 0, .int .u64 0, .int .i64 0, .int .i64 0, .int .u64 0, .int .u64 0, .int .i64 0, .int .i64 0, .int .u64 0, .int .u64 0, .int .i64 0, .int .i64 0, .int .u64 0, .int .u64 0, .int .i64 0, .int .i64 0, .int .u64 0, .int .u64 0]
def padC (l : List CD) (j : Nat) : CV := (l.map cvOf).getD j (0, 0, 0, 0)
theorem reqN_eq (nm : ByteArray) : reqN nm = reqA nm (padC []) := rfl
theorem infoCd : (Tryz.prog.info? 61).map (·.size) = some 4 := by kernel_rfl
theorem infoRq : (Tryz.prog.info? 228).map (·.size) = some 25 := by kernel_rfl
theorem ix_crow (C : Nat → CD) (n j : Nat) (h : j < n * 4) : (flatK encC 4 ((List.range n).map fun i => cvOf (C i)).toArray)[j]! = (crow (C (j / 4))).getD (j % 4) undef := by
  rw [get_flatK _ _ _ _ (by simpa using h)]
  have h1 : j / 4 < n := by omega
  have h2 : ((List.range n).map fun i => cvOf (C i)).toArray[j / 4]! = cvOf (C (j / 4)) := by
    rw [getElem!_pos _ _ (by simpa using h1)]
    simp
  rw [h2, enc_cv]
  have h3 : j % 4 < (crow (C (j / 4))).length := by show j % 4 < 4; omega
  rw [getElem!_pos (crow (C (j / 4))) (j % 4) h3, List.getD_eq_getElem?_getD, List.getElem?_eq_getElem h3]
  rfl
theorem addrN (b o j : Nat) : (⟨b, o, none⟩ : Addr).add j = ⟨b, o + j, none⟩ := by simp [Addr.add]
/-- Conditions copied into a block that has room for them. -/
theorem step_copyC {w : World} {ops : Array Oper} {o : Oper} {a : Act} {K : Act → World → Prop} {Q : Exit → Act → World → Prop} {Z : Prop} (hgd : o.guard = none) (d s : Operand)
    (ho : o.op = .call { callee := .builtin .copy, args := #[d, s], argTypes := #[55, 55] })
    {O off m dc n sc : Nat} {A : Option Addr} {C : Nat → CD} (hd : a.eval d = .slice (some ⟨O, off, none⟩) m dc) (hs : a.eval s = .slice A n sc) (hnm : n ≤ m) (hC : ConA w A n C)
    (hc : ∀ j, j < n * 4 → (w.cell? ⟨O, off + j, none⟩).isSome = true) (hf : ∀ j, j < n * 4 → w.frozen? ⟨O, off + j, none⟩ = false)
    (h : K (a.put o.dst (.int .i64 n)) (w.setCells O off (flatK encC 4 ((List.range n).map fun i => cvOf (C i)).toArray).toList)) :
    if Region.wanted o (yielded ops a.tmps) = true then Oper.wp Tryz.prog o a w K Q else Z := by
  have hw : Region.wanted o (yielded ops a.tmps) = true := by simp [Region.wanted, hgd]
  rw [if_pos hw]
  obtain ⟨cs, hcs⟩ : ∃ cs, (flatK encC 4 ((List.range n).map fun i => cvOf (C i)).toArray).toList = cs := ⟨_, rfl⟩
  have hlen : cs.length = n * 4 := by rw [← hcs]; simp
  have hone : ∀ v ∈ cs, v.oneCell' = true := fun v hv => by
    rw [← hcs] at hv
    obtain ⟨j, hj, hjv⟩ := List.getElem_of_mem hv
    have hj2 : j < n * 4 := by simpa using hj
    have h1 := ix_crow C n j hj2
    rw [getElem!_pos _ _ (by simpa using hj2)] at h1
    rw [Array.getElem_toList] at hjv
    rw [← hjv, h1]
    have hm : j % 4 = 0 ∨ j % 4 = 1 ∨ j % 4 = 2 ∨ j % 4 = 3 := by omega
    rcases hm with hm | hm | hm | hm <;> rw [hm] <;> rfl
  have hmin : Nat.min n m = n := Nat.min_eq_left hnm
  have hst := run_storeCells_cells (P := Tryz.prog) O off cs 0 w (by simpa [hlen] using hc) (by simpa [hlen] using hf) hone
  rw [hcs] at h
  have hu := Tryz.underlying55
  cases hq : Tryz.prog.info? 61 with
  | none => have := infoCd; rw [hq] at this; cases this
  | some i =>
    have hi : i.size = 4 := by have := infoCd; rw [hq] at this; simpa using this
    rcases hC with h0 | ⟨b, o2, rfl, hlt, hcc⟩
    · subst h0
      have hnil : cs = [] := List.eq_nil_of_length_eq_zero (by omega)
      subst hnil
      have hl : ∀ (x : Addr), (loadCells x 0).run Tryz.prog w = .ok #[] w := fun x => by simpa using run_loadCells_list (P := Tryz.prog) w x [] (by simp)
      unfold Oper.wp
      cases A <;> simp [execOp, ho, resolve, invoke, builtin, hd, hs, Builtin.copy_, run_underlying hu, Builtin.lenOf, Builtin.firstCells, sizeOf, typeInfo, hq, storeCells, hl, Result.andThen] <;> exact h
    · have hl := run_loadCells_list (P := Tryz.prog) w ⟨b, o2, none⟩ cs (fun j v hv => by
        have hj : j < n * 4 := by rw [← hlen]; exact (List.getElem?_eq_some_iff.1 hv).1
        obtain ⟨q0, q1, q2, q3, _⟩ := hcc (j / 4) (by omega)
        have hx : v = (crow (C (j / 4))).getD (j % 4) undef := by
          rw [← ix_crow C n j hj, getElem!_pos _ _ (by simpa using hj)]
          rw [← hcs] at hv
          obtain ⟨hj2, hv2⟩ := List.getElem?_eq_some_iff.1 hv
          rw [← hv2, Array.getElem_toList]
        rw [hx]
        have ha : (⟨b, o2, none⟩ : Addr).add j = ⟨b, o2 + j / 4 * 4 + j % 4, none⟩ := by
          rw [addrN b o2 j, show o2 + j = o2 + j / 4 * 4 + j % 4 by omega]
        rw [ha]
        have hm : j % 4 = 0 ∨ j % 4 = 1 ∨ j % 4 = 2 ∨ j % 4 = 3 := by omega
        rcases hm with hm | hm | hm | hm <;> rw [hm]
        · exact q0
        · exact q1
        · exact q2
        · exact q3)
      rw [hlen] at hl
      unfold Oper.wp
      simp [execOp, ho, resolve, invoke, builtin, hd, hs, Builtin.copy_, run_underlying hu, Builtin.lenOf, Builtin.firstCells, sizeOf, typeInfo, hq, hi, hmin, hl, hst, Result.andThen]
      exact h

theorem holds_copied {w : World} {O off : Nat} {d : Array CV} (hc : ∀ j, j < d.size * 4 → (w.cell? ⟨O, off + j, none⟩).isSome = true) (hf : ∀ j, j < d.size * 4 → w.frozen? ⟨O, off + j, none⟩ = false) :
    HoldsK encC 4 (w.setCells O off (flatK encC 4 d).toList) O off d := by
  intro t ht
  have ht2 : t < (flatK encC 4 d).toList.length := by simpa using ht
  have ht3 : t < d.size * 4 := by simpa using ht
  refine ⟨?_, by rw [World.frozen?_setCells]; exact hf t ht3⟩
  rw [World.cell?_setCells_in O (flatK encC 4 d).toList off w (fun j hj => hc j (by simpa using hj)) t ht2, getElem!_pos (flatK encC 4 d) t ht]
  rfl
theorem flat_len4 (d : Array CV) : (flatK encC 4 d).toList.length = d.size * 4 := by simp
/-- Beside the sorted part nothing is turned. -/
theorem sorted_out (w : World) (b off n : Nat) (d : Array CV) (os : Array Obj) (hb : b < w.heap.size) (i : Nat) (hi : i < off ∨ off + d.size * 4 ≤ i) : (sortWorldK encC 4 w b off n d os).cell? ⟨b, i, none⟩ = w.cell? ⟨b, i, none⟩ := by
  unfold sortWorldK
  rw [cell?_grow _ _ _ (by rw [size_putRowK]; exact hb)]
  unfold putRowK
  rw [cell?_putRow_other]
  · rfl
  · rcases hi with h | h
    · exact .inr (.inl h)
    · exact .inr (.inr (by rw [size_flatK]; exact h))
theorem reqA_at (nm : ByteArray) (g : Nat → CV) (j c : Nat) (hj : j < 6) (hc : c < 4) : (reqA nm g)[1 + j * 4 + c]? = some ((encC (g j)).getD c undef) := by
  have h1 : j = 0 ∨ j = 1 ∨ j = 2 ∨ j = 3 ∨ j = 4 ∨ j = 5 := by omega
  have h2 : c = 0 ∨ c = 1 ∨ c = 2 ∨ c = 3 := by omega
  rcases h1 with rfl | rfl | rfl | rfl | rfl | rfl <;> rcases h2 with rfl | rfl | rfl | rfl <;> rfl
theorem reqN_at (nm : ByteArray) (j c : Nat) (hj : j < 6) (hc : c < 4) : (reqN nm)[1 + j * 4 + c]? = some (zN.toList.getD c undef) := by
  have h1 : j = 0 ∨ j = 1 ∨ j = 2 ∨ j = 3 ∨ j = 4 ∨ j = 5 := by omega
  have h2 : c = 0 ∨ c = 1 ∨ c = 2 ∨ c = 3 := by omega
  rcases h1 with rfl | rfl | rfl | rfl | rfl | rfl <;> rcases h2 with rfl | rfl | rfl | rfl <;> rfl
theorem enc_zero (c : Nat) (hc : c < 4) : (encC (0, 0, 0, 0)).getD c undef = zN.toList.getD c undef := by
  have h2 : c = 0 ∨ c = 1 ∨ c = 2 ∨ c = 3 := by omega
  rcases h2 with rfl | rfl | rfl | rfl <;> rfl
theorem heads_at {w : World} {O : Nat} {l : List CV} (hh : Heads w O 1 l) (j c : Nat) (hj : j < l.length) (hc : c < 4) : w.cell? ⟨O, 1 + j * 4 + c, none⟩ = some ((encC l[j]!).getD c undef) := by
  obtain ⟨h0, h1, h2, h3⟩ := hh j hj
  have hc2 : c = 0 ∨ c = 1 ∨ c = 2 ∨ c = 3 := by omega
  rcases hc2 with rfl | rfl | rfl | rfl
  · exact h0
  · exact h1
  · exact h2
  · exact h3
/-- A block of which all cells are known. -/
theorem row_of_cells {w : World} {b : Nat} {T : TypeId} (hT : TyAt w b T) (X : Array Value) (hX : ∀ i, w.cell? ⟨b, i, none⟩ = X[i]?) : ∃ fr, w.heap[b]? = some (.cells X T fr) := by
  obtain ⟨cs, fr, h⟩ := hT
  refine ⟨fr, ?_⟩
  have : cs = X := by
    apply Array.ext_getElem?
    intro i
    rw [← hX i, cell_of_row w b _ cs _ fr h]
  rw [← this]
  exact h
theorem req_row {w W1 : World} {O n : Nat} {nm : ByteArray} {l : List CV} {T : TypeId} (ho1 : RowC W1 O (reqN nm) T) (hT : TyO W1 O 1 (1 + n * 4) T 25 w) (hn : n ≤ 6) (hl : l.length ≤ n) (hh : Heads w O 1 l)
    (hz : ∀ j c, l.length ≤ j → j < n → c < 4 → w.cell? ⟨O, 1 + j * 4 + c, none⟩ = some (zN.toList.getD c undef)) : ∃ fr, w.heap[O]? = some (.cells (reqA nm fun j => l.getD j (0, 0, 0, 0)) T fr) := by
  refine row_of_cells hT.1.ty _ fun i => ?_
  have hW1 : ∀ i, W1.cell? ⟨O, i, none⟩ = (reqN nm)[i]? := fun i => cell_of_row W1 O _ _ _ _ ho1
  rcases Nat.eq_zero_or_pos i with rfl | hp
  · rw [hT.2 0 (.inl (by omega)), hW1]
    rfl
  · by_cases h25 : 25 ≤ i
    · rw [hT.2 i (.inr (by omega)), hW1]
      rw [Array.getElem?_eq_none (show (reqN nm).size ≤ i from h25), Array.getElem?_eq_none (show (reqA nm _).size ≤ i from h25)]
    · obtain ⟨j, c, hj, hc, rfl⟩ : ∃ j c, j < 6 ∧ c < 4 ∧ i = 1 + j * 4 + c := ⟨(i - 1) / 4, (i - 1) % 4, by omega, by omega, by omega⟩
      rw [reqA_at nm _ j c hj hc]
      by_cases h1 : j < l.length
      · have hg : l.getD j (0, 0, 0, 0) = l[j]! := by rw [getElem!_pos l j h1, List.getD_eq_getElem?_getD, List.getElem?_eq_getElem h1]; rfl
        rw [hg, heads_at hh j c h1 hc]
      · have hg : l.getD j (0, 0, 0, 0) = (0, 0, 0, 0) := by rw [List.getD_eq_getElem?_getD, List.getElem?_eq_none (by omega)]; rfl
        rw [hg, enc_zero c hc]
        by_cases h2 : j < n
        · exact hz j c (by omega) h2 hc
        · rw [hT.2 _ (.inr (by omega)), hW1, reqN_at nm j c hj hc]
theorem clear_none (A : Option Addr) (c : Nat) (w : World) (ty : TypeId) : (Builtin.clear_ #[55] ty #[.slice A 0 c]).run Tryz.prog w = .ok (.tuple #[]) w := by
  cases A <;> simp [Builtin.clear_, run_underlying Tryz.underlying55]
theorem builtRq (nm : ByteArray) : Tryz.prog.built 228 [(0, .string nm)] = some (reqN nm) := by kernel_rfl
theorem wp_buildRq {ops : Array Oper} {rest : List Oper} {o : Oper} {a : Act} {w : World} {Q : Exit → Act → World → Prop} (hg : o.guard = none) (x : Operand) (ho : o.op = .build 228 #[(0, x)]) {nm : ByteArray} (hx : a.eval x = .string nm)
    (h : wpList Tryz.prog ops Q rest (a.put o.dst (.agg (reqN nm))) w) : wpList Tryz.prog ops Q (o :: rest) a w := by
  have hb : Tryz.prog.built 228 ((#[(0, x)] : Array (Nat × Operand)).map fun (i, x) => (i, a.eval x)).toList = some (reqN nm) := by
    have h0 : ((#[(0, x)] : Array (Nat × Operand)).map fun (i, x) => (i, a.eval x)).toList = [(0, .string nm)] := by simp [hx]
    rw [h0]
    exact builtRq nm
  refine wpList_build hg _ _ ho (by rw [hb]; rfl) ?_
  rw [hb]
  exact h
theorem reqN_one (nm : ByteArray) : (reqN nm).all (·.oneCell') = true := by simp [reqN, Value.oneCell']
theorem reqA_one (nm : ByteArray) (g : Nat → CV) : (reqA nm g).all (·.oneCell') = true := by simp [reqA, Value.oneCell']
theorem reqN_cell (nm : ByteArray) (j : Nat) (h : j < 25) : ∃ v, (reqN nm)[j]? = some v := ⟨(reqN nm)[j]'h, Array.getElem?_eq_getElem _⟩
set_option maxRecDepth 100000 in
set_option maxHeartbeats 16000000 in
theorem requestOf_any (nm : ByteArray) (k u : Int) (A : Option Addr) (n c : Nat) (C : Nat → CD) (w : World) (h6 : n ≤ 6) (hnc : n ≤ c) (hC : ConA w A n C) :
    Calls Tryz.prog 150 #[.agg #[.string nm, .int .i64 k, .int .i64 u, .slice A n c]] w fun e w' => e = .returned (.agg (reqA nm (padC (srt ((List.range n).map C))))) ∧ Below w.heap.size w w' := by
  obtain ⟨B, hBs⟩ : ∃ B, w.heap.size = B := ⟨_, rfl⟩
  obtain ⟨W0, hW0⟩ : ∃ W, (w.alloc (.cells #[.string nm, .int .i64 k, .int .i64 u, .slice A n c] 57)).alloc (.cells (reqN ⟨#[]⟩) 228) = W := ⟨_, rfl⟩
  have hs0 : W0.heap.size = B + 2 := by rw [← hW0, ← hBs]; simp
  have hb0 : Below B w W0 := by rw [← hW0, ← hBs]; exact ((Below.refl _ _).alloc (Nat.le_refl _) _).alloc (by simp) _
  have hr0 : RowC W0 B #[.string nm, .int .i64 k, .int .i64 u, .slice A n c] 57 := by rw [← hW0, ← hBs]; exact (RowC.new _ _ _ _ rfl).alloc _
  have hz0 : RowC W0 (B + 1) (reqN ⟨#[]⟩) 228 := by rw [← hW0, ← hBs]; exact RowC.new _ _ _ _ (by simp)
  have ho0 : RowC (W0.alloc (.cells (reqN ⟨#[]⟩) 228)) (B + 2) (reqN ⟨#[]⟩) 228 := RowC.new _ _ _ _ hs0.symm
  obtain ⟨W1, hW1⟩ : ∃ W, (W0.alloc (.cells (reqN ⟨#[]⟩) 228)).setRow (B + 2) (reqN nm) = W := ⟨_, rfl⟩
  have hb1 : Below B w W1 := by rw [← hW1]; exact below_setRow (hb0.alloc (by rw [hs0]; omega) _) (by omega) _
  have hr1 : RowC W1 B #[.string nm, .int .i64 k, .int .i64 u, .slice A n c] 57 := by rw [← hW1]; exact (hr0.alloc _).setRow _ (by omega)
  have hz1 : RowC W1 (B + 1) (reqN ⟨#[]⟩) 228 := by rw [← hW1]; exact (hz0.alloc _).setRow _ (by omega)
  have ho1 : RowC W1 (B + 2) (reqN nm) 228 := by rw [← hW1]; exact setRow_heap _ _ _ _ _ _ ho0
  have hcc : ∀ j, j < n * 4 → (W1.cell? ⟨B + 2, 1 + j, none⟩).isSome = true := fun j hj => by
    obtain ⟨v, hv⟩ := reqN_cell nm (1 + j) (by omega)
    rw [ho1.cell (1 + j) v hv]; rfl
  have hcf : ∀ j, j < n * 4 → W1.frozen? ⟨B + 2, 1 + j, none⟩ = false := fun j hj => ho1.frozen (1 + j)
  obtain ⟨cs, hcs⟩ : ∃ cs, (flatK encC 4 ((List.range n).map fun i => cvOf (C i)).toArray).toList = cs := ⟨_, rfl⟩
  obtain ⟨W2, hW2⟩ : ∃ W, W1.drew.setCells (B + 2) 1 cs = W := ⟨_, rfl⟩
  have hclen : cs.length = n * 4 := by rw [← hcs]; simp
  have hb2 : Below (B + 2) W1 W2 := by rw [← hW2]; exact below_setCellsC (Nat.le_refl _) _ _ _ (Below.refl _ _).drew
  have hr2 : RowC W2 B #[.string nm, .int .i64 k, .int .i64 u, .slice A n c] 57 := hr1.below hb2 (by omega)
  have hz2 : RowC W2 (B + 1) (reqN ⟨#[]⟩) 228 := hz1.below hb2 (by omega)
  have ht2 : TyO W1 (B + 2) 1 (1 + n * 4) 228 25 W2 := by rw [← hW2]; exact TyO.sets (wr := W1.drew) (show TyO W1 (B + 2) 1 (1 + n * 4) 228 25 W1.drew from TyO.start ⟨_, ho1, rfl⟩) cs 1 (by omega)
  have hH2 : HoldsK encC 4 W2 (B + 2) 1 ((List.range n).map fun i => cvOf (C i)).toArray := by
    rw [← hW2, ← hcs]
    exact holds_copied (w := W1.drew) (fun j hj => hcc j (by simpa using hj)) (fun j hj => hcf j (by simpa using hj))
  have HC1 := Lib.hid (hC.below hb1 (Nat.le_of_eq hBs))
  have HO0 := Lib.hid ho0
  have HW1x : Hid ((W0.alloc (.cells #[.string ⟨#[]⟩, .int .i64 0, .int .i64 0, .int .u64 0, .int .u64 0, .int .i64 0, .int .i64 0, .int .u64 0, .int .u64 0, .int .i64 0, .int .i64 0, .int .u64 0, .int .u64 0, .int .i64 0, .int .i64 0, .int .u64 0, .int .u64 0, .int .i64 0, .int .i64 0, .int .u64 0, .int .u64 0, .int .i64 0, .int .i64 0, .int .u64 0, .int .u64 0] 228)).setRow (B + 2) (reqN nm) = W1) := Lib.hid hW1
  have HW0 := Lib.hid hW0
  have HW1 := Lib.hid hW1
  have HW2 := Lib.hid hW2
  have HB1 := Lib.hid hb1
  have hb1x : Hid (Below B w W1) := Lib.hid hb1
  have HB2 := Lib.hid hb2
  have HR1 := Lib.hid hr1
  have HR2 := Lib.hid hr2
  have HZ2 := Lib.hid hz2
  have HZ1 := Lib.hid hz1
  have HO1 := Lib.hid ho1
  have HT2 := Lib.hid ht2
  have HH2 := Lib.hid hH2
  have HBS := Lib.hid hBs
  have HNC := Lib.hid hnc
  have HCC := Lib.hid hcc
  have HCF := Lib.hid hcf
  have HCS := Lib.hid hcs
  have p0 := hr0.cell 0 (.string nm) rfl
  have p0a := fun o => (hr0.alloc o).cell 0 (.string nm) rfl
  have i0 : (0 : Int) ≤ (n : Int) := by omega
  have i6 : (n : Int) ≤ 6 := by omega
  unfold reqN at hW0
  clear hb0 hr0 hz0 ho0 hW1 hW2 hC hnc hb1 hr1 hz1 ho1 hcc hcf hcs hclen hb2 hr2 hz2 ht2 hH2
  go_enter Tryz.func150, Tryz.ntmps150
  go_upto_region 1 with fail
  (try rw [hW0])
  clear hW0
  go_upto_region 2 with (first | (refine wp_buildRq (by rfl) _ (by rfl) (nm := nm) (by rfl) ?_) | refine wpList_store_row (by rfl) 228 _ _ (by rfl) (B + 2) (reqN nm) (by rfl) (by rfl) _ _ HO0.out infoRq (by rfl) (reqN_one nm) ?_)
  clear p0 p0a
  rw [HW1x.out]
  clear hs0
  have p3 := HR1.out.cell 3 (.slice A n c) rfl
  have HP2 := Lib.hid (HR2.out.cell 3 (.slice A n c) rfl)
  have HW2x : Hid (W1.drew.setCells (B + 2) 1 (flatK encC 4 ((List.range n).map fun i => cvOf (C i)).toArray).toList = W2) := Lib.hid (by rw [HCS.out]; exact HW2.out)
  go_region_held3 (fun w' => w'.cell? ⟨B, 3, none⟩ = some (.slice A n c))
    (first | assumption | exact HP2.out)
    (first | (refine step_copyC (by rfl) _ _ (by rfl) (O := B + 2) (off := 1) (m := 6) (n := n) (C := C) (by rfl) (by rfl) h6 HC1.out HCC.out HCF.out ?_; rw [HW2x.out]))
  obtain ⟨M, hM⟩ : ∃ M, (List.range n).map C = M := ⟨_, rfl⟩
  have hMl : M.length = n := by rw [← hM]; simp
  have hMd : ((List.range n).map fun i => cvOf (C i)).toArray = (M.map cvOf).toArray := by rw [← hM, List.map_map]; rfl
  have hH2 := HH2.out
  rw [hMd] at hH2
  have hsz : (M.map cvOf).toArray.size = n := by simp [hMl]
  have HSRT := Lib.hid (sortV_any (B + 2) 1 6 (M.map cvOf).toArray W2 hH2 HT2.out.1.ty.lt (by rw [hsz]; omega))
  rw [hsz] at HSRT
  have HHM := Lib.hid hH2
  have HSZ := Lib.hid hsz
  have HM := Lib.hid hM
  clear hMd hH2 hsz hM hMl p3
  go_wp2_with fail
  refine HSRT.out.mono ?_
  rintro e w3 ⟨rfl, d', m', os, hperm, hsort, hw3⟩
  have hds : d'.size = n := hperm.1.trans HSZ.out
  have HY := Lib.hid (show PermIn 0 d'.size (M.map cvOf).toArray d' ∧ SortedIn (ltOf cfC) 0 d'.size d' from by rw [hds]; exact ⟨hperm, hsort⟩)
  have hH3 : HoldsK encC 4 w3 (B + 2) 1 d' := by rw [hw3]; exact holdsK_sortWorldK_c encC 4 W2 (B + 2) 1 _ d' m' os HHM.out HT2.out.1.ty.lt (by rw [hds, HSZ.out])
  have hB3 : Below (B + 2) W2 w3 := by rw [hw3]; exact below_sorted W2 (B + 2) 1 m' d' os HT2.out.1.ty.lt
  have hT3 : TyO W2 (B + 2) 1 (1 + n * 4) 228 25 w3 := by rw [hw3]; exact ⟨HT2.out.1.sorted 1 m' d' os, fun i hi => sorted_out W2 (B + 2) 1 m' d' os HT2.out.1.ty.lt i (by rw [hds]; exact hi)⟩
  have HCMP := Lib.hid (compactW_any (B + 2) 1 6 d' w3 hH3 hT3.1.ty.lt (by omega) (by omega) (by decide) _ 25 hT3.1)
  have hcs2 := compact_srt M d' HY.out.1 HY.out.2
  rw [hcs2, hds, List.length_map] at HCMP
  have HB3 := Lib.hid hB3
  have HT3 := Lib.hid hT3
  clear hds hperm hsort hw3 hH3 hB3 hT3 hcs2 HSRT
  go_wp2_with fail
  refine HCMP.out.mono ?_
  rintro e w4 ⟨rfl, hB4, hT4, hh4⟩
  obtain ⟨l, hl⟩ : ∃ l, srt M = l := ⟨_, rfl⟩
  rw [hl] at hh4
  have hln : l.length ≤ n := by rw [← hl]; have := srt_len M; rw [show M.length = n by rw [← HM.out]; simp] at this; exact this
  obtain ⟨m, hm⟩ : ∃ m, l.length = m := ⟨_, rfl⟩
  rw [hm] at hln
  rw [hl, hm]
  have hT14 : TyO W1 (B + 2) 1 (1 + n * 4) 228 25 w4 := (HT2.out.trans HT3.out).trans hT4
  have hB14 : Below (B + 2) W1 w4 := (HB2.out.trans HB3.out).trans hB4
  have hll : (l.map cvOf).length = m := by rw [List.length_map, hm]
  -- what lies behind clear
  obtain ⟨W5, hW5, hB5, hrow5⟩ : ∃ W5, (∀ A ty, A = some (⟨B + 2, 1 + m * 4, none⟩ : Addr) ∨ n - m = 0 → (Builtin.clear_ #[55] ty #[.slice A (n - m) (6 - m)]).run Tryz.prog w4 = .ok (.tuple #[]) W5) ∧ Below (B + 2) W1 W5 ∧ ∃ fr, W5.heap[B + 2]? = some (.cells (reqA nm (padC l)) 228 fr) := by
    by_cases hmn : n - m = 0
    · refine ⟨w4, fun A ty _ => by rw [hmn]; exact clear_none A _ w4 ty, hB14, ?_⟩
      exact req_row HO1.out hT14 h6 (by omega) hh4 (fun j c h1 h2 _ => by omega)
    · have hcell : ∀ j, j < (n - m) * 4 → (w4.cell? ⟨B + 2, 1 + m * 4 + j, none⟩).isSome = true ∧ w4.frozen? ⟨B + 2, 1 + m * 4 + j, none⟩ = false := fun j hj => ⟨hT14.1.is _ (by omega), hT14.1.frozen _⟩
      refine ⟨w4.setCells (B + 2) (1 + m * 4) (Builtin.zeroCells zN (n - m)).toList, fun A ty h => ?_, below_setCellsC (Nat.le_refl _) _ _ _ hB14, ?_⟩
      · obtain rfl : A = some (⟨B + 2, 1 + m * 4, none⟩ : Addr) := h.resolve_right hmn
        exact clearW (B + 2) (1 + m * 4) (n - m) (6 - m) w4 ty (by omega) hcell
      · refine req_row HO1.out (hT14.sets _ _ (by rw [zeros_len]; omega)) h6 (by omega) ?_ ?_
        · intro j hj
          rw [hll] at hj
          have h4 := hh4 j (by omega)
          have ho : ∀ c, c < 4 → (w4.setCells (B + 2) (1 + m * 4) (Builtin.zeroCells zN (n - m)).toList).cell? ⟨B + 2, 1 + j * 4 + c, none⟩ = w4.cell? ⟨B + 2, 1 + j * 4 + c, none⟩ := fun c hc => World.cell?_setCells_out (B + 2) _ _ w4 _ (fun _ _ => .inl (by show 1 + j * 4 + c < 1 + m * 4; omega))
          exact ⟨(ho 0 (by decide)).trans h4.1, (ho 1 (by decide)).trans h4.2.1, (ho 2 (by decide)).trans h4.2.2.1, (ho 3 (by decide)).trans h4.2.2.2⟩
        · intro j c h1 h2 hc
          rw [hll] at h1
          have hx := World.cell?_setCells_in (B + 2) (Builtin.zeroCells zN (n - m)).toList (1 + m * 4) w4 (fun q hq => (hcell q (by rw [zeros_len] at hq; exact hq)).1) ((j - m) * 4 + c) (by rw [zeros_len]; omega)
          rw [zeros_at (n - m) (j - m) c (by omega) hc] at hx
          rw [← hx]
          congr 2
          omega
  obtain ⟨fr, hrow5⟩ := hrow5
  have HR5 := Lib.hid hrow5
  have HZ5 := Lib.hid (HZ1.out.below hB5 (by omega))
  have hB5w := hb1x.out.trans (hB5.mono (by omega : B ≤ B + 2))
  have HB5 := Lib.hid hB5w
  have HL := Lib.hid hl
  have HWC := Lib.hid hW5
  have hmle : m ≤ 6 := by omega
  clear hrow5 hB5 hB5w hB4 hT4 hh4 hl hm hT14 hB14 hll hW5 HCMP
  by_cases h66 : m = 6
  · have hn6 : n = 6 := by omega
    subst h66 hn6
    have hWc := fun A ty => HWC.out A ty (.inr rfl)
    simp only [Nat.sub_self] at hWc
    go_wp2_with (first
      | (refine wpList_load_row (by rfl) 228 _ (by rfl) (B + 2) (by rfl) _ (reqA nm (padC l)) fr _ HR5.out Tryz.underlying228 (by rfl) infoRq ?_)
      | (refine wpList_store_row (by rfl) 228 _ _ (by rfl) (B + 1) (reqA nm (padC l)) (by rfl) (by rfl) _ _ HZ5.out infoRq (by rfl) (reqA_one nm _) ?_))
    exact bodyPost_ret (results_cell_row Tryz.results150 _ _ (B + 1) _ _ (0, 0) _ (by rfl) (setRow_heap _ _ _ _ _ _ HZ5.out) Tryz.underlying228 (by rfl) infoRq) rfl ⟨by rw [HM.out, HL.out], by rw [HBS.out]; exact below_setRow HB5.out (Nat.le_succ _) _⟩
  · have hWc := fun ty => HWC.out _ ty (.inl rfl)
    have h7 : ¬ (6 : Nat) = m := fun h => h66 h.symm
    have g1 : (0 : Int) ≤ (m : Int) := by omega
    have g2 : (m : Int) ≤ (n : Int) := by omega
    have g3 : (m : Int) ≤ 6 := by omega
    go_wp2_with (first
      | (refine wpList_load_row (by rfl) 228 _ (by rfl) (B + 2) (by rfl) _ (reqA nm (padC l)) fr _ HR5.out Tryz.underlying228 (by rfl) infoRq ?_)
      | (refine wpList_store_row (by rfl) 228 _ _ (by rfl) (B + 1) (reqA nm (padC l)) (by rfl) (by rfl) _ _ HZ5.out infoRq (by rfl) (reqA_one nm _) ?_))
    exact bodyPost_ret (results_cell_row Tryz.results150 _ _ (B + 1) _ _ (0, 0) _ (by rfl) (setRow_heap _ _ _ _ _ _ HZ5.out) Tryz.underlying228 (by rfl) infoRq) rfl ⟨by rw [HM.out, HL.out], by rw [HBS.out]; exact below_setRow HB5.out (Nat.le_succ _) _⟩
end Go.Proofs.YtcmdmnnkbliggaaGreatDoor

/-
  Layer 15: a set of requests as a map has it.
-/
namespace Go.Proofs.YtcmdmnnkbliggaaGreatDoor
open Go.RowKit Go.Shelf Go.Lib Go.Sort
set_option linter.unusedVariables false

theorem lawQ : WideMaps.KeyLaw Tryz.prog 228 := deep_law (m := 4) (by decide) (by kernel_rfl) (by kernel_rfl) (by kernel_rfl)
/-- What a condition's fields are good for. -/
def WfC (x : CV) : Prop := (Lit.int .i64 x.1).wf = true ∧ (Lit.int .i64 x.2.1).wf = true ∧ (Lit.int .u64 x.2.2.1).wf = true ∧ (Lit.int .u64 x.2.2.2).wf = true
theorem cellsC : Tryz.prog.cellsOf 61 = 4 := by kernel_rfl
theorem cellsI : Tryz.prog.cellsOf 3 = 1 := by kernel_rfl
theorem cellsU : Tryz.prog.cellsOf 59 = 1 := by kernel_rfl
theorem cellsS : Tryz.prog.cellsOf 9 = 1 := by kernel_rfl
theorem cells6 : Tryz.prog.cellsOf 226 = 24 := by kernel_rfl
theorem cellsQ : Tryz.prog.cellsOf 228 = 25 := by kernel_rfl
theorem kl_arr {d n : Nat} {t e : TypeId} {cs : List Value} (hu : Tryz.prog.underlying t = some (.array n e)) : Tryz.prog.keyLits (d + 1) t cs = if cs.length = Tryz.prog.cellsOf t then ((List.range n).mapM fun i => Tryz.prog.keyLits d e ((cs.drop (i * Tryz.prog.cellsOf e)).take (Tryz.prog.cellsOf e))).map List.flatten else none := by
  simp only [Program.keyLits, hu]
theorem kl_struct {d : Nat} {t : TypeId} {fs : Array Field} {cs : List Value} (hu : Tryz.prog.underlying t = some (.struct fs)) : Tryz.prog.keyLits (d + 1) t cs = if cs.length = Tryz.prog.cellsOf t ∧ fs.all (·.name != "_") = true then (fs.toList.mapM fun f => Tryz.prog.keyLits d f.type ((cs.drop f.offset).take (Tryz.prog.cellsOf f.type))).map List.flatten else none := by
  simp only [Program.keyLits, hu]
theorem kl_int (d : Nat) (x : Int) (h : (Lit.int .i64 x).wf = true) : Tryz.prog.keyLits (d + 1) 3 [.int .i64 x] = some [.int .i64 x] := by
  simp [Program.keyLits, Tryz.underlying3, h]
theorem kl_u64 (d : Nat) (x : Int) (h : (Lit.int .u64 x).wf = true) : Tryz.prog.keyLits (d + 1) 59 [.int .u64 x] = some [.int .u64 x] := by
  simp [Program.keyLits, Tryz.underlying59, h]
theorem kl_str (d : Nat) (s : ByteArray) (h : s.size ≤ maxLen) : Tryz.prog.keyLits (d + 1) 9 [.string s] = some [.string s.data.toList] := by
  simp [Program.keyLits, Tryz.underlying9, h]
theorem kl_cond (d : Nat) (x : CV) (h : WfC x) : Tryz.prog.keyLits (d + 2) 61 (encC x) = some [.int .i64 x.1, .int .i64 x.2.1, .int .u64 x.2.2.1, .int .u64 x.2.2.2] := by
  have h1 := kl_int d x.1 h.1
  have h2 := kl_int d x.2.1 h.2.1
  have h3 := kl_u64 d x.2.2.1 h.2.2.1
  have h4 := kl_u64 d x.2.2.2 h.2.2.2
  rw [show d + 2 = (d + 1) + 1 from rfl, kl_struct Tryz.underlying61]
  simp [encC, cellsC, cellsI, cellsU, h1, h2, h3, h4]
theorem kl_six (d : Nat) (g : Nat → CV) (h : ∀ j, j < 6 → WfC (g j)) : ∃ l, Tryz.prog.keyLits (d + 3) 226 (encC (g 0) ++ encC (g 1) ++ encC (g 2) ++ encC (g 3) ++ encC (g 4) ++ encC (g 5)) = some l := by
  have h0 := kl_cond d (g 0) (h 0 (by decide))
  have h1 := kl_cond d (g 1) (h 1 (by decide))
  have h2 := kl_cond d (g 2) (h 2 (by decide))
  have h3 := kl_cond d (g 3) (h 3 (by decide))
  have h4 := kl_cond d (g 4) (h 4 (by decide))
  have h5 := kl_cond d (g 5) (h 5 (by decide))
  unfold encC at *
  rw [show d + 3 = (d + 2) + 1 from rfl, kl_arr Tryz.underlying226]
  simp [cells6, cellsC, List.range_succ, h0, h1, h2, h3, h4, h5]
theorem reqA_list (nm : ByteArray) (g : Nat → CV) : (reqA nm g).toList = .string nm :: (encC (g 0) ++ encC (g 1) ++ encC (g 2) ++ encC (g 3) ++ encC (g 4) ++ encC (g 5)) := rfl
theorem kl_req (d : Nat) (nm : ByteArray) (g : Nat → CV) (hs : nm.size ≤ maxLen) (h : ∀ j, j < 6 → WfC (g j)) : ∃ l, Tryz.prog.keyLits (d + 4) 228 (reqA nm g).toList = some l := by
  obtain ⟨l, hl⟩ := kl_six d g h
  have h1 := kl_str (d + 2) nm hs
  rw [reqA_list]
  have hlen : (encC (g 0) ++ encC (g 1) ++ encC (g 2) ++ encC (g 3) ++ encC (g 4) ++ encC (g 5)).length = 24 := rfl
  generalize encC (g 0) ++ encC (g 1) ++ encC (g 2) ++ encC (g 3) ++ encC (g 4) ++ encC (g 5) = cs at *
  rw [show d + 4 = (d + 3) + 1 from rfl, kl_struct Tryz.underlying228]
  simp [cellsQ, cells6, cellsS, hlen, h1, hl, List.take_of_length_le (Nat.le_of_eq hlen)]
/-- A request is a key. -/
theorem key_req (nm : ByteArray) (g : Nat → CV) (hs : nm.size ≤ maxLen) (h : ∀ j, j < 6 → WfC (g j)) : ∃ l, keyOf Tryz.prog 228 (.agg (reqA nm g)) = some l := by
  have h3 : 3 ≤ Tryz.prog.types.size := Nat.le_of_ble_eq_true (by kernel_rfl)
  obtain ⟨d, hd⟩ : ∃ d, Tryz.prog.types.size + 1 = d + 4 := ⟨Tryz.prog.types.size - 3, by omega⟩
  obtain ⟨l, hl⟩ := kl_req d nm g hs h
  have hk : Tryz.prog.keyType 228 = true := by kernel_rfl
  have hc : (reqA nm g).size = 25 := rfl
  refine ⟨.string (keyBytes l), ?_⟩
  unfold keyOf
  simp only [Tryz.underlying228]
  rw [if_pos (by simp [hk, Value.formed, Tryz.underlying228, cellsQ, hc]), show (Value.agg (reqA nm g)).cells = reqA nm g from rfl, hd, hl]
  rfl
/-- A map's block as a set of requests. -/
def IsReq (w : World) (b : Nat) (S : List Value) : Prop :=
  ∃ es clock, w.heap[b]? = some (.map es clock) ∧ es.toList.map (fun e => (e.key, e.val)) = S.map (fun v => (v, Value.agg #[])) ∧ ∀ v ∈ S, ∃ l, keyOf Tryz.prog 228 v = some l
theorem findQ {es : List MapEntry} {S : List Value} (h : es.map (fun e => (e.key, e.val)) = S.map (fun v => (v, Value.agg #[]))) (hS : ∀ v ∈ S, ∃ l, keyOf Tryz.prog 228 v = some l) {x : Value} {lx : Lit} (hx : keyOf Tryz.prog 228 x = some lx) (w : World) :
    (x ∉ S ∧ (Instr.findKey 228 x es).run Tryz.prog w = .ok none w) ∨ (x ∈ S ∧ ∃ j, (Instr.findKey 228 x es).run Tryz.prog w = .ok (some (j, .agg #[])) w) := by
  have hmem : ∀ e ∈ es, e.key ∈ S ∧ e.val = .agg #[] := fun e he => by
    have h1 : (e.key, e.val) ∈ S.map (fun v => (v, Value.agg #[])) := by rw [← h]; exact List.mem_map.2 ⟨e, he, rfl⟩
    obtain ⟨v, hv, e1⟩ := List.mem_map.1 h1
    obtain ⟨e2, e3⟩ := Prod.mk.inj e1
    exact ⟨by rw [← e2]; exact hv, e3.symm⟩
  rcases lawQ.find w hx es (fun e he => hS _ (hmem e he).1) with ⟨h1, h2⟩ | ⟨j, e, h1, h2, h3⟩
  · left
    refine ⟨fun hin => ?_, h1⟩
    have h4 : (x, Value.agg #[]) ∈ es.map (fun e => (e.key, e.val)) := by rw [h]; exact List.mem_map.2 ⟨x, hin, rfl⟩
    obtain ⟨e, he, e1⟩ := List.mem_map.1 h4
    exact h2 e he (Prod.mk.inj e1).1
  · right
    have he := List.mem_of_getElem? h2
    obtain ⟨m1, m2⟩ := hmem e he
    rw [h3] at m1
    rw [m2] at h1
    exact ⟨m1, j, h1⟩
theorem IsReq.new (w : World) : IsReq (w.alloc (.map #[] 0)) w.heap.size [] := ⟨#[], 0, (MapKept.heap_alloc w _).1, rfl, fun _ h => by cases h⟩
theorem IsReq.of_block {w w' : World} {b : Nat} {S : List Value} (h : IsReq w b S) (hb : w'.heap[b]? = w.heap[b]?) : IsReq w' b S := by
  obtain ⟨es, c, h1, h2, h3⟩ := h
  exact ⟨es, c, hb.trans h1, h2, h3⟩
theorem IsReq.lt {w : World} {b : Nat} {S : List Value} (h : IsReq w b S) : b < w.heap.size := by
  obtain ⟨es, c, h1, h2⟩ := h
  exact (Array.getElem?_eq_some_iff.1 h1).1
theorem IsReq.below {w w' : World} {b B : Nat} {S : List Value} (h : IsReq w b S) (hB : Below B w w') (hb : b < B) : IsReq w' b S := h.of_block (hB.block b hb)
theorem IsReq.look {w : World} {b : Nat} {S : List Value} (h : IsReq w b S) {x : Value} {lx : Lit} (hx : keyOf Tryz.prog 228 x = some lx) (q : Bool) (hq : q = true ↔ x ∈ S) : (Instr.lookup 181 (.map (some b)) x true).run Tryz.prog w = .ok (.tuple #[.agg #[], .bool q]) w := by
  obtain ⟨es, clock, hb, he, hS⟩ := h
  have hc := lawQ.check w es.isEmpty hx
  have hz : (zeroValue 231).run Tryz.prog w = .ok (.agg #[]) w := by
    exact (zero_of_info (n := 0) (by kernel_rfl)).1 w
  rcases findQ he hS hx w with ⟨h1, h2⟩ | ⟨h1, j, h2⟩
  · have hq0 : q = false := by cases q; rfl; exact absurd (hq.1 rfl) h1
    subst hq0
    simp [Instr.lookup, run_underlying Tryz.underlying181, MapKept.run_getObj_map hb, hc, h2, hz, Result.andThen]
  · have hq1 : q = true := hq.2 h1
    subst hq1
    simp [Instr.lookup, run_underlying Tryz.underlying181, MapKept.run_getObj_map hb, hc, h2, Result.andThen]
theorem IsReq.insert {w : World} {b : Nat} {S : List Value} (h : IsReq w b S) {x : Value} {lx : Lit} (hx : keyOf Tryz.prog 228 x = some lx) (hn : x ∉ S) :
    ∃ w', (Instr.mapUpdate 181 (.map (some b)) x (.agg #[])).run Tryz.prog w = .ok () w' ∧ IsReq w' b (S ++ [x]) ∧ w.grownBy w' (some b) := by
  obtain ⟨es, clock, hb, he, hS⟩ := h
  have hc := lawQ.check w false hx
  have hlt : b < w.heap.size := (Array.getElem?_eq_some_iff.1 hb).1
  rcases findQ he hS hx w with ⟨h1, hf⟩ | ⟨h1, _⟩
  · refine ⟨{ w with heap := w.heap.setIfInBounds b (.map (es.push { key := x, val := .agg #[], born := clock }) (clock + 1)) }, ?_, ⟨es.push { key := x, val := .agg #[], born := clock }, clock + 1, ?_, ?_, fun v hv => ?_⟩, ⟨rfl, rfl, rfl, by simp, fun i _ hi => ?_⟩⟩
    · simp [Instr.mapUpdate, run_underlying Tryz.underlying181, MapKept.run_getObj_map hb, hc, hf, MapKept.run_setObj_map _ hb, Result.andThen]
    · simp [hlt]
    · simp [he]
    · rcases List.mem_append.1 hv with hv | hv
      · exact hS v hv
      · rw [List.mem_singleton] at hv
        exact ⟨lx, by rw [hv]; exact hx⟩
    · have hne : b ≠ i := fun e => hi (by rw [e])
      simp [hne]
  · exact absurd h1 hn
end Go.Proofs.YtcmdmnnkbliggaaGreatDoor

/-
  Layer 15: meet: what a rule asks for, put to what was met.
-/
namespace Go.Proofs.YtcmdmnnkbliggaaGreatDoor
open Go.RowKit Go.Shelf Go.Lib Go.Sort
set_option linter.unusedVariables false

theorem built2 (nm : ByteArray) (g : Nat → CV) : Tryz.prog.built 230 [(0, .agg (reqN nm)), (1, .agg (reqA nm g))] = some (reqN nm ++ reqA nm g) := by kernel_rfl
theorem wp_build2 {ops : Array Oper} {rest : List Oper} {o : Oper} {a : Act} {w : World} {Q : Exit → Act → World → Prop} (hg : o.guard = none) (x y : Operand) (ho : o.op = .build 230 #[(0, x), (1, y)]) {nm : ByteArray} {g : Nat → CV} (hx : a.eval x = .agg (reqN nm)) (hy : a.eval y = .agg (reqA nm g))
    (h : wpList Tryz.prog ops Q rest (a.put o.dst (.agg (reqN nm ++ reqA nm g))) w) : wpList Tryz.prog ops Q (o :: rest) a w := by
  have hb : Tryz.prog.built 230 ((#[(0, x), (1, y)] : Array (Nat × Operand)).map fun (i, x) => (i, a.eval x)).toList = some (reqN nm ++ reqA nm g) := by
    have h0 : ((#[(0, x), (1, y)] : Array (Nat × Operand)).map fun (i, x) => (i, a.eval x)).toList = [(0, .agg (reqN nm)), (1, .agg (reqA nm g))] := by simp [hx, hy]
    rw [h0]
    exact built2 nm g
  refine wpList_build hg _ _ ho (by rw [hb]; rfl) ?_
  rw [hb]
  exact h
theorem ixX0 (X Y : Array Value) (hX : X.size = 25) (hY : Y.size = 25) (W : World) : (Instr.index 230 (.agg (X ++ Y)) (.int .i64 0)).run Tryz.prog W = .ok (.agg X) W := by
  have hlt : 228 < Tryz.prog.types.size := of_decide_eq_true (by kernel_rfl)
  have hsz : (Tryz.prog.types[228]'hlt).size = 25 := by kernel_rfl
  simp [Instr.index, run_underlying Tryz.underlying230, asIntOf, hX, hY, go_sem]
theorem ixX1 (X Y : Array Value) (hX : X.size = 25) (hY : Y.size = 25) (W : World) : (Instr.index 230 (.agg (X ++ Y)) (.int .i64 1)).run Tryz.prog W = .ok (.agg Y) W := by
  have hlt : 228 < Tryz.prog.types.size := of_decide_eq_true (by kernel_rfl)
  have hsz : (Tryz.prog.types[228]'hlt).size = 25 := by kernel_rfl
  have h5 : Y.extract 0 25 = Y := by rw [← hY]; simp
  simp [Instr.index, run_underlying Tryz.underlying230, asIntOf, hX, h5, go_sem]
theorem wf_zero : WfC (0, 0, 0, 0) := by refine ⟨?_, ?_, ?_, ?_⟩ <;> decide
theorem wf_pad {l : List CD} (h : ∀ c ∈ l, WfC (cvOf c)) (j : Nat) : WfC (padC l j) := by
  unfold padC
  rw [List.getD_eq_getElem?_getD]
  by_cases hj : j < (l.map cvOf).length
  · rw [List.getElem?_eq_getElem hj, List.getElem_map]
    exact h _ (List.getElem_mem _)
  · rw [List.getElem?_eq_none (by omega)]
    exact wf_zero
set_option maxRecDepth 100000 in
set_option maxHeartbeats 16000000 in
theorem meetQ_any (nm : ByteArray) (k u : Int) (A : Option Addr) (n c : Nat) (C : Nat → CD) (b : Nat) (S : List Value) (w : World) (h6 : n ≤ 6) (hnc : n ≤ c) (hC : ConA w A n C) (hnm : nm.size ≤ maxLen) (hwf : ∀ i, i < n → WfC (cvOf (C i))) (hs : IsReq w b S) (g : Nat → CV) (hg : padC (srt ((List.range n).map C)) = g) :
    Calls Tryz.prog 104 #[.agg #[.string nm, .int .i64 k, .int .i64 u, .slice A n c], .map (some b)] w fun e w' => But1 b w w' ∧
      (((.agg (reqN nm) ∈ S ∨ .agg (reqA nm g) ∈ S) ∧ e = .returned (.bool false) ∧ IsReq w' b S) ∨ ((.agg (reqN nm) ∉ S ∧ .agg (reqA nm g) ∉ S) ∧ e = .returned (.bool true) ∧ IsReq w' b (S ++ [.agg (reqA nm g)]))) := by
  have hblt := hs.lt
  obtain ⟨B, hBs⟩ : ∃ B, w.heap.size = B := ⟨_, rfl⟩
  obtain ⟨W0, hW0⟩ : ∃ W, w.alloc (.cells #[.string nm, .int .i64 k, .int .i64 u, .slice A n c] 57) = W := ⟨_, rfl⟩
  have hb0 : Below B w W0 := by rw [← hW0, ← hBs]; exact (Below.refl _ _).alloc (Nat.le_refl _) _
  have hr0 : RowC W0 B #[.string nm, .int .i64 k, .int .i64 u, .slice A n c] 57 := by rw [← hW0, ← hBs]; exact RowC.new _ _ _ _ rfl
  have hrq := requestOf_any nm k u A n c C W0 h6 hnc (hC.below hb0 (Nat.le_of_eq hBs))
  rw [hg] at hrq
  obtain ⟨lo, hlo⟩ := key_req nm g hnm (fun j _ => by
    rw [← hg]
    refine wf_pad (fun c hc => ?_) j
    rw [mem_srt] at hc
    obtain ⟨i, hi, rfl⟩ := List.mem_map.1 hc
    exact hwf i (List.mem_range.1 hi))
  obtain ⟨ln, hln⟩ := key_req nm (padC []) hnm (fun j _ => wf_pad (fun _ h => by cases h) j)
  rw [← reqN_eq] at hln
  have HRQ := Lib.hid hrq
  have HLO := Lib.hid hlo
  have HLN := Lib.hid hln
  have HB0 := Lib.hid hb0
  have HR0 := Lib.hid hr0
  have HS0 := Lib.hid (hs.below hb0 (by omega))
  have HBS := Lib.hid hBs
  have HBL := Lib.hid (show b < B by omega)
  have HW0 := Lib.hid hW0
  have p0 := hr0.cell 0 (.string nm) rfl
  have p1 := hr0.cell 1 (.int .i64 k) rfl
  have p2 := hr0.cell 2 (.int .i64 u) rfl
  have p3 := hr0.cell 3 (.slice A n c) rfl
  clear hrq hlo hln hb0 hr0 hs hblt hC hnm hwf hg hnc h6
  go_enter Tryz.func104, Tryz.ntmps104
  go_upto_region 1 with fail
  (try rw [HW0.out])
  clear hW0
  go_wp2_with fail
  refine HRQ.out.mono ?_
  rintro e w1 ⟨rfl, hB1⟩
  obtain ⟨O, hO⟩ : ∃ O, w1.heap.size = O := ⟨_, rfl⟩
  obtain ⟨W2, hW2⟩ : ∃ W, (w1.alloc (.cells (reqN ⟨#[]⟩) 228)).setRow O (reqA nm g) = W := ⟨_, rfl⟩
  have hz1 : RowC (w1.alloc (.cells (reqN ⟨#[]⟩) 228)) O (reqN ⟨#[]⟩) 228 := RowC.new _ _ _ _ hO.symm
  have ho2 : RowC W2 O (reqA nm g) 228 := by rw [← hW2]; exact setRow_heap _ _ _ _ _ _ hz1
  have hB12 : Below w1.heap.size w1 W2 := by rw [← hW2]; exact below_setRow ((Below.refl _ _).alloc (Nat.le_refl _) _) (Nat.le_of_eq hO) _
  have hB02 : Below W0.heap.size W0 W2 := bTr hB1 hB12
  have hr2 : RowC W2 B #[.string nm, .int .i64 k, .int .i64 u, .slice A n c] 57 := HR0.out.below hB02 HR0.out.lt
  have HW2 : Hid ((w1.alloc (.cells #[.string ⟨#[]⟩, .int .i64 0, .int .i64 0, .int .u64 0, .int .u64 0, .int .i64 0, .int .i64 0, .int .u64 0, .int .u64 0, .int .i64 0, .int .i64 0, .int .u64 0, .int .u64 0, .int .i64 0, .int .i64 0, .int .u64 0, .int .u64 0, .int .i64 0, .int .i64 0, .int .u64 0, .int .u64 0, .int .i64 0, .int .i64 0, .int .u64 0, .int .u64 0] 228)).setRow O (reqA nm g) = W2) := Lib.hid hW2
  have HZ1 := Lib.hid hz1
  have HO2 := Lib.hid ho2
  have HR2 := Lib.hid hr2
  have HS2 : Hid (IsReq W2 b S) := Lib.hid (HS0.out.below hB02 HS0.out.lt)
  have HB2 : Hid (Below B w W2) := Lib.hid (HB0.out.trans (hB02.mono (by have := HB0.out.size; rw [HBS.out] at this; exact this)))
  clear hW2 hz1 ho2 hB12 hB02 hr2 hB1 p0 p1 p2 p3 HS0
  go_upto_region 2 with (first | (refine wpList_store_row (by rfl) 228 _ _ (by rfl) O (reqA nm g) (by rfl) (by rfl) _ _ HZ1.out infoRq (by rfl) (reqA_one nm g) ?_))
  (try rw [HW2.out])
  have p0 := HR2.out.cell 0 (.string nm) rfl
  go_wp2_with (first | (refine wp_buildRq (by rfl) _ (by rfl) (nm := nm) (by rfl) ?_) | (refine wp_build2 (by rfl) _ _ (by rfl) (nm := nm) (g := g) (by rfl) (by rfl) ?_) | (refine wpList_load_row (by rfl) 228 _ (by rfl) O (by rfl) _ (reqA nm g) (0, 0) _ HO2.out Tryz.underlying228 (by rfl) infoRq ?_))
  clear p0
  go_loopw [17] (fun s wr => ∃ i : Nat, i ≤ 2 ∧ s = .int .i64 i ∧ Hid ((0 < i → .agg (reqN nm) ∉ S) ∧ (1 < i → .agg (reqA nm g) ∉ S) ∧ IsReq wr b S ∧ RowC wr O (reqA nm g) 228 ∧ Below B w wr))
    (fun s _ => 2 - (intOf s).toNat)
  case atStart => exact ⟨0, by omega, rfl, Lib.hid ⟨fun h => by omega, fun h => by omega, HS2.out, HO2.out, HB2.out⟩⟩
  case round =>
    obtain ⟨i, hi, rfl, HI⟩ := hrel
    have hi3 : i = 0 ∨ i = 1 ∨ i = 2 := by omega
    clear hi
    rcases hi3 with rfl | rfl | rfl
    · obtain ⟨q, hq⟩ : ∃ q : Bool, q = true ↔ Value.agg (reqN nm) ∈ S := by classical exact ⟨decide (Value.agg (reqN nm) ∈ S), by simp⟩
      obtain ⟨H, hH⟩ : ∃ H, wr.heap.size = H := ⟨_, rfl⟩
      obtain ⟨W3, hW3⟩ : ∃ W, (wr.alloc (.cells (reqN ⟨#[]⟩) 228)).setRow H (reqN nm) = W := ⟨_, rfl⟩
      have hz3 : RowC (wr.alloc (.cells (reqN ⟨#[]⟩) 228)) H (reqN ⟨#[]⟩) 228 := RowC.new _ _ _ _ hH.symm
      have ho3 : RowC W3 H (reqN nm) 228 := by rw [← hW3]; exact setRow_heap _ _ _ _ _ _ hz3
      have hB3 : Below wr.heap.size wr W3 := by rw [← hW3]; exact below_setRow ((Below.refl _ _).alloc (Nat.le_refl _) _) (Nat.le_of_eq hH) _
      have hB4 : Below wr.heap.size wr (W3.alloc (.cells #[] 231)) := hB3.alloc hB3.size _
      have hS3 : IsReq W3 b S := HI.out.2.2.1.below hB3 HI.out.2.2.1.lt
      have hlk := hS3.look HLN.out q hq
      have HZ3 := Lib.hid hz3
      have HO3 := Lib.hid ho3
      have HX3 : Hid ((wr.alloc (.cells #[.string ⟨#[]⟩, .int .i64 0, .int .i64 0, .int .u64 0, .int .u64 0, .int .i64 0, .int .i64 0, .int .u64 0, .int .u64 0, .int .i64 0, .int .i64 0, .int .u64 0, .int .u64 0, .int .i64 0, .int .i64 0, .int .u64 0, .int .u64 0, .int .i64 0, .int .i64 0, .int .u64 0, .int .u64 0, .int .i64 0, .int .i64 0, .int .u64 0, .int .u64 0] 228)).setRow H (reqN nm) = W3) := Lib.hid hW3
      have HS4 : Hid (IsReq (W3.alloc (.cells #[] 231)) b S) := Lib.hid (HI.out.2.2.1.below hB4 HI.out.2.2.1.lt)
      have HO4 : Hid (RowC (W3.alloc (.cells #[] 231)) O (reqA nm g) 228) := Lib.hid (HI.out.2.2.2.1.below hB4 HI.out.2.2.2.1.lt)
      have HB4 : Hid (Below B w (W3.alloc (.cells #[] 231))) := Lib.hid (HI.out.2.2.2.2.trans (hB4.mono (by have := HI.out.2.2.2.2.size; rw [HBS.out] at this; exact this)))
      have hix := fun W => ixX0 (reqN nm) (reqA nm g) rfl rfl W
      have HQ := Lib.hid hq
      clear hW3 hz3 ho3 hB3 hB4 hS3 hq
      cases q with
      | true =>
        have HIN : Hid (Value.agg (reqN nm) ∈ S) := Lib.hid (HQ.out.1 rfl)
        clear HQ
        go_wp2_with (first
          | (refine wpList_store_row (by rfl) 228 _ _ (by rfl) H (reqN nm) (by rfl) (by rfl) _ _ HZ3.out infoRq (by rfl) (reqN_one nm) ?_; (try rw [HX3.out]))
          | (refine wpList_load_row (by rfl) 228 _ (by rfl) H (by rfl) _ (reqN nm) (0, 0) _ HO3.out Tryz.underlying228 (by rfl) infoRq ?_))
        go_ret
        exact ⟨But1.of HB4.out (Nat.le_of_eq HBS.out), .inl ⟨.inl HIN.out, rfl, HS4.out⟩⟩
      | false =>
        have HNI : Hid (Value.agg (reqN nm) ∉ S) := Lib.hid (fun h => absurd (HQ.out.2 h) (by decide))
        clear HQ
        go_wp2_with (first
          | (refine wpList_store_row (by rfl) 228 _ _ (by rfl) H (reqN nm) (by rfl) (by rfl) _ _ HZ3.out infoRq (by rfl) (reqN_one nm) ?_; (try rw [HX3.out]))
          | (refine wpList_load_row (by rfl) 228 _ (by rfl) H (by rfl) _ (reqN nm) (0, 0) _ HO3.out Tryz.underlying228 (by rfl) infoRq ?_))
        exact ⟨⟨0 + 1, by omega, by go_num, Lib.hid ⟨fun _ => HNI.out, fun h => by omega, HS4.out, HO4.out, HB4.out⟩⟩, by simp [intOf]⟩
    · obtain ⟨q, hq⟩ : ∃ q : Bool, q = true ↔ Value.agg (reqA nm g) ∈ S := by classical exact ⟨decide (Value.agg (reqA nm g) ∈ S), by simp⟩
      obtain ⟨H, hH⟩ : ∃ H, wr.heap.size = H := ⟨_, rfl⟩
      obtain ⟨W3, hW3⟩ : ∃ W, (wr.alloc (.cells (reqN ⟨#[]⟩) 228)).setRow H (reqA nm g) = W := ⟨_, rfl⟩
      have hz3 : RowC (wr.alloc (.cells (reqN ⟨#[]⟩) 228)) H (reqN ⟨#[]⟩) 228 := RowC.new _ _ _ _ hH.symm
      have ho3 : RowC W3 H (reqA nm g) 228 := by rw [← hW3]; exact setRow_heap _ _ _ _ _ _ hz3
      have hB3 : Below wr.heap.size wr W3 := by rw [← hW3]; exact below_setRow ((Below.refl _ _).alloc (Nat.le_refl _) _) (Nat.le_of_eq hH) _
      have hB4 : Below wr.heap.size wr (W3.alloc (.cells #[] 231)) := hB3.alloc hB3.size _
      have hS3 : IsReq W3 b S := HI.out.2.2.1.below hB3 HI.out.2.2.1.lt
      have hlk := hS3.look HLO.out q hq
      have HZ3 := Lib.hid hz3
      have HO3 := Lib.hid ho3
      have HX3 : Hid ((wr.alloc (.cells #[.string ⟨#[]⟩, .int .i64 0, .int .i64 0, .int .u64 0, .int .u64 0, .int .i64 0, .int .i64 0, .int .u64 0, .int .u64 0, .int .i64 0, .int .i64 0, .int .u64 0, .int .u64 0, .int .i64 0, .int .i64 0, .int .u64 0, .int .u64 0, .int .i64 0, .int .i64 0, .int .u64 0, .int .u64 0, .int .i64 0, .int .i64 0, .int .u64 0, .int .u64 0] 228)).setRow H (reqA nm g) = W3) := Lib.hid hW3
      have HS4 : Hid (IsReq (W3.alloc (.cells #[] 231)) b S) := Lib.hid (HI.out.2.2.1.below hB4 HI.out.2.2.1.lt)
      have HO4 : Hid (RowC (W3.alloc (.cells #[] 231)) O (reqA nm g) 228) := Lib.hid (HI.out.2.2.2.1.below hB4 HI.out.2.2.2.1.lt)
      have HB4 : Hid (Below B w (W3.alloc (.cells #[] 231))) := Lib.hid (HI.out.2.2.2.2.trans (hB4.mono (by have := HI.out.2.2.2.2.size; rw [HBS.out] at this; exact this)))
      have hix := fun W => ixX1 (reqN nm) (reqA nm g) rfl rfl W
      have HQ := Lib.hid hq
      clear hW3 hz3 ho3 hB3 hB4 hS3 hq
      cases q with
      | true =>
        have HIN : Hid (Value.agg (reqA nm g) ∈ S) := Lib.hid (HQ.out.1 rfl)
        clear HQ
        go_wp2_with (first
          | (refine wpList_store_row (by rfl) 228 _ _ (by rfl) H (reqA nm g) (by rfl) (by rfl) _ _ HZ3.out infoRq (by rfl) (reqA_one nm _) ?_; (try rw [HX3.out]))
          | (refine wpList_load_row (by rfl) 228 _ (by rfl) H (by rfl) _ (reqA nm g) (0, 0) _ HO3.out Tryz.underlying228 (by rfl) infoRq ?_))
        go_ret
        exact ⟨But1.of HB4.out (Nat.le_of_eq HBS.out), .inl ⟨.inr HIN.out, rfl, HS4.out⟩⟩
      | false =>
        have HNI : Hid (Value.agg (reqA nm g) ∉ S) := Lib.hid (fun h => absurd (HQ.out.2 h) (by decide))
        clear HQ
        go_wp2_with (first
          | (refine wpList_store_row (by rfl) 228 _ _ (by rfl) H (reqA nm g) (by rfl) (by rfl) _ _ HZ3.out infoRq (by rfl) (reqA_one nm _) ?_; (try rw [HX3.out]))
          | (refine wpList_load_row (by rfl) 228 _ (by rfl) H (by rfl) _ (reqA nm g) (0, 0) _ HO3.out Tryz.underlying228 (by rfl) infoRq ?_))
        exact ⟨⟨1 + 1, by omega, by go_num, Lib.hid ⟨fun _ => HI.out.1 (by omega), fun _ => HNI.out, HS4.out, HO4.out, HB4.out⟩⟩, by simp [intOf]⟩
    · obtain ⟨w3, hup, hs3, hg3⟩ := HI.out.2.2.1.insert HLO.out (HI.out.2.1 (by omega))
      have HS3 := Lib.hid hs3
      have HG3 := Lib.hid hg3
      have HNO := Lib.hid (And.intro (HI.out.1 (by omega)) (HI.out.2.1 (by omega)))
      clear hs3 hg3
      go_wp2_with (refine wpList_load_row (by rfl) 228 _ (by rfl) O (by rfl) _ (reqA nm g) (0, 0) _ HI.out.2.2.2.1 Tryz.underlying228 (by rfl) infoRq ?_)
      go_ret
      exact ⟨But1.trans (But1.of HI.out.2.2.2.2 (Nat.le_of_eq HBS.out)) HG3.out, .inr ⟨HNO.out, rfl, HS3.out⟩⟩
end Go.Proofs.YtcmdmnnkbliggaaGreatDoor

/-
  Layer 15: beside (a condition's value beside its mask), IndexFunc and ContainsFunc by it.
-/
namespace Go.Proofs.YtcmdmnnkbliggaaGreatDoor
open Go.RowKit Go.Shelf Go.Lib Go.Sort
set_option linter.unusedVariables false

/-- Has a condition's value bits beside its mask? -/
def besF (c : CD) : Bool := (c.o == 7) && ((c.v &&& (18446744073709551615 - c.m) : Nat) != 0)
set_option maxRecDepth 100000 in
set_option maxHeartbeats 2000000 in
theorem beside_any (c : CD) (w : World) (hm : c.m ≤ 18446744073709551615) (hv : c.v ≤ 18446744073709551615) : Calls Tryz.prog 102 #[.agg #[.int .i64 c.a, .int .i64 c.o, .int .u64 c.m, .int .u64 c.v]] w fun e w' => e = .returned (.bool (besF c)) ∧ Below w.heap.size w w' := by
  have hB : Below w.heap.size w (w.alloc (.cells #[.int .i64 c.a, .int .i64 c.o, .int .u64 c.m, .int .u64 c.v] 61)) := (Below.refl _ _).alloc (Nat.le_refl _) _
  have hbits := u64_andNot_nat c.v c.m (by omega) (by omega)
  have HB := Lib.hid hB
  have hbe : besF c = ((c.o == 7) && ((c.v &&& (18446744073709551615 - c.m) : Nat) != 0)) := rfl
  generalize c.v &&& (18446744073709551615 - c.m) = z at hbits hbe
  rw [hbe]
  clear hB hbe
  cases h7 : (c.o == 7)
  · go_enter Tryz.func102, Tryz.ntmps102
    go_wp2
    go_ret
    exact ⟨rfl, HB.out⟩
  · have hz : (((z : Nat) : Int) != 0) = (z != 0) := by
      cases z with
      | zero => rfl
      | succ n => simp; omega
    go_enter Tryz.func102, Tryz.ntmps102
    go_wp2
    go_ret
    exact ⟨rfl, HB.out⟩
set_option maxRecDepth 100000 in
set_option maxHeartbeats 4000000 in
theorem indexB_any (A : Option Addr) (n cap : Nat) (C : Nat → CD) (w : World) (hn : n ≤ 1000) (hC : ConA w A n C) :
    Calls Tryz.prog 149 #[.slice A n cap, .func (.func 102) #[] #[]] w fun e w' =>
      (∃ z : Int, e = .returned (.int .i64 z) ∧ (decide (z ≥ 0) = ((List.range n).map C).any besF)) ∧ Below w.heap.size w w' := by
  have HC := Lib.hid hC
  clear hC
  go_enter Tryz.func149, Tryz.ntmps149
  go_wp2
  go_loopw [8] (fun i wr => ∃ k : Nat, k ≤ n ∧ i = .int .i64 k ∧ Below w.heap.size w wr ∧ Hid (∀ j, j < k → besF (C j) = false))
    (fun i _ => n - (intOf i).toNat)
  case atStart => exact ⟨0, Nat.zero_le _, rfl, Below.refl _ _, Lib.hid fun j hj => by omega⟩
  case round =>
    obtain ⟨k, hk, rfl, hB, hno⟩ := hrel
    have HB := Lib.hid hB
    by_cases hlt : k < n
    · rcases HC.out.below hB (Nat.le_refl _) with h0 | ⟨b, o, rfl, hbl, hcs⟩
      · omega
      obtain ⟨q0, q1, q2, q3, hbm, hbv⟩ := hcs k hlt
      rw [Nat.add_zero] at q0
      obtain ⟨x, hx⟩ : ∃ x, C k = x := ⟨_, rfl⟩
      have HX := Lib.hid hx
      rw [hx] at q0 q1 q2 q3 hbm hbv
      have KB := Lib.hid (beside_any x wr hbm hbv)
      have i1 : (0 : Int) ≤ (k : Int) := by omega
      have i2 : (k : Int) < (n : Int) := by omega
      clear hcs hx hB hbm hbv
      go_wp2_with (go_at_call 102; refine KB.out.mono ?_; rintro e w2 ⟨rfl, hB2⟩; cases hbes : besF x)
      · have HB2 : Hid (Below w.heap.size w w2) := Lib.hid (HB.out.trans (hB2.mono HB.out.size))
        exact ⟨⟨k + 1, by omega, by go_num, HB2.out, Lib.hid fun j hj => by
          by_cases e : j = k
          · subst e; rw [HX.out]; exact hbes
          · exact hno.out j (by omega)⟩, by simp [intOf]; omega⟩
      · have HB2 : Hid (Below w.heap.size w w2) := Lib.hid (HB.out.trans (hB2.mono HB.out.size))
        go_ret
        refine ⟨⟨(k : Int), rfl, ?_⟩, HB2.out⟩
        rw [show ((List.range n).map C).any besF = true from List.any_eq_true.2 ⟨x, List.mem_map.2 ⟨k, List.mem_range.2 hlt, HX.out⟩, hbes⟩]
        simp
    · obtain rfl : k = n := by omega
      clear hB
      go_wp2
      go_ret
      refine ⟨⟨-1, rfl, ?_⟩, HB.out⟩
      have : ((List.range k).map C).any besF = false := by
        rw [List.any_eq_false]
        intro y hy
        obtain ⟨j, hj, rfl⟩ := List.mem_map.1 hy
        rw [hno.out j (List.mem_range.1 hj)]
        simp
      rw [this]; decide
set_option maxRecDepth 100000 in
theorem containsB_any (A : Option Addr) (n cap : Nat) (C : Nat → CD) (w : World) (hn : n ≤ 1000) (hC : ConA w A n C) :
    Calls Tryz.prog 101 #[.slice A n cap, .func (.func 102) #[] #[]] w fun e w' =>
      e = .returned (.bool (((List.range n).map C).any besF)) ∧ Below w.heap.size w w' := by
  have hI := indexB_any A n cap C w hn hC
  generalize ((List.range n).map C).any besF = q at hI ⊢
  have HI := Lib.hid hI
  clear hC hI
  go_enter Tryz.func101, Tryz.ntmps101
  go_wp2_with (go_at_call 149; refine HI.out.mono ?_; rintro e w1 ⟨⟨z, rfl, hz⟩, hB⟩)
  go_ret
  exact ⟨by first | rfl | (rw [← hz]; rfl), hB⟩
/-- The second demand: no condition's value lies beside its mask. -/
theorem demB_any (nm : ByteArray) (k u : Int) (A : Option Addr) (n c : Nat) (C : Nat → CD) (w : World) (hn : n ≤ 1000) (hC : ConA w A n C) :
    Calls Tryz.prog 100 #[.agg #[.string nm, .int .i64 k, .int .i64 u, .slice A n c]] w fun e w' => e = .returned (.bool (!((List.range n).map C).any besF)) ∧ Below w.heap.size w w' := by
  have hb0 : Below w.heap.size w (w.alloc (.cells #[.string nm, .int .i64 k, .int .i64 u, .slice A n c] 57)) := (Below.refl _ _).alloc (Nat.le_refl _) _
  have hI := containsB_any A n c C _ hn (hC.below hb0 (Nat.le_refl _))
  generalize ((List.range n).map C).any besF = q at hI ⊢
  have HI := Lib.hid hI
  clear hI
  have HB := Lib.hid hb0
  clear hC hb0
  go_enter Tryz.func100, Tryz.ntmps100
  go_wp2_with (go_at_call 101; refine HI.out.mono ?_; rintro e w1 ⟨rfl, hB⟩)
  go_ret
  exact ⟨rfl, HB.out.trans (hB.mono HB.out.size)⟩
end Go.Proofs.YtcmdmnnkbliggaaGreatDoor

/-
  Layer 15: the three demands, and their array.
-/
namespace Go.Proofs.YtcmdmnnkbliggaaGreatDoor
open Go.RowKit Go.Shelf Go.Lib Go.Sort
set_option linter.unusedVariables false

set_option maxRecDepth 100000 in
set_option maxHeartbeats 4000000 in
/-- The first demand: the table has the name. -/
theorem demN_any (nm : ByteArray) (k u : Int) (A : Option Addr) (n c : Nat) (LB : Nat) (TA : Option Addr) (tn tcap : Nat) (T : Nat → SR) (w : World) (hc : w.cell? ⟨LB, 0, none⟩ = some (.slice TA tn tcap)) (htn : tn ≤ 1000000) (ht : TbA w TA tn T) :
    Calls Tryz.prog 99 #[.agg #[.string nm, .int .i64 k, .int .i64 u, .slice A n c], .pointer (some ⟨LB, 0, none⟩)] w fun e w' => e = .returned (.bool ((List.range tn).any (isN T nm))) ∧ Below w.heap.size w w' := by
  have l := World.block_lt_of_cell? _ _ hc
  obtain ⟨W0, hW0⟩ : ∃ W, w.alloc (.cells #[.string nm, .int .i64 k, .int .i64 u, .slice A n c] 57) = W := ⟨_, rfl⟩
  have hb0 : Below w.heap.size w W0 := by rw [← hW0]; exact (Below.refl _ _).alloc (Nat.le_refl _) _
  have hr0 : RowC W0 w.heap.size #[.string nm, .int .i64 k, .int .i64 u, .slice A n c] 57 := by rw [← hW0]; exact RowC.new _ _ _ _ rfl
  have c0 := (hb0.cell (p := ⟨LB, 0, none⟩) l).trans hc
  have HF := Lib.hid (Find_any TA tn tcap T nm W0 htn (ht.below hb0 (Nat.le_refl _)))
  have HB0 := Lib.hid hb0
  have HW0 := Lib.hid hW0
  have p0 := hr0.cell 0 (.string nm) rfl
  clear hb0 hr0 l hc ht
  go_enter Tryz.func99, Tryz.ntmps99
  go_upto_region 1 with fail
  (try rw [HW0.out])
  clear hW0
  go_wp2_with fail
  refine HF.out.mono ?_
  rintro e w1 ⟨h, hB1⟩
  have HB1 := Lib.hid (bTr HB0.out hB1)
  have hz : RowC (w1.alloc (.cells sr0 114)) w1.heap.size sr0 114 := RowC.new _ _ _ _ rfl
  have HZ := Lib.hid hz
  have HE : ∀ (r : Array Value), Below w.heap.size w ((w1.alloc (.cells sr0 114)).setRow w1.heap.size r) := fun r => below_setRow (HB1.out.alloc HB1.out.size _) HB1.out.size _
  have HEE := Lib.hid HE
  clear hB1 p0 c0 hz HE
  rcases h with ⟨j, hj, hp, hf, rfl⟩ | ⟨hno, rfl⟩
  · obtain ⟨r, hr⟩ : ∃ r, T j = r := ⟨_, rfl⟩
    have hq : (List.range tn).any (isN T nm) = true := List.any_eq_true.2 ⟨j, List.mem_range.2 hj, hp⟩
    have HQ := Lib.hid hq
    rw [hr]
    clear hj hp hf hr hq
    go_wp2_with (refine wpList_store_row (by rfl) 114 _ _ (by rfl) w1.heap.size #[.string r.nm, .int .i64 r.n0, .int .i64 r.n1, .int .i64 r.n2, .int .i64 r.n3, .int .i64 r.n4, .int .i64 r.mx, .int .i64 r.sb] (by rfl) (by rfl) _ _ HZ.out (show _ = some 8 from infoSR) (by rfl) (by simp [Value.oneCell']) ?_)
    go_ret
    exact ⟨by rw [HQ.out]; rfl, HEE.out _⟩
  · have hq : (List.range tn).any (isN T nm) = false := by
      rw [List.any_eq_false]
      intro j hj
      rw [hno j (List.mem_range.1 hj)]
      simp
    have HQ := Lib.hid hq
    clear hno hq
    go_wp2_with (refine wpList_store_row (by rfl) 114 _ _ (by rfl) w1.heap.size sr0 (by rfl) (by rfl) _ _ HZ.out (show _ = some sr0.size from infoSR) (by rfl) (by simp [Value.oneCell']) ?_)
    go_ret
    exact ⟨by rw [HQ.out]; rfl, HEE.out _⟩
set_option maxRecDepth 100000 in
set_option maxHeartbeats 4000000 in
/-- The third demand: meet. -/
theorem demM_any (nm : ByteArray) (k u : Int) (A : Option Addr) (n c : Nat) (C : Nat → CD) (MB b : Nat) (S : List Value) (w : World) (h6 : n ≤ 6) (hnc : n ≤ c) (hC : ConA w A n C) (hnm : nm.size ≤ maxLen) (hwf : ∀ i, i < n → WfC (cvOf (C i))) (hs : IsReq w b S) (hmb : w.cell? ⟨MB, 0, none⟩ = some (.map (some b))) (g : Nat → CV) (hg : padC (srt ((List.range n).map C)) = g) :
    Calls Tryz.prog 103 #[.agg #[.string nm, .int .i64 k, .int .i64 u, .slice A n c], .pointer (some ⟨MB, 0, none⟩)] w fun e w' => But1 b w w' ∧
      (((.agg (reqN nm) ∈ S ∨ .agg (reqA nm g) ∈ S) ∧ e = .returned (.bool false) ∧ IsReq w' b S) ∨ ((.agg (reqN nm) ∉ S ∧ .agg (reqA nm g) ∉ S) ∧ e = .returned (.bool true) ∧ IsReq w' b (S ++ [.agg (reqA nm g)]))) := by
  have l := World.block_lt_of_cell? _ _ hmb
  obtain ⟨W0, hW0⟩ : ∃ W, w.alloc (.cells #[.string nm, .int .i64 k, .int .i64 u, .slice A n c] 57) = W := ⟨_, rfl⟩
  have hb0 : Below w.heap.size w W0 := by rw [← hW0]; exact (Below.refl _ _).alloc (Nat.le_refl _) _
  have hr0 : RowC W0 w.heap.size #[.string nm, .int .i64 k, .int .i64 u, .slice A n c] 57 := by rw [← hW0]; exact RowC.new _ _ _ _ rfl
  have c0 := (hb0.cell (p := ⟨MB, 0, none⟩) l).trans hmb
  have HM := Lib.hid (meetQ_any nm k u A n c C b S W0 h6 hnc (hC.below hb0 (Nat.le_refl _)) hnm hwf (hs.below hb0 hs.lt) g hg)
  have HB0 := Lib.hid (But1.of (b := b) hb0 (Nat.le_refl _))
  have HW0 := Lib.hid hW0
  have p0 := hr0.cell 0 (.string nm) rfl
  have p1 := hr0.cell 1 (.int .i64 k) rfl
  have p2 := hr0.cell 2 (.int .i64 u) rfl
  have p3 := hr0.cell 3 (.slice A n c) rfl
  clear hb0 hr0 l hmb hC hs hg hwf hnm
  go_enter Tryz.func103, Tryz.ntmps103
  go_upto_region 1 with fail
  (try rw [HW0.out])
  clear hW0
  go_wp2_with fail
  refine HM.out.mono ?_
  rintro e w1 ⟨hb1, ⟨hin, rfl, hs1⟩ | ⟨hin, rfl, hs1⟩⟩
  · have HH := Lib.hid (And.intro (But1.trans HB0.out hb1) (And.intro hin hs1))
    clear hb1 hin hs1
    go_wp2
    go_ret
    exact ⟨HH.out.1, .inl ⟨HH.out.2.1, rfl, HH.out.2.2⟩⟩
  · have HH := Lib.hid (And.intro (But1.trans HB0.out hb1) (And.intro hin hs1))
    clear hb1 hin hs1
    go_wp2
    go_ret
    exact ⟨HH.out.1, .inr ⟨HH.out.2.1, rfl, HH.out.2.2⟩⟩
/-- What is asked, one behind the other. -/
def demA (LB MB : Nat) : Array Value := #[.func (.func 99) #[] #[.pointer (some ⟨LB, 0, none⟩)], .int .i64 14, .func (.func 100) #[] #[], .int .i64 16, .func (.func 103) #[] #[.pointer (some ⟨MB, 0, none⟩)], .int .i64 15]
set_option maxRecDepth 100000 in
set_option maxHeartbeats 4000000 in
theorem demands_any (TA : Option Addr) (tn tcap : Nat) (w : World) :
    Calls Tryz.prog 56 #[.slice TA tn tcap] w fun e w' => ∃ LB MB b, e = .returned (.agg (demA LB MB)) ∧ w'.cell? ⟨LB, 0, none⟩ = some (.slice TA tn tcap) ∧ w'.cell? ⟨MB, 0, none⟩ = some (.map (some b)) ∧ IsReq w' b [] ∧ LB ≠ b ∧ MB ≠ b ∧ w.heap.size ≤ b ∧ LB < w'.heap.size ∧ MB < w'.heap.size ∧ Below w.heap.size w w' := by
  obtain ⟨H, hH⟩ : ∃ H, w.heap.size = H := ⟨_, rfl⟩
  obtain ⟨W0, hW0⟩ : ∃ W, (w.alloc (.cells #[.slice TA tn tcap] 48)).alloc (.cells #[.nilFunc, .int .i64 0, .nilFunc, .int .i64 0, .nilFunc, .int .i64 0] 112) = W := ⟨_, rfl⟩
  have hs0 : W0.heap.size = H + 2 := by rw [← hW0, ← hH]; simp
  have hb0 : Below H w W0 := by rw [← hW0, ← hH]; exact ((Below.refl _ _).alloc (Nat.le_refl _) _).alloc (by simp) _
  have hl0 : RowC W0 H #[.slice TA tn tcap] 48 := by rw [← hW0, ← hH]; exact (RowC.new _ _ _ _ rfl).alloc _
  have hd0 : RowC W0 (H + 1) #[.nilFunc, .int .i64 0, .nilFunc, .int .i64 0, .nilFunc, .int .i64 0] 112 := by rw [← hW0, ← hH]; exact RowC.new _ _ _ _ (by simp)
  obtain ⟨W1, hW1⟩ : ∃ W, (W0.alloc (.map #[] 0)).alloc (.cells #[.map (some (H + 2))] 181) = W := ⟨_, rfl⟩
  have hs1 : W1.heap.size = H + 4 := by rw [← hW1]; simp [hs0]
  have hb1 : Below (H + 2) W0 W1 := by rw [← hW1]; exact ((Below.refl _ _).alloc (by omega) _).alloc (by simp [hs0]) _
  have hm1 : RowC W1 (H + 3) #[.map (some (H + 2))] 181 := by rw [← hW1]; exact RowC.new _ _ _ _ (by simp [hs0])
  have hq1 : IsReq W1 (H + 2) [] := by
    have h := IsReq.new W0
    rw [hs0] at h
    rw [← hW1]
    exact h.of_block ((Below.refl _ (W0.alloc (.map #[] 0))).alloc (Nat.le_refl _) _ |>.block _ h.lt)
  have HD1 := Lib.hid (hd0.below hb1 (by omega))
  have HL1 := Lib.hid (hl0.below hb1 (by omega))
  have HB1 := Lib.hid (hb0.trans (hb1.mono (by omega)))
  have HM1 := Lib.hid hm1
  have HQ1 := Lib.hid hq1
  have HS1 := Lib.hid hs1
  have HH := Lib.hid hH
  have HW0 := Lib.hid hW0
  have HW1 := Lib.hid hW1
  clear hb0 hl0 hd0 hs1 hb1 hm1 hq1
  have hmm := @run_makeMap Tryz.prog
  go_enter Tryz.func56, Tryz.ntmps56
  go_upto_region 1 with fail
  (try rw [hW0])
  clear hW0
  go_upto_region 2 with fail
  (try rw [hW1])
  clear hW1 hmm
  go_wp2_with (refine wpList_store_row (by rfl) 112 _ _ (by rfl) (H + 1) (demA H (H + 3)) (by rfl) (by rfl) _ _ HD1.out (show _ = some 6 from by kernel_rfl) (by rfl) (by simp [demA, Value.oneCell']) ?_)
  refine bodyPost_ret (results_cell_row Tryz.results56 _ _ (H + 1) _ _ (0, 0) _ (by rfl) (setRow_heap _ _ _ _ _ _ HD1.out) Tryz.underlying112 (by rfl) (show _ = some 6 from by kernel_rfl)) rfl ?_
  have hx : ∀ i, i ≠ H + 1 → (W1.setRow (H + 1) (demA H (H + 3))).heap[i]? = W1.heap[i]? := fun i hi => setRow_other W1 (H + 1) i _ hi
  refine ⟨H, H + 3, H + 2, rfl, (HL1.out.setRow _ (by omega)).cell 0 _ rfl, (HM1.out.setRow _ (by omega)).cell 0 _ rfl, HQ1.out.of_block (hx _ (by omega)), by omega, by omega, by rw [HH.out]; omega, ?_, ?_, by rw [HH.out]; exact below_setRow HB1.out (Nat.le_succ _) _⟩
  · have := HS1.out; simp [World.setRow]; omega
  · have := HS1.out; simp [World.setRow]; omega
end Go.Proofs.YtcmdmnnkbliggaaGreatDoor
