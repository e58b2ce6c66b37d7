/-
  Layer 15: a set of requests as a map has it.
-/
import Derived.Test.YtccklmleaffgiaaGreatDoorCcp
import Derived.Test.YtccklmleaffgiaaGreatDoorP10
import Derived.Maps.OwnOps
import Derived.DeepKeys3
namespace Go.Proofs.YtccklmleaffgiaaGreatDoor
open Go.RowKit Go.Shelf Go.Lib Go.Sort
set_option linter.unusedVariables false

theorem lawQ : WideMaps.KeyLaw Tryz.prog 147 := deep_law (m := 4) (by decide) (by kernel_rfl) (by kernel_rfl) (by kernel_rfl)
/-- What a condition's fields are good for. -/
def WfC (x : CV) : Prop := (Lit.int .i64 x.1).wf = true ∧ (Lit.int .i64 x.2.1).wf = true ∧ (Lit.int .u64 x.2.2.1).wf = true ∧ (Lit.int .u64 x.2.2.2).wf = true
theorem cellsC : Tryz.prog.cellsOf 53 = 4 := by kernel_rfl
theorem cellsI : Tryz.prog.cellsOf 3 = 1 := by kernel_rfl
theorem cellsU : Tryz.prog.cellsOf 51 = 1 := by kernel_rfl
theorem cellsS : Tryz.prog.cellsOf 9 = 1 := by kernel_rfl
theorem cells6 : Tryz.prog.cellsOf 145 = 24 := by kernel_rfl
theorem cellsQ : Tryz.prog.cellsOf 147 = 25 := by kernel_rfl
theorem kl_arr {d n : Nat} {t e : TypeId} {cs : List Value} (hu : Tryz.prog.underlying t = some (.array n e)) : Tryz.prog.keyLits (d + 1) t cs = if cs.length = Tryz.prog.cellsOf t then ((List.range n).mapM fun i => Tryz.prog.keyLits d e ((cs.drop (i * Tryz.prog.cellsOf e)).take (Tryz.prog.cellsOf e))).map List.flatten else none := by
  simp only [Program.keyLits, hu]
theorem kl_struct {d : Nat} {t : TypeId} {fs : Array Field} {cs : List Value} (hu : Tryz.prog.underlying t = some (.struct fs)) : Tryz.prog.keyLits (d + 1) t cs = if cs.length = Tryz.prog.cellsOf t ∧ fs.all (·.name != "_") = true then (fs.toList.mapM fun f => Tryz.prog.keyLits d f.type ((cs.drop f.offset).take (Tryz.prog.cellsOf f.type))).map List.flatten else none := by
  simp only [Program.keyLits, hu]
theorem kl_int (d : Nat) (x : Int) (h : (Lit.int .i64 x).wf = true) : Tryz.prog.keyLits (d + 1) 3 [.int .i64 x] = some [.int .i64 x] := by
  simp [Program.keyLits, Tryz.underlying3, h]
theorem kl_u64 (d : Nat) (x : Int) (h : (Lit.int .u64 x).wf = true) : Tryz.prog.keyLits (d + 1) 51 [.int .u64 x] = some [.int .u64 x] := by
  simp [Program.keyLits, Tryz.underlying51, h]
theorem kl_str (d : Nat) (s : ByteArray) (h : s.size ≤ maxLen) : Tryz.prog.keyLits (d + 1) 9 [.string s] = some [.string s.data.toList] := by
  simp [Program.keyLits, Tryz.underlying9, h]
theorem kl_cond (d : Nat) (x : CV) (h : WfC x) : Tryz.prog.keyLits (d + 2) 53 (encC x) = some [.int .i64 x.1, .int .i64 x.2.1, .int .u64 x.2.2.1, .int .u64 x.2.2.2] := by
  have h1 := kl_int d x.1 h.1
  have h2 := kl_int d x.2.1 h.2.1
  have h3 := kl_u64 d x.2.2.1 h.2.2.1
  have h4 := kl_u64 d x.2.2.2 h.2.2.2
  rw [show d + 2 = (d + 1) + 1 from rfl, kl_struct Tryz.underlying53]
  simp [encC, cellsC, cellsI, cellsU, h1, h2, h3, h4]
theorem kl_six (d : Nat) (g : Nat → CV) (h : ∀ j, j < 6 → WfC (g j)) : ∃ l, Tryz.prog.keyLits (d + 3) 145 (encC (g 0) ++ encC (g 1) ++ encC (g 2) ++ encC (g 3) ++ encC (g 4) ++ encC (g 5)) = some l := by
  have h0 := kl_cond d (g 0) (h 0 (by decide))
  have h1 := kl_cond d (g 1) (h 1 (by decide))
  have h2 := kl_cond d (g 2) (h 2 (by decide))
  have h3 := kl_cond d (g 3) (h 3 (by decide))
  have h4 := kl_cond d (g 4) (h 4 (by decide))
  have h5 := kl_cond d (g 5) (h 5 (by decide))
  unfold encC at *
  rw [show d + 3 = (d + 2) + 1 from rfl, kl_arr Tryz.underlying145]
  simp [cells6, cellsC, List.range_succ, h0, h1, h2, h3, h4, h5]
theorem reqA_list (nm : ByteArray) (g : Nat → CV) : (reqA nm g).toList = .string nm :: (encC (g 0) ++ encC (g 1) ++ encC (g 2) ++ encC (g 3) ++ encC (g 4) ++ encC (g 5)) := rfl
theorem kl_req (d : Nat) (nm : ByteArray) (g : Nat → CV) (hs : nm.size ≤ maxLen) (h : ∀ j, j < 6 → WfC (g j)) : ∃ l, Tryz.prog.keyLits (d + 4) 147 (reqA nm g).toList = some l := by
  obtain ⟨l, hl⟩ := kl_six d g h
  have h1 := kl_str (d + 2) nm hs
  rw [reqA_list]
  have hlen : (encC (g 0) ++ encC (g 1) ++ encC (g 2) ++ encC (g 3) ++ encC (g 4) ++ encC (g 5)).length = 24 := rfl
  generalize encC (g 0) ++ encC (g 1) ++ encC (g 2) ++ encC (g 3) ++ encC (g 4) ++ encC (g 5) = cs at *
  rw [show d + 4 = (d + 3) + 1 from rfl, kl_struct Tryz.underlying147]
  simp [cellsQ, cells6, cellsS, hlen, h1, hl, List.take_of_length_le (Nat.le_of_eq hlen)]
/-- A request is a key. -/
theorem key_req (nm : ByteArray) (g : Nat → CV) (hs : nm.size ≤ maxLen) (h : ∀ j, j < 6 → WfC (g j)) : ∃ l, keyOf Tryz.prog 147 (.agg (reqA nm g)) = some l := by
  have h3 : 3 ≤ Tryz.prog.types.size := Nat.le_of_ble_eq_true (by kernel_rfl)
  obtain ⟨d, hd⟩ : ∃ d, Tryz.prog.types.size + 1 = d + 4 := ⟨Tryz.prog.types.size - 3, by omega⟩
  obtain ⟨l, hl⟩ := kl_req d nm g hs h
  have hk : Tryz.prog.keyType 147 = true := by kernel_rfl
  have hc : (reqA nm g).size = 25 := rfl
  refine ⟨.string (keyBytes l), ?_⟩
  unfold keyOf
  simp only [Tryz.underlying147]
  rw [if_pos (by simp [hk, Value.formed, Tryz.underlying147, cellsQ, hc]), show (Value.agg (reqA nm g)).cells = reqA nm g from rfl, hd, hl]
  rfl
/-- A map's block as a set of requests. -/
def IsReq (w : World) (b : Nat) (S : List Value) : Prop :=
  ∃ es clock, w.heap[b]? = some (.map es clock) ∧ es.toList.map (fun e => (e.key, e.val)) = S.map (fun v => (v, Value.agg #[])) ∧ ∀ v ∈ S, ∃ l, keyOf Tryz.prog 147 v = some l
theorem findQ {es : List MapEntry} {S : List Value} (h : es.map (fun e => (e.key, e.val)) = S.map (fun v => (v, Value.agg #[]))) (hS : ∀ v ∈ S, ∃ l, keyOf Tryz.prog 147 v = some l) {x : Value} {lx : Lit} (hx : keyOf Tryz.prog 147 x = some lx) (w : World) :
    (x ∉ S ∧ (Instr.findKey 147 x es).run Tryz.prog w = .ok none w) ∨ (x ∈ S ∧ ∃ j, (Instr.findKey 147 x es).run Tryz.prog w = .ok (some (j, .agg #[])) w) := by
  have hmem : ∀ e ∈ es, e.key ∈ S ∧ e.val = .agg #[] := fun e he => by
    have h1 : (e.key, e.val) ∈ S.map (fun v => (v, Value.agg #[])) := by rw [← h]; exact List.mem_map.2 ⟨e, he, rfl⟩
    obtain ⟨v, hv, e1⟩ := List.mem_map.1 h1
    obtain ⟨e2, e3⟩ := Prod.mk.inj e1
    exact ⟨by rw [← e2]; exact hv, e3.symm⟩
  rcases lawQ.find w hx es (fun e he => hS _ (hmem e he).1) with ⟨h1, h2⟩ | ⟨j, e, h1, h2, h3⟩
  · left
    refine ⟨fun hin => ?_, h1⟩
    have h4 : (x, Value.agg #[]) ∈ es.map (fun e => (e.key, e.val)) := by rw [h]; exact List.mem_map.2 ⟨x, hin, rfl⟩
    obtain ⟨e, he, e1⟩ := List.mem_map.1 h4
    exact h2 e he (Prod.mk.inj e1).1
  · right
    have he := List.mem_of_getElem? h2
    obtain ⟨m1, m2⟩ := hmem e he
    rw [h3] at m1
    rw [m2] at h1
    exact ⟨m1, j, h1⟩
theorem IsReq.new (w : World) : IsReq (w.alloc (.map #[] 0)) w.heap.size [] := ⟨#[], 0, (MapKept.heap_alloc w _).1, rfl, fun _ h => by cases h⟩
theorem IsReq.of_block {w w' : World} {b : Nat} {S : List Value} (h : IsReq w b S) (hb : w'.heap[b]? = w.heap[b]?) : IsReq w' b S := by
  obtain ⟨es, c, h1, h2, h3⟩ := h
  exact ⟨es, c, hb.trans h1, h2, h3⟩
theorem IsReq.lt {w : World} {b : Nat} {S : List Value} (h : IsReq w b S) : b < w.heap.size := by
  obtain ⟨es, c, h1, h2⟩ := h
  exact (Array.getElem?_eq_some_iff.1 h1).1
theorem IsReq.below {w w' : World} {b B : Nat} {S : List Value} (h : IsReq w b S) (hB : Below B w w') (hb : b < B) : IsReq w' b S := h.of_block (hB.block b hb)
theorem IsReq.look {w : World} {b : Nat} {S : List Value} (h : IsReq w b S) {x : Value} {lx : Lit} (hx : keyOf Tryz.prog 147 x = some lx) (q : Bool) (hq : q = true ↔ x ∈ S) : (Instr.lookup 114 (.map (some b)) x true).run Tryz.prog w = .ok (.tuple #[.agg #[], .bool q]) w := by
  obtain ⟨es, clock, hb, he, hS⟩ := h
  have hc := lawQ.check w es.isEmpty hx
  have hz : (zeroValue 150).run Tryz.prog w = .ok (.agg #[]) w := by
    exact (zero_of_info (n := 0) (by kernel_rfl)).1 w
  rcases findQ he hS hx w with ⟨h1, h2⟩ | ⟨h1, j, h2⟩
  · have hq0 : q = false := by cases q; rfl; exact absurd (hq.1 rfl) h1
    subst hq0
    simp [Instr.lookup, run_underlying Tryz.underlying114, MapKept.run_getObj_map hb, hc, h2, hz, Result.andThen]
  · have hq1 : q = true := hq.2 h1
    subst hq1
    simp [Instr.lookup, run_underlying Tryz.underlying114, MapKept.run_getObj_map hb, hc, h2, Result.andThen]
theorem IsReq.insert {w : World} {b : Nat} {S : List Value} (h : IsReq w b S) {x : Value} {lx : Lit} (hx : keyOf Tryz.prog 147 x = some lx) (hn : x ∉ S) :
    ∃ w', (Instr.mapUpdate 114 (.map (some b)) x (.agg #[])).run Tryz.prog w = .ok () w' ∧ IsReq w' b (S ++ [x]) ∧ w.grownBy w' (some b) := by
  obtain ⟨es, clock, hb, he, hS⟩ := h
  have hc := lawQ.check w false hx
  have hlt : b < w.heap.size := (Array.getElem?_eq_some_iff.1 hb).1
  rcases findQ he hS hx w with ⟨h1, hf⟩ | ⟨h1, _⟩
  · refine ⟨{ w with heap := w.heap.setIfInBounds b (.map (es.push { key := x, val := .agg #[], born := clock }) (clock + 1)) }, ?_, ⟨es.push { key := x, val := .agg #[], born := clock }, clock + 1, ?_, ?_, fun v hv => ?_⟩, ⟨rfl, rfl, rfl, by simp, fun i _ hi => ?_⟩⟩
    · simp [Instr.mapUpdate, run_underlying Tryz.underlying114, MapKept.run_getObj_map hb, hc, hf, MapKept.run_setObj_map _ hb, Result.andThen]
    · simp [hlt]
    · simp [he]
    · rcases List.mem_append.1 hv with hv | hv
      · exact hS v hv
      · rw [List.mem_singleton] at hv
        exact ⟨lx, by rw [hv]; exact hx⟩
    · have hne : b ≠ i := fun e => hi (by rw [e])
      simp [hne]
  · exact absurd h1 hn
end Go.Proofs.YtccklmleaffgiaaGreatDoor
