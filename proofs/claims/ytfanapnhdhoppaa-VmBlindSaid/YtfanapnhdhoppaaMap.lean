/-
  Words for maps from numbers to numbers that a call makes: when a map's block reads as an association list, what a look-up gives and what an insertion of a new key makes. Nothing here speaks of a program.
-/
import Derived.Test.YtfanapnhdhoppaaMem
import Derived.Maps.OwnSet
import Derived.Maps.OwnOps
namespace Go.Proofs.Ytfanapnhdhoppaa
open Go.RowKit

def assoc (kv : List (Int × Int)) (k : Int) : Option Int := (kv.find? fun p => p.1 == k).map (·.2)

/-- The block b is a map that holds the pairs kv, in the order of their coming. -/
def IsMap (q q' : IntKind) (w : World) (b : Nat) (kv : List (Int × Int)) : Prop :=
  ∃ es clock, w.heap[b]? = some (.map es clock) ∧ es.toList.map (fun e => (e.key, e.val)) = kv.map (fun p => (Value.int q p.1, Value.int q' p.2))

theorem findNow_pairs (q q' : IntKind) (k : Int) : ∀ (es : List MapEntry) (kv : List (Int × Int)) (i : Nat), es.map (fun e => (e.key, e.val)) = kv.map (fun p => (Value.int q p.1, Value.int q' p.2)) →
    (assoc kv k = none → Instr.findNow (.int q) (.int q k) es i = some none) ∧ (∀ v, assoc kv k = some v → ∃ j, Instr.findNow (.int q) (.int q k) es i = some (some (j, .int q' v))) := by
  intro es
  induction es with
  | nil =>
    intro kv i h
    cases kv with
    | nil => exact ⟨fun _ => rfl, fun v h => by simp [assoc] at h⟩
    | cons p kv => simp at h
  | cons e es ih =>
    intro kv i h
    cases kv with
    | nil => simp at h
    | cons p kv =>
      simp only [List.map_cons, List.cons.injEq, Prod.mk.injEq] at h
      obtain ⟨⟨hk, hv⟩, hr⟩ := h
      obtain ⟨h1, h2⟩ := ih kv (i + 1) hr
      by_cases hpk : p.1 = k
      · have e1 : assoc (p :: kv) k = some p.2 := by simp [assoc, hpk]
        rw [e1]
        refine ⟨fun h => (by cases h), fun v h => ?_⟩
        cases h
        exact ⟨i, by simp [Instr.findNow, Instr.sameNow, hk, hv, hpk]⟩
      · have e1 : assoc (p :: kv) k = assoc kv k := by simp [assoc, hpk]
        rw [e1]
        have hne : (k == p.1) = false := by simp; exact fun h => hpk h.symm
        have e2 : Instr.findNow (.int q) (.int q k) (e :: es) i = Instr.findNow (.int q) (.int q k) es (i + 1) := by simp [Instr.findNow, Instr.sameNow, hk, hne]
        rw [e2]
        exact ⟨h1, h2⟩

section
variable {P : Program} {w w' : World} {q q' : IntKind} {t kt et : TypeId} {b : Nat} {kv : List (Int × Int)}
theorem IsMap.below {B : Nat} (h : IsMap q q' w b kv) (hb : Below B w w') (hB : b < B) : IsMap q q' w' b kv := by
  obtain ⟨es, c, h1, h2⟩ := h
  exact ⟨es, c, (hb.block b hB).trans h1, h2⟩
theorem IsMap.new (q q' : IntKind) (w : World) : IsMap q q' (w.alloc (.map #[] 0)) w.heap.size [] := ⟨#[], 0, (MapKept.heap_alloc w _).1, rfl⟩
theorem run_checkKey_int (em : Bool) (hk : P.underlying kt = some (.int q)) (k : Int) (n : Nat) (w : World) : (Instr.checkKey em (n + 1) kt (.int q k)).run P w = .ok () w := by
  simp [Instr.checkKey, run_underlying hk]
theorem IsMap.look (h : IsMap q q' w b kv) (ht : P.underlying t = some (.map kt et)) (hk : P.underlying kt = some (.int q)) (hz : (zeroValue et).run P w = .ok (.int q' 0) w) (k : Int) (c : Bool) :
    (Instr.lookup t (.map (some b)) (.int q k) c).run P w = .ok (if c then .tuple #[.int q' ((assoc kv k).getD 0), .bool (assoc kv k).isSome] else .int q' ((assoc kv k).getD 0)) w := by
  obtain ⟨es, clock, hb, he⟩ := h
  obtain ⟨h1, h2⟩ := findNow_pairs q q' k es.toList kv 0 he
  have hc := run_checkKey_int (P := P) (kt := kt) (es.isEmpty) hk k 9999 w
  rcases ha : assoc kv k with _ | v
  · have hf : (Instr.findKey kt (.int q k) es.toList).run P w = .ok none w := by simp [Instr.findKey, run_underlying hk, h1 ha]
    cases c <;> simp [Instr.lookup, run_underlying ht, MapKept.run_getObj_map hb, hc, hf, hz, Result.andThen]
  · obtain ⟨j, hj⟩ := h2 v ha
    have hf : (Instr.findKey kt (.int q k) es.toList).run P w = .ok (some (j, .int q' v)) w := by simp [Instr.findKey, run_underlying hk, hj]
    cases c <;> simp [Instr.lookup, run_underlying ht, MapKept.run_getObj_map hb, hc, hf, Result.andThen]
theorem IsMap.insert (h : IsMap q q' w b kv) (ht : P.underlying t = some (.map kt et)) (hk : P.underlying kt = some (.int q)) (k v : Int) (hn : assoc kv k = none) :
    ∃ w', (Instr.mapUpdate t (.map (some b)) (.int q k) (.int q' v)).run P w = .ok () w' ∧ IsMap q q' w' b (kv ++ [(k, v)]) ∧ w.grownBy w' (some b) := by
  obtain ⟨es, clock, hb, he⟩ := h
  obtain ⟨h1, _⟩ := findNow_pairs q q' k es.toList kv 0 he
  have hc := run_checkKey_int (P := P) (kt := kt) false hk k 9999 w
  have hf : (Instr.findKey kt (.int q k) es.toList).run P w = .ok none w := by simp [Instr.findKey, run_underlying hk, h1 hn]
  have hlt : b < w.heap.size := (Array.getElem?_eq_some_iff.1 hb).1
  refine ⟨{ w with heap := w.heap.setIfInBounds b (.map (es.push { key := .int q k, val := .int q' v, born := clock }) (clock + 1)) }, ?_, ⟨es.push { key := .int q k, val := .int q' v, born := clock }, clock + 1, ?_, ?_⟩, ⟨rfl, rfl, rfl, by simp, fun i _ hi => ?_⟩⟩
  · simp [Instr.mapUpdate, run_underlying ht, MapKept.run_getObj_map hb, hc, hf, MapKept.run_setObj_map _ hb, Result.andThen]
  · simp [hlt]
  · simp [he]
  · have hne : b ≠ i := fun e => hi (by rw [e])
    simp [hne]
/-- An insertion of a new key at the operation, for the walk. -/
theorem wpList_ins {ops : Array Oper} {rest : List Oper} {o : Oper} {a : Act} {Q : Exit → Act → World → Prop} (hg : o.guard = none) (m x y : Operand) (hop : o.op = Op.insert t m x y)
    (ht : P.underlying t = some (.map kt et)) (hk : P.underlying kt = some (.int q)) (k v : Int) (hm : a.eval m = .map (some b)) (hx : a.eval x = .int q k) (hy : a.eval y = .int q' v)
    {w0 : World} {B : Nat} (h : IsMap q q' w b kv) (hn : assoc kv k = none) (hB : Below B w0 w) (hb : B ≤ b)
    (hK : ∀ w', IsMap q q' w' b (kv ++ [(k, v)]) → Below B w0 w' → wpList P ops Q rest (a.put o.dst undef) w') : wpList P ops Q (o :: rest) a w := by
  refine wpList_plain hg fun K' hK' => ?_
  obtain ⟨w', hrun, r1, r2⟩ := h.insert ht hk k v hn
  have hlt : b < w.heap.size := by obtain ⟨es, c, h1, _⟩ := h; exact (Array.getElem?_eq_some_iff.1 h1).1
  have hB' : Below B w0 w' := hB.trans ⟨r2.os, r2.tape, r2.output, r2.size, fun i hi => by
    rcases Nat.lt_or_ge i w.heap.size with hl | hl
    · exact r2.block i hl (fun e => by cases e; omega)
    · omega⟩
  unfold Oper.wp
  simp [execOp, hop, hm, hx, hy, hrun, Result.andThen]
  exact hK' _ _ (hK w' r1 hB')
end
end Go.Proofs.Ytfanapnhdhoppaa
