/-
  A set of pairs as a map has it; layer 11's meet.
-/
import Derived.Test.YtlpcallgkciklaaGreatDoorUb
import Derived.Maps.OwnOps
import Derived.Deep.WholeRow
namespace Go.Proofs.YtlpcallgkciklaaGreatDoor
open Go.RowKit
set_option linter.unusedVariables false

abbrev pv (p : Int × Int) : Value := .agg #[.int .i64 p.1, .int .i64 p.2]
/-- A map's block as a set of pairs. -/
def IsSet (w : World) (b : Nat) (S : List (Int × Int)) : Prop :=
  ∃ es clock, w.heap[b]? = some (.map es clock) ∧ es.toList.map (fun e => (e.key, e.val)) = S.map (fun p => (pv p, Value.agg #[]))
set_option maxRecDepth 100000 in
theorem eqP2 (p q : Int × Int) (w : World) : (Op.equal 181 (pv p) (pv q)).run Tryz.prog w = .ok (p == q) w := by
  obtain ⟨a, b⟩ := p
  obtain ⟨c, d⟩ := q
  have u3 := Tryz.underlying3
  show (Op.equalIn 10000 181 (.agg #[.int .i64 a, .int .i64 b]) (.agg #[.int .i64 c, .int .i64 d])).run Tryz.prog w = _
  rw [show (10000 : Nat) = 9999 + 1 from rfl, Op.equalIn]
  simp only [Sem.run_bind, run_underlying Tryz.underlying181, Result.andThen_ok]
  simp only [Std.Legacy.Range.forIn_eq_forIn_range', Std.Legacy.Range.size, Nat.sub_zero, Nat.add_sub_cancel, Nat.div_one, List.range'_succ, List.range'_zero, List.forIn_cons, List.forIn_nil]
  go_simp
  show _ = Result.ok ((a == c) && (b == d)) w
  by_cases h1 : a = c <;> by_cases h2 : b = d <;> simp [h1, h2]
set_option maxRecDepth 100000 in
theorem checkP2 (em : Bool) (p : Int × Int) (w : World) : (Instr.checkKey em 10000 181 (pv p)).run Tryz.prog w = .ok () w := by
  have u3 := Tryz.underlying3
  have ck := fun (v : Int) (w : World) => run_checkKey_int (P := Tryz.prog) (kt := 3) em u3 v 9998 w
  rw [show (10000 : Nat) = 9998 + 1 + 1 from rfl, Instr.checkKey]
  simp only [Sem.run_bind, run_underlying Tryz.underlying181, Result.andThen_ok]
  simp only [Std.Legacy.Range.forIn_eq_forIn_range', Std.Legacy.Range.size, Nat.sub_zero, Nat.add_sub_cancel, Nat.div_one, List.range'_succ, List.range'_zero, List.forIn_cons, List.forIn_nil]
  go_simp
theorem findAsk (p : Int × Int) (w : World) : ∀ (es : List MapEntry) (S : List (Int × Int)) (i : Nat), es.map (fun e => (e.key, e.val)) = S.map (fun p => (pv p, Value.agg #[])) →
    (p ∉ S → (Instr.findAsking 181 (pv p) es i).run Tryz.prog w = .ok none w) ∧ (p ∈ S → ∃ j, (Instr.findAsking 181 (pv p) es i).run Tryz.prog w = .ok (some (j, .agg #[])) w) := by
  intro es
  induction es with
  | nil =>
    intro S i h
    cases S with
    | nil => exact ⟨fun _ => by simp [Instr.findAsking], fun h => by simp at h⟩
    | cons q S => simp at h
  | cons e es ih =>
    intro S i h
    cases S with
    | nil => simp at h
    | cons q S =>
      simp only [List.map_cons, List.cons.injEq, Prod.mk.injEq] at h
      obtain ⟨⟨hk, hv⟩, hr⟩ := h
      obtain ⟨h1, h2⟩ := ih S (i + 1) hr
      have he := eqP2 p q w
      rw [← hk] at he
      by_cases hpq : p = q
      · subst hpq
        rw [show (p == p) = true by simp] at he
        refine ⟨fun h => absurd (List.mem_cons_self ..) h, fun _ => ⟨i, ?_⟩⟩
        simp [Instr.findAsking, he, hv, Result.andThen]
      · rw [show (p == q) = false by simpa using hpq] at he
        refine ⟨fun h => ?_, fun h => ?_⟩
        · simp only [Instr.findAsking, Sem.run_bind, he, Result.andThen_ok]
          exact h1 (fun h' => h (List.mem_cons_of_mem _ h'))
        · obtain ⟨j, hj⟩ := h2 (by rcases List.mem_cons.1 h with h | h; exact absurd h hpq; exact h)
          refine ⟨j, ?_⟩
          simp only [Instr.findAsking, Sem.run_bind, he, Result.andThen_ok]
          exact hj
theorem findP2 (p : Int × Int) (w : World) (es : List MapEntry) (S : List (Int × Int)) (h : es.map (fun e => (e.key, e.val)) = S.map (fun p => (pv p, Value.agg #[]))) :
    (p ∉ S → (Instr.findKey 181 (pv p) es).run Tryz.prog w = .ok none w) ∧ (p ∈ S → ∃ j, (Instr.findKey 181 (pv p) es).run Tryz.prog w = .ok (some (j, .agg #[])) w) := by
  cases es with
  | nil =>
    cases S with
    | nil => exact ⟨fun _ => by simp [Instr.findKey, run_underlying Tryz.underlying181, Instr.findNow], fun h => by simp at h⟩
    | cons q S => simp at h
  | cons e es =>
    have hn : (Instr.findKey 181 (pv p) (e :: es)).run Tryz.prog w = (Instr.findAsking 181 (pv p) (e :: es) 0).run Tryz.prog w := by
      simp [Instr.findKey, run_underlying Tryz.underlying181, Instr.findNow, Instr.sameNow]
    obtain ⟨h1, h2⟩ := findAsk p w (e :: es) S 0 h
    exact ⟨fun h => hn.trans (h1 h), fun h => (h2 h).imp fun j hj => hn.trans hj⟩
theorem IsSet.look {w : World} {b : Nat} {S : List (Int × Int)} (h : IsSet w b S) (p : Int × Int) : (Instr.lookup 115 (.map (some b)) (pv p) true).run Tryz.prog w = .ok (.tuple #[.agg #[], .bool (decide (p ∈ S))]) w := by
  obtain ⟨es, clock, hb, he⟩ := h
  obtain ⟨h1, h2⟩ := findP2 p w es.toList S he
  have hc := checkP2 es.isEmpty p w
  have hz : (zeroValue 156).run Tryz.prog w = .ok (.agg #[]) w := by
    exact (zero_of_info (n := 0) (by kernel_rfl)).1 w
  by_cases hp : p ∈ S
  · obtain ⟨j, hj⟩ := h2 hp
    simp [Instr.lookup, run_underlying Tryz.underlying115, MapKept.run_getObj_map hb, hc, hj, Result.andThen, hp]
  · simp [Instr.lookup, run_underlying Tryz.underlying115, MapKept.run_getObj_map hb, hc, h1 hp, hz, Result.andThen, hp]
/-- What an insertion leaves of a world: all blocks but the map's. -/
def ButM (b : Nat) (w w' : World) : Prop := w'.os = w.os ∧ w'.tape = w.tape ∧ w'.output = w.output ∧ w'.heap.size = w.heap.size ∧ ∀ i, i ≠ b → w'.heap[i]? = w.heap[i]?
theorem IsSet.insert {w : World} {b : Nat} {S : List (Int × Int)} (h : IsSet w b S) (p : Int × Int) (hn : p ∉ S) :
    ∃ w', (Instr.mapUpdate 115 (.map (some b)) (pv p) (.agg #[])).run Tryz.prog w = .ok () w' ∧ IsSet w' b (S ++ [p]) ∧ w.grownBy w' (some b) := by
  obtain ⟨es, clock, hb, he⟩ := h
  have hf := (findP2 p w es.toList S he).1 hn
  have hc := checkP2 false p w
  have hlt : b < w.heap.size := (Array.getElem?_eq_some_iff.1 hb).1
  refine ⟨{ w with heap := w.heap.setIfInBounds b (.map (es.push { key := pv p, val := .agg #[], born := clock }) (clock + 1)) }, ?_, ⟨es.push { key := pv p, val := .agg #[], born := clock }, clock + 1, ?_, ?_⟩, ⟨rfl, rfl, rfl, by simp, fun i _ hi => ?_⟩⟩
  · simp [Instr.mapUpdate, run_underlying Tryz.underlying115, MapKept.run_getObj_map hb, hc, hf, MapKept.run_setObj_map _ hb, Result.andThen]
  · simp [hlt]
  · simp [he]
  · have hne : b ≠ i := fun e => hi (by rw [e])
    simp [hne]
end Go.Proofs.YtlpcallgkciklaaGreatDoor
