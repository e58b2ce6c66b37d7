/-
  The map of the doings.
-/
import Derived.Test.YtfanapnhdhoppaaVg
namespace Go.Proofs.Ytfanapnhdhoppaa
open Go.RowKit

def fv (p : Int × Nat) : Int × Value := (p.1, .func (.func p.2) #[] #[])
def noKey (kv : List (Int × Nat)) (k : Int) : Bool := kv.all fun p => p.1 != k
theorem assocV_none (kv : List (Int × Nat)) (k : Int) (h : noKey kv k = true) : assocV (kv.map fv) k = none := by
  unfold assocV
  rw [List.find?_eq_none.2]
  · rfl
  · intro p hp
    obtain ⟨q, hq, rfl⟩ := List.mem_map.1 hp
    have := (List.all_eq_true.1 h) q hq
    simpa [fv] using this
theorem wpList_insF {P : Program} {w : World} {q : IntKind} {t kt et : TypeId} {b : Nat} {kv : List (Int × Nat)} {ops : Array Oper} {rest : List Oper} {o : Oper} {a : Act} {Q : Exit → Act → World → Prop} (hg : o.guard = none) (m x y : Operand) (hop : o.op = Op.insert t m x y)
    (ht : P.underlying t = some (.map kt et)) (hk : P.underlying kt = some (.int q)) (k : Int) (n : Nat) (hm : a.eval m = .map (some b)) (hx : a.eval x = .int q k) (hy : a.eval y = .func (.func n) #[] #[])
    {w0 : World} {B : Nat} (h : IsMapV q w b (kv.map fv)) (hn : noKey kv k = true) (hB : Below B w0 w) (hb : B ≤ b)
    (hK : ∀ w', IsMapV q w' b ((kv ++ [(k, n)]).map fv) → Below B w0 w' → wpList P ops Q rest (a.put o.dst undef) w') : wpList P ops Q (o :: rest) a w :=
  wpList_insV hg m x y hop ht hk k _ hm hx hy h (assocV_none kv k hn) hB hb fun w' h1 h2 => hK w' (by rw [List.map_append]; exact h1) h2

set_option maxRecDepth 100000 in
set_option maxHeartbeats 4000000 in
theorem doings_any (w : World) : Calls Try.prog 99 #[] w fun e w' => ∃ b, e = .returned (.map (some b)) ∧ w.heap.size ≤ b ∧ b < w'.heap.size ∧ IsMapV .i64 w' b doKV ∧ Below w.heap.size w w' := by
  have hmm := @run_makeMap Try.prog
  have hm : IsMapV .i64 (w.alloc (.map #[] 0)) w.heap.size (([] : List (Int × Nat)).map fv) := IsMapV.new .i64 w
  have hB : Below w.heap.size w (w.alloc (.map #[] 0)) := (Below.refl _ _).alloc (Nat.le_refl _) _
  go_enter Try.func99, Try.ntmps99
  go_wp2_with (refine wpList_insF rfl _ _ _ rfl Try.underlying169 Try.underlying85 _ _ rfl rfl rfl hm (by rfl) hB (Nat.le_refl _) ?_; clear hm hB; intro w' hm hB)
  go_ret
  exact ⟨_, rfl, Nat.le_refl _, hm.lt, hm, hB⟩
end Go.Proofs.Ytfanapnhdhoppaa
