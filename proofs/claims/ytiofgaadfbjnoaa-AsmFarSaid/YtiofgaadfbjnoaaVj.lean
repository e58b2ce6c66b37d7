/-
  The contract of vm.run: what a program does, as the plain function says it.
-/
import Derived.Test.YtiofgaadfbjnoaaVh
namespace Go.Proofs.Ytiofgaadfbjnoaa
open Go.RowKit

/-- What is known of a formed program's instruction. -/
theorem alone_facts (v : IV) (r : Nat) (h : alone v r = 0) : kd v ≠ 0 ∧ (kd v = 1 → v.k % 4 = 0 ∧ v.k < 64) ∧ (isLd v = true ∨ isSt v = true → v.k < 16) := by
  refine ⟨fun e => ?_, fun e => ?_, fun e => ?_⟩
  · unfold alone at h; rw [if_pos e] at h; cases h
  · unfold alone at h
    rw [if_neg (by omega)] at h
    by_cases c : kd v = 1 ∧ (v.k % 4 ≠ 0 ∨ 64 ≤ v.k)
    · rw [if_pos c] at h; cases h
    · omega
  · rcases e with e | e
    · exact ld_small v r h e
    · exact st_small v r h e

theorem scells_one (s : VS) (A : Option Addr) (c : Nat) (A2 : Option Addr) (n2 c2 : Nat) : (scells s A c (.slice A2 n2 c2)).all (·.oneCell') = true := by simp [scells, Value.oneCell']
theorem two_last (w : World) (o : Obj) (Z : Array Value) (T : TypeId) : ((w.alloc o).alloc (.cells Z T)).heap[w.heap.size + 1]? = some (.cells Z T) := by
  have := heap_alloc_last (w.alloc o) (.cells Z T)
  rwa [World.size_alloc] at this
theorem setRow_two (w : World) (o : Obj) (Z D : Array Value) (T : TypeId) : ((w.alloc o).alloc (.cells Z T)).setRow (w.heap.size + 1) D = (w.alloc o).alloc (.cells D T) := by
  have := World.setRow_alloc_new (w.alloc o) Z D T
  rwa [World.size_alloc] at this
theorem callFunc_enter {P : Program} {F : Nat} {fn : Func} (hf : P.funcs[F]? = some fn) (hn : (fn.name == "runtime.NumGoroutine") = false) (hb : fn.body.isNone = false) (args : Array Value) (w : World) : (callFunc F args).run P w = .ok (.enter F args) w := by
  have hn' : ¬ fn.name = "runtime.NumGoroutine" := by simpa using hn
  have hb' : ¬ fn.body = none := fun e => by rw [e] at hb; cases hb
  simp [callFunc, run_program, hf, hn', hb', Result.andThen]
def hasBody (P : Program) (F : Nat) : Bool :=
  match P.funcs[F]? with
  | some fn => !(fn.name == "runtime.NumGoroutine") && !fn.body.isNone
  | none => false
theorem enter_of {P : Program} {F : Nat} (h : hasBody P F = true) (args : Array Value) (w : World) : (callFunc F args).run P w = .ok (.enter F args) w := by
  unfold hasBody at h
  split at h
  · rename_i fn hf
    rw [Bool.and_eq_true, Bool.not_eq_true', Bool.not_eq_true'] at h
    exact callFunc_enter hf h.1 h.2 args w
  · cases h
end Go.Proofs.Ytiofgaadfbjnoaa
