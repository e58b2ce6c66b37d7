/-
  The contract of cond.Read at a right condition's words.
-/
import Derived.Test.YtccklmleaffgiaaGreatDoorGhq
import Derived.RegionTactic
namespace Go.Proofs.YtccklmleaffgiaaGreatDoor
open Go.Shelf Go.RowKit
set_option linter.unusedVariables false

theorem results_ctt {P : Program} {fn : Func} {p q r : Tmp} {ty : TypeId} (h : fn.results = #[.cell p ty, .tmp q, .tmp r]) (tmps : Array Value) (w : World) (g : Nat) (t : TypeId) (cs : Array Value) (fr : Nat × Nat) (d : TypeDesc) (u v : Value)
    (hp : tmps.getD p undef = .pointer (some ⟨g, 0, none⟩)) (hq : tmps.getD q undef = u) (hr : tmps.getD r undef = v) (hg : w.heap[g]? = some (.cells cs t fr))
    (hu : P.underlying ty = some d) (hd : (match d with | .struct _ | .array _ _ => true | _ => false) = true) (hi : (P.info? ty).map (·.size) = some cs.size) :
    (results fn tmps).run P w = .ok (.tuple #[.agg cs, u, v]) w := by
  have hp' : tmps[p]?.getD undef = .pointer (some ⟨g, 0, none⟩) := by simpa using hp
  have hq' : tmps[q]?.getD undef = u := by simpa using hq
  have hr' : tmps[r]?.getD undef = v := by simpa using hr
  simp [results, h, hp', hq', hr', asAddr, run_loadVar_row w g t ty cs fr d hg hu hd hi, Result.andThen]
theorem infoC : (Tryz.prog.info? 53).map (·.size) = some 4 := by kernel_rfl
abbrev zC : Array Value := #[.int .i64 0, .int .i64 0, .int .u64 0, .int .u64 0]
end Go.Proofs.YtccklmleaffgiaaGreatDoor
