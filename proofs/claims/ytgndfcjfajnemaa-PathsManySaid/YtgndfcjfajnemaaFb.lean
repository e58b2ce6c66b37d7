/-
  The contract of the closure of flow.reached: a place that was met stays as it is; another one is met, and sent.
-/
import Derived.Test.YtgndfcjfajnemaaFa
import Derived.Test.YtgndfcjfajnemaaCha
namespace Go.Proofs.Ytgndfcjfajnemaa
open Go.RowKit Go.Conc

/-- The queue in a channel. -/
def Chn (w : World) (c n : Nat) (g : Nat → IV) (q : List Nat) : Prop := ∃ s r, w.heap[c]? = some (.chan n (q.map fun i => flV (g i) i).toArray false s r false)

end Go.Proofs.Ytgndfcjfajnemaa
