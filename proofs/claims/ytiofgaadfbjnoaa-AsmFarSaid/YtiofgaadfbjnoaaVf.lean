/-
  The contracts of the doings of a run that divide, or load a word.
-/
import Derived.Test.YtiofgaadfbjnoaaVc
import Derived.Test.YtiofgaadfbjnoaaWb
import Derived.Deep.RegionLaw
namespace Go.Proofs.Ytiofgaadfbjnoaa
open Go.RowKit

theorem div32 (a o : Nat) (ha : a < 4294967296) : (a : Int) / (o : Int) % 4294967296 = ((a / o : Nat) : Int) := by
  rw [← Int.natCast_ediv]
  have := Nat.div_le_self a o
  generalize a / o = q at *
  omega
/-- An append of cells as a step of a region that draws its order: what is no cell of the row stays. -/
theorem step_cells4 {P : Program} {w : World} {ops : Array Oper} {o : Oper} {a : Act} {K : Act → World → Prop} {Q : Exit → Act → World → Prop} {R : Prop} (hgd : o.guard = none) (s x : Operand) (t E : TypeId)
    (ho : o.op = .call { callee := .builtin .append, args := #[s, x], argTypes := #[t, t] })
    (ht : P.underlying t = some (.slice E)) {zv : Value} {z by_ : Nat} (hinfo : (P.info? E).map (fun i => (i.zero, i.size, i.bytes)) = some (some zv, z, by_)) (hzs : zv.cells.size = z) (hz : 0 < z)
    {base n c m d : Nat} {A C : Option Addr} {F G : Nat → Value} (hs : a.eval s = .slice A n c) (hown : OwnC w base E z A n c F) (hx : a.eval x = .slice C m d) {B : Nat} (hr : Cel w B z C m d G) (h1c : ∀ i, i < m * z → (G i).oneCell' = true)
    (hn : n + m ≤ maxLen) (hby : (n + m) * by_ ≤ 140737488355328) (hbase : base ≤ w.heap.size) (N : Nat) (hN : n + m = N) (H : Nat → Value) (hH : ∀ i, i < N * z → catC (n * z) F G i = H i)
    (h : ∀ A' c' w', OwnC w' base E z A' N c' H → w.grownBy w' (Value.slice A n c).ownBlock → Below base w w' → K (a.put o.dst (.slice A' N c')) w') :
    if Region.wanted o (yielded ops a.tmps) = true then Oper.wp P o a w K Q else R := by
  subst hN
  have hw : Region.wanted o (yielded ops a.tmps) = true := by simp [Region.wanted, hgd]
  rw [if_pos hw]
  exact wp_cells w s x t E ho ht hinfo hzs hz hs hown hx hr h1c hn hby hbase fun A' c' w' h1 h2 h3 => h A' c' w' (h1.congr hH) h2 h3
theorem infoN : (Try.prog.info? 3).map (fun i => (i.zero, i.size, i.bytes)) = some (some (.int .i64 0), 1, 8) := by kernel_rfl
theorem one_int (w : World) (k : Nat) (E : TypeId) : Cel (w.alloc (.cells #[.int .i64 k] E)) (w.heap.size + 1) 1 (some ⟨w.heap.size, 0, none⟩) 1 1 (fun _ => .int .i64 k) :=
  Cel.mk_ (by omega) (by decide) (by decide) (fun i hi => by
    obtain rfl : i = 0 := by omega
    simp)
theorem lcell_cat (l : List Nat) (k : Nat) : ∀ i, i < (l.length + 1) * 1 → catC (l.length * 1) (lcell l) (fun _ => .int .i64 (k : Nat)) i = lcell (l ++ [k]) i := fun i hi => by
  unfold catC lcell
  by_cases h : i < l.length * 1
  · rw [if_pos h]
    simp [List.getD_eq_getElem?_getD, List.getElem?_append_left (show i < l.length by omega)]
  · rw [if_neg h]
    obtain rfl : i = l.length := by omega
    simp [List.getD_eq_getElem?_getD]

end Go.Proofs.Ytiofgaadfbjnoaa
