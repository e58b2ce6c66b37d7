/-
  The laws' own of and light of layer 11: a document's rows as the program's.
-/
import Derived.Test.YtcmdmnnkbliggaaGreatDoorMs
import Derived.Test.YtcmdmnnkbliggaaGreatDoorMem
import Derived.Deep.RegionHeld3
namespace Go.Proofs.YtcmdmnnkbliggaaGreatDoor
open Go.RowKit
set_option linter.unusedVariables false

theorem step_cells2 {P : Program} {w : World} {ops : Array Oper} {o : Oper} {a : Act} {K : Act → World → Prop} {Q : Exit → Act → World → Prop} {R : Prop} (hgd : o.guard = none) (s x : Operand) (t E : TypeId)
    (ho : o.op = .call { callee := .builtin .append, args := #[s, x], argTypes := #[t, t] })
    (ht : P.underlying t = some (.slice E)) {zv : Value} {z by_ : Nat} (hinfo : (P.info? E).map (fun i => (i.zero, i.size, i.bytes)) = some (some zv, z, by_)) (hzs : zv.cells.size = z) (hz : 0 < z)
    {base n c m d : Nat} {A C : Option Addr} {F G : Nat → Value} (hs : a.eval s = .slice A n c) (hown : OwnC w base E z A n c F) (hx : a.eval x = .slice C m d) {B : Nat} (hr : Cel w B z C m d G) (h1c : ∀ i, i < m * z → (G i).oneCell' = true)
    (hn : n + m ≤ maxLen) (hby : (n + m) * by_ ≤ 140737488355328) (hbase : base ≤ w.heap.size) (N : Nat) (hN : n + m = N) (H : Nat → Value) (hH : ∀ i, i < N * z → catC (n * z) F G i = H i)
    (h : ∀ A' c' w', OwnC w' base E z A' N c' H → Below base w w' → K (a.put o.dst (.slice A' N c')) w') :
    if Region.wanted o (yielded ops a.tmps) = true then Oper.wp P o a w K Q else R := by
  subst hN
  have hw : Region.wanted o (yielded ops a.tmps) = true := by simp [Region.wanted, hgd]
  rw [if_pos hw]
  exact wp_cells w s x t E ho ht hinfo hzs hz hs hown hx hr h1c hn hby hbase fun A' c' w' h1 _ h3 => h A' c' w' (h1.congr hH) h3
theorem infoT2 : (Tryz.prog.info? 114).map (fun i => (i.zero, i.size, i.bytes)) = some (some (.agg sr0), 8, 72) := by kernel_rfl
def rcell (T : Nat → SR) (q : Nat) : Value := (srow (T (q / 8))).getD (q % 8) undef
theorem rcell_at (T : Nat → SR) (i c : Nat) (hc : c < 8) : rcell T (i * 8 + c) = (srow (T i)).getD c undef := by
  unfold rcell
  rw [show (i * 8 + c) / 8 = i by omega, show (i * 8 + c) % 8 = c by omega]
theorem srow_one (r : SR) (c : Nat) (hc : c < 1 * 8) : ((srow r).getD c undef).oneCell' = true := by
  have h : c = 0 ∨ c = 1 ∨ c = 2 ∨ c = 3 ∨ c = 4 ∨ c = 5 ∨ c = 6 ∨ c = 7 := by omega
  rcases h with rfl | rfl | rfl | rfl | rfl | rfl | rfl | rfl <;> rfl
theorem one_row (w : World) (r : SR) (E : TypeId) : Cel (w.alloc (.cells #[.string r.nm, .int .i64 r.n0, .int .i64 r.n1, .int .i64 r.n2, .int .i64 r.n3, .int .i64 r.n4, .int .i64 r.mx, .int .i64 r.sb] E)) (w.heap.size + 1) 8 (some ⟨w.heap.size, 0, none⟩) 1 1 (fun c => (srow r).getD c undef) :=
  Cel.mk_ (by omega) (by decide) (by decide) (fun c hc => by
    rw [Nat.zero_add]
    have rr := RowC.new w #[.string r.nm, .int .i64 r.n0, .int .i64 r.n1, .int .i64 r.n2, .int .i64 r.n3, .int .i64 r.n4, .int .i64 r.mx, .int .i64 r.sb] E _ rfl
    have h : c = 0 ∨ c = 1 ∨ c = 2 ∨ c = 3 ∨ c = 4 ∨ c = 5 ∨ c = 6 ∨ c = 7 := by omega
    rcases h with rfl | rfl | rfl | rfl | rfl | rfl | rfl | rfl
    all_goals exact rr.cell _ _ rfl)
theorem rcell_cat (T : Nat → SR) (k : Nat) (r : SR) (hr : T k = r) : ∀ i, i < (k + 1) * 8 → catC (k * 8) (rcell T) (fun c => (srow r).getD c undef) i = rcell T i := fun i hi => by
  unfold catC
  by_cases h : i < k * 8
  · rw [if_pos h]
  · rw [if_neg h]
    obtain ⟨c, rfl⟩ : ∃ c, i = k * 8 + c := ⟨i - k * 8, by omega⟩
    rw [Nat.add_sub_cancel_left, rcell_at T k c (by omega), hr]
end Go.Proofs.YtcmdmnnkbliggaaGreatDoor
