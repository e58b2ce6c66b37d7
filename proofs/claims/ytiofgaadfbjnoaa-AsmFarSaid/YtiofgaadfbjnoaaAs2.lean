/-
  Layer 20: gen.mark, gen.mayName, gen.Formed.
-/
import Derived.Test.YtiofgaadfbjnoaaAs1
import Derived.Test.YtiofgaadfbjnoaaWd
import Derived.Test.YtiofgaadfbjnoaaRw
import Derived.RegionTactic
import Derived.Deep.Cut
import Derived.Deep.CutRange
import Derived.Deep.RegionHeld3
namespace Go.Proofs.Ytiofgaadfbjnoaa
open Go.RowKit Go.Shelf
set_option linter.unusedVariables false

abbrev itA (x : IT) : Value := .agg #[.int .i64 x.m, .int .u16 x.c, .int .u32 x.k, .int .i64 x.t, .int .i64 x.f]
theorem gmark_any (n : Int) (w : World) : Calls Try.prog 27 #[.int .i64 n] w fun e w' => e = .returned (.agg #[.int .i64 n, .int .u16 0, .int .u32 0, .int .i64 0, .int .i64 0]) ∧ Below w.heap.size w w' := by
  have HB := Lib.hid (show Below w.heap.size w (w.alloc (.cells #[.int .i64 n, .int .u16 0, .int .u32 0, .int .i64 0, .int .i64 0] 27)) from (Below.refl _ _).alloc (Nat.le_refl _) _)
  have R1 := Lib.hid (show RowC (w.alloc (.cells #[.int .i64 n, .int .u16 0, .int .u32 0, .int .i64 0, .int .i64 0] 27)) w.heap.size #[.int .i64 n, .int .u16 0, .int .u32 0, .int .i64 0, .int .i64 0] 27 from RowC.new _ _ _ _ rfl)
  go_enter Try.func27, Try.ntmps27
  go_wp2
  exact bodyPost_ret (results_cell_row Try.results27 _ _ w.heap.size _ #[.int .i64 n, .int .u16 0, .int .u32 0, .int .i64 0, .int .i64 0] (0, 0) _ (by rfl) R1.out Try.underlying27 (by rfl) (by kernel_rfl)) rfl ⟨rfl, HB.out⟩
theorem mayName_any (x : IT) (w : World) : Calls Try.prog 30 #[.int .i64 (ik x), itA x] w fun e w' => e = .returned (.bool (mayN x)) ∧ Below w.heap.size w w' := by
  obtain ⟨K, hK⟩ : ∃ K, ik x = K := ⟨_, rfl⟩
  have hm : mayN x = if isBrK K = true then true else if K = 13 then x.f == 0 else x.t == 0 && x.f == 0 := by unfold mayN; rw [hK]
  rw [hm, hK]
  have hr := ik_range x
  rw [hK] at hr
  clear hm hK
  unfold isBrK
  obtain ⟨xm, xc, xk, xt, xf⟩ := x
  simp only
  by_cases h1 : K = 25
  · subst h1
    go_enter Try.func30, Try.ntmps30
    go_wp2
    go_ret
    exact ⟨rfl, (Below.refl _ _).alloc (Nat.le_refl _) _⟩
  have f1 : (K == 25) = false := beq_eq_false_iff_ne.2 h1
  by_cases h2 : K = 26
  · subst h2
    go_enter Try.func30, Try.ntmps30
    go_wp2
    go_ret
    exact ⟨rfl, (Below.refl _ _).alloc (Nat.le_refl _) _⟩
  have f2 : (K == 26) = false := beq_eq_false_iff_ne.2 h2
  by_cases h3 : K = 27
  · subst h3
    go_enter Try.func30, Try.ntmps30
    go_wp2
    go_ret
    exact ⟨rfl, (Below.refl _ _).alloc (Nat.le_refl _) _⟩
  have f3 : (K == 27) = false := beq_eq_false_iff_ne.2 h3
  by_cases h4 : K = 28
  · subst h4
    go_enter Try.func30, Try.ntmps30
    go_wp2
    go_ret
    exact ⟨rfl, (Below.refl _ _).alloc (Nat.le_refl _) _⟩
  have f4 : (K == 28) = false := beq_eq_false_iff_ne.2 h4
  by_cases h5 : K = 13
  · subst h5
    go_enter Try.func30, Try.ntmps30
    go_wp2
    go_ret
    exact ⟨rfl, (Below.refl _ _).alloc (Nat.le_refl _) _⟩
  have f5 : (K == 13) = false := beq_eq_false_iff_ne.2 h5
  simp only [f1, f2, f3, f4, Bool.or_self, Bool.false_eq_true, if_false, if_neg h5]
  by_cases h6 : xt = 0
  · subst h6
    go_enter Try.func30, Try.ntmps30
    go_wp2
    go_ret
    exact ⟨by simp, (Below.refl _ _).alloc (Nat.le_refl _) _⟩
  · have f6 : (xt == 0) = false := beq_eq_false_iff_ne.2 h6
    go_enter Try.func30, Try.ntmps30
    go_wp2
    go_ret
    exact ⟨by simp [f6], (Below.refl _ _).alloc (Nat.le_refl _) _⟩
theorem it_at {w : World} {B n c : Nat} {A : Option Addr} {G : Nat → IT} (h : Cel w B 5 A n c (itcell G)) {k : Nat} (hk : k < n) {x : IT} (hx : G k = x) : ∃ b off, A = some ⟨b, off, none⟩ ∧ b < B ∧
    w.cell? ⟨b, off + k * 5, none⟩ = some (.int .i64 x.m) ∧ w.cell? ⟨b, off + k * 5 + 1, none⟩ = some (.int .u16 x.c) ∧ w.cell? ⟨b, off + k * 5 + 2, none⟩ = some (.int .u32 x.k) ∧ w.cell? ⟨b, off + k * 5 + 3, none⟩ = some (.int .i64 x.t) ∧ w.cell? ⟨b, off + k * 5 + 4, none⟩ = some (.int .i64 x.f) := by
  obtain ⟨b, off, rfl, hb, hc⟩ := h.at_ (by omega)
  have hj : ∀ j, j < 5 → w.cell? ⟨b, off + k * 5 + j, none⟩ = some ((irow x).getD j undef) := fun j hj => by
    rw [Nat.add_assoc, hc _ (by omega), itcell_at G k j hj, hx]
  exact ⟨b, off, rfl, hb, hj 0 (by decide), hj 1 (by decide), hj 2 (by decide), hj 3 (by decide), hj 4 (by decide)⟩

/-! ### the marks' places, as the map has them -/
def mkv (l : List IT) : Nat → List (Int × Int)
  | 0 => []
  | k + 1 => if l[k]!.m ≠ 0 then mkv l k ++ [(l[k]!.m, (k : Int))] else mkv l k
theorem assoc_snoc (kv : List (Int × Int)) (p : Int × Int) (k : Int) : assoc (kv ++ [p]) k = (assoc kv k).or (if p.1 = k then some p.2 else none) := by
  unfold assoc
  rw [List.find?_append]
  cases h : List.find? (fun q => q.1 == k) kv with
  | some v => simp
  | none =>
    by_cases e : p.1 = k
    · simp [e]
    · simp [e]
theorem mkv_none {l : List IT} {m : Int} : ∀ k, (∀ j, j < k → l[j]!.m ≠ m) → assoc (mkv l k) m = none
  | 0, _ => rfl
  | k + 1, h => by
    have ih := mkv_none k fun j hj => h j (by omega)
    unfold mkv
    split
    · rw [assoc_snoc, ih, if_neg (h k (Nat.lt_succ_self k))]
      rfl
    · exact ih
theorem mkv_at {l : List IT} (hm : ∀ i, i < l.length → MarkOk l i) {j : Nat} (hj0 : l[j]!.m ≠ 0) : ∀ k, j < k → k ≤ l.length → assoc (mkv l k) l[j]!.m = some (j : Int)
  | 0, h, _ => absurd h (Nat.not_lt_zero _)
  | k + 1, h, hk => by
    unfold mkv
    by_cases e : j = k
    · subst e
      rw [if_pos hj0, assoc_snoc, mkv_none j fun i hi => (hm j (by omega) hj0).1 i hi, if_pos rfl]
      rfl
    · have ih := mkv_at hm hj0 k (by omega) (by omega)
      split
      · rw [assoc_snoc, ih]
        rfl
      · exact ih
theorem mkv_behind {l : List IT} (hF : FormedI l) {i : Nat} {tq : Int} (h : BehindI l i tq) : (tq == 0 || decide ((i : Int) < (assoc (mkv l l.length) tq).getD 0)) = true := by
  rcases h with rfl | ⟨j, h1, h2, h3⟩
  · rfl
  · by_cases h0 : tq = 0
    · subst h0; rfl
    · rw [← h3, mkv_at hF.1 (by rw [h3]; exact h0) l.length h2 (Nat.le_refl _)]
      simp
      exact .inr h1
theorem behind1_any (tq : Int) (p q b i : Nat) (kv : List (Int × Int)) (w : World) (hp : w.cell? ⟨p, 0, none⟩ = some (.map (some b))) (hq : w.cell? ⟨q, 0, none⟩ = some (.int .i64 (i : Int))) (hm : IsMap .i64 .i64 w b kv) :
    Calls Try.prog 29 #[.int .i64 tq, .pointer (some ⟨p, 0, none⟩), .pointer (some ⟨q, 0, none⟩)] w fun e w' => e = .returned (.bool (tq == 0 || decide ((i : Int) < (assoc kv tq).getD 0))) ∧ Below w.heap.size w w' := by
  have hl := hm.look (P := Try.prog) Try.underlying71 Try.underlying3 (Try.zeroValue3 w) tq false
  simp only [Bool.false_eq_true, if_false] at hl
  by_cases h0 : tq = 0
  · subst h0
    go_enter Try.func29, Try.ntmps29
    go_wp2
    go_ret
    exact ⟨rfl, Below.refl _ _⟩
  · have f0 : (tq == 0) = false := beq_eq_false_iff_ne.2 h0
    obtain ⟨v, hv⟩ : ∃ v, (assoc kv tq).getD 0 = v := ⟨_, rfl⟩
    rw [hv] at hl ⊢
    clear hv
    go_enter Try.func29, Try.ntmps29
    go_wp2
    go_ret
    exact ⟨by rw [f0, Bool.false_or]; rfl, Below.refl _ _⟩
end Go.Proofs.Ytiofgaadfbjnoaa
