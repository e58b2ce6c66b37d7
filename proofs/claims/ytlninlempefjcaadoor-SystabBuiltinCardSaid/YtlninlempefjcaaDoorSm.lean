/-
  The laws' own of and light of layer 11: a document's rows as the program's.
-/
import Derived.Test.YtlninlempefjcaaDoorSe
import Derived.Test.YtlninlempefjcaaDoorMem
import Derived.Test.YtlninlempefjcaaDoorSp
import Derived.Deep.RegionHeld3
namespace Go.Proofs.YtlninlempefjcaaDoor
open Go.RowKit
set_option linter.unusedVariables false

theorem step_cells2 {P : Program} {w : World} {ops : Array Oper} {o : Oper} {a : Act} {K : Act → World → Prop} {Q : Exit → Act → World → Prop} {R : Prop} (hgd : o.guard = none) (s x : Operand) (t E : TypeId)
    (ho : o.op = .call { callee := .builtin .append, args := #[s, x], argTypes := #[t, t] })
    (ht : P.underlying t = some (.slice E)) {zv : Value} {z by_ : Nat} (hinfo : (P.info? E).map (fun i => (i.zero, i.size, i.bytes)) = some (some zv, z, by_)) (hzs : zv.cells.size = z) (hz : 0 < z)
    {base n c m d : Nat} {A C : Option Addr} {F G : Nat → Value} (hs : a.eval s = .slice A n c) (hown : OwnC w base E z A n c F) (hx : a.eval x = .slice C m d) {B : Nat} (hr : Cel w B z C m d G) (h1c : ∀ i, i < m * z → (G i).oneCell' = true)
    (hn : n + m ≤ maxLen) (hby : (n + m) * by_ ≤ 140737488355328) (hbase : base ≤ w.heap.size) (N : Nat) (hN : n + m = N) (H : Nat → Value) (hH : ∀ i, i < N * z → catC (n * z) F G i = H i)
    (h : ∀ A' c' w', OwnC w' base E z A' N c' H → Below base w w' → K (a.put o.dst (.slice A' N c')) w') :
    if Region.wanted o (yielded ops a.tmps) = true then Oper.wp P o a w K Q else R := by
  subst hN
  have hw : Region.wanted o (yielded ops a.tmps) = true := by simp [Region.wanted, hgd]
  rw [if_pos hw]
  exact wp_cells w s x t E ho ht hinfo hzs hz hs hown hx hr h1c hn hby hbase fun A' c' w' h1 _ h3 => h A' c' w' (h1.congr hH) h3
theorem infoT2 : (Tryd.prog.info? 36).map (fun i => (i.zero, i.size, i.bytes)) = some (some (.agg sr0), 8, 72) := by kernel_rfl
def rcell (T : Nat → SR) (q : Nat) : Value := (srow (T (q / 8))).getD (q % 8) undef
theorem rcell_at (T : Nat → SR) (i c : Nat) (hc : c < 8) : rcell T (i * 8 + c) = (srow (T i)).getD c undef := by
  unfold rcell
  rw [show (i * 8 + c) / 8 = i by omega, show (i * 8 + c) % 8 = c by omega]
theorem srow_one (r : SR) (c : Nat) (hc : c < 1 * 8) : ((srow r).getD c undef).oneCell' = true := by
  have h : c = 0 ∨ c = 1 ∨ c = 2 ∨ c = 3 ∨ c = 4 ∨ c = 5 ∨ c = 6 ∨ c = 7 := by omega
  rcases h with rfl | rfl | rfl | rfl | rfl | rfl | rfl | rfl <;> rfl
theorem one_row (w : World) (r : SR) (E : TypeId) : Cel (w.alloc (.cells #[.string r.nm, .int .i64 r.n0, .int .i64 r.n1, .int .i64 r.n2, .int .i64 r.n3, .int .i64 r.n4, .int .i64 r.mx, .int .i64 r.sb] E)) (w.heap.size + 1) 8 (some ⟨w.heap.size, 0, none⟩) 1 1 (fun c => (srow r).getD c undef) :=
  Cel.mk_ (by omega) (by decide) (by decide) (fun c hc => by
    rw [Nat.zero_add]
    have rr := RowC.new w #[.string r.nm, .int .i64 r.n0, .int .i64 r.n1, .int .i64 r.n2, .int .i64 r.n3, .int .i64 r.n4, .int .i64 r.mx, .int .i64 r.sb] E _ rfl
    have h : c = 0 ∨ c = 1 ∨ c = 2 ∨ c = 3 ∨ c = 4 ∨ c = 5 ∨ c = 6 ∨ c = 7 := by omega
    rcases h with rfl | rfl | rfl | rfl | rfl | rfl | rfl | rfl
    all_goals exact rr.cell _ _ rfl)
theorem rcell_cat (T : Nat → SR) (k : Nat) (r : SR) (hr : T k = r) : ∀ i, i < (k + 1) * 8 → catC (k * 8) (rcell T) (fun c => (srow r).getD c undef) i = rcell T i := fun i hi => by
  unfold catC
  by_cases h : i < k * 8
  · rw [if_pos h]
  · rw [if_neg h]
    obtain ⟨c, rfl⟩ : ∃ c, i = k * 8 + c := ⟨i - k * 8, by omega⟩
    rw [Nat.add_sub_cancel_left, rcell_at T k c (by omega), hr]
set_option maxRecDepth 100000 in
set_option maxHeartbeats 4000000 in
theorem of11_any (A : Option Addr) (n cap : Nat) (T : Nat → SR) (w : World) (hn : n ≤ 1000) (ht : TbA w A n T) :
    Calls Tryd.prog 11 #[.slice A n cap] w fun e w' => ∃ A' c', e = .returned (.slice A' n c') ∧ OwnC w' w.heap.size 36 8 A' n c' (rcell T) ∧ Below w.heap.size w w' := by
  have HT := Lib.hid ht
  clear ht
  go_enter Tryd.func11, Tryd.ntmps11
  go_wp2
  go_loopw [3, 4] (fun v i wr => ∃ (k : Nat) (A' : Option Addr) (c' : Nat), k ≤ n ∧ i = .int .i64 k ∧ v = .slice A' k c' ∧ OwnC wr w.heap.size 36 8 A' k c' (rcell T) ∧ Below w.heap.size w wr)
    (fun _ i _ => n - (intOf i).toNat)
  case atStart => exact ⟨0, none, 0, Nat.zero_le _, rfl, rfl, OwnC.nil_, Below.refl _ _⟩
  case round =>
    obtain ⟨k, A', c', hk, rfl, rfl, hown, hB⟩ := hrel
    by_cases hlt : k < n
    · rcases HT.out with h0 | ⟨b, o, rfl, hT0⟩
      · omega
      have hTb := hT0.below hB (Nat.le_refl _)
      have hb := hT0.1
      obtain ⟨q0, q1, q2, q3, q4, q5, q6, q7⟩ := hTb.2 k hlt
      obtain ⟨r, hr⟩ : ∃ r, T k = r := ⟨_, rfl⟩
      have HW := Lib.hid (rcell_cat T k r hr)
      rw [hr] at q0 q1 q2 q3 q4 q5 q6 q7
      have i1 : (0 : Int) ≤ (k : Int) := by omega
      have i2 : (k : Int) < (n : Int) := by omega
      clear hTb hr hT0
      go_wp2
      go_region_held3 (fun w' => w'.cell? ⟨b, o + k * 8, none⟩ = some (.string r.nm) ∧ w'.cell? ⟨b, o + k * 8 + 1, none⟩ = some (.int .i64 r.n0) ∧ w'.cell? ⟨b, o + k * 8 + 2, none⟩ = some (.int .i64 r.n1) ∧ w'.cell? ⟨b, o + k * 8 + 3, none⟩ = some (.int .i64 r.n2) ∧ w'.cell? ⟨b, o + k * 8 + 4, none⟩ = some (.int .i64 r.n3) ∧ w'.cell? ⟨b, o + k * 8 + 5, none⟩ = some (.int .i64 r.n4) ∧ w'.cell? ⟨b, o + k * 8 + 6, none⟩ = some (.int .i64 r.mx) ∧ w'.cell? ⟨b, o + k * 8 + 7, none⟩ = some (.int .i64 r.sb))
        (first
          | go_keep
          | exact ⟨(hK.cell (p := ⟨b, o + k * 8, none⟩) hb).trans q0, (hK.cell (p := ⟨b, o + k * 8 + 1, none⟩) hb).trans q1, (hK.cell (p := ⟨b, o + k * 8 + 2, none⟩) hb).trans q2, (hK.cell (p := ⟨b, o + k * 8 + 3, none⟩) hb).trans q3, (hK.cell (p := ⟨b, o + k * 8 + 4, none⟩) hb).trans q4, (hK.cell (p := ⟨b, o + k * 8 + 5, none⟩) hb).trans q5, (hK.cell (p := ⟨b, o + k * 8 + 6, none⟩) hb).trans q6, (hK.cell (p := ⟨b, o + k * 8 + 7, none⟩) hb).trans q7⟩)
        (first | (refine step_cells2 (by rfl) _ _ _ 36 (by rfl) Tryd.underlying27 infoT2 (by rfl) (by decide) (by rfl) (hown.alloc _).drew (by rfl) (one_row wr r 36) (srow_one r) (by unfold maxLen; omega) (by omega) (by have := hB.size; simp; omega) (k + 1) rfl (rcell T) HW.out ?_; rintro A2 c2 w2 hown2 hB2; have hK : Below w.heap.size wr w2 := ((Below.refl _ _).alloc hB.size _).drew.trans hB2))
      go_wp2
      exact ⟨⟨k + 1, A2, c2, by omega, by go_num, rfl, hown2, hB.trans hK⟩, by simp [intOf]; omega⟩
    · obtain rfl : k = n := by omega
      go_wp2
      go_ret
      exact ⟨_, _, rfl, hown, hB⟩
end Go.Proofs.YtlninlempefjcaaDoor
