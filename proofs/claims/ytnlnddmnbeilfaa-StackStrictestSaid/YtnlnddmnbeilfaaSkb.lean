/-
  Layer 25: stack.Strictest: of any actions.
-/
import Derived.Test.YtnlnddmnbeilfaaSka
namespace Go.Proofs.Ytnlnddmnbeilfaa
open Go.RowKit
set_option linter.unusedVariables false

/-- An action as numbers. -/
structure AC where
  k : Int
  n : Int
def acell (G : Nat → AC) (i : Nat) : Value := if i % 2 = 0 then .int .i64 (G (i / 2)).k else .int .i64 (G (i / 2)).n
theorem acell0 (G : Nat → AC) (i : Nat) : acell G (i * 2) = .int .i64 (G i).k := by
  unfold acell; rw [if_pos (by omega), show i * 2 / 2 = i by omega]
theorem acell1 (G : Nat → AC) (i : Nat) : acell G (i * 2 + 1) = .int .i64 (G i).n := by
  unfold acell; rw [if_neg (by omega), show (i * 2 + 1) / 2 = i by omega]
theorem ac_at {w : World} {B n c : Nat} {A : Option Addr} {G : Nat → AC} (h : Cel w B 2 A n c (acell G)) {k : Nat} (hk : k < n) {x : AC} (hx : G k = x) : ∃ b off, A = some ⟨b, off, none⟩ ∧ b < B ∧
    w.cell? ⟨b, off + k * 2, none⟩ = some (.int .i64 x.k) ∧ w.cell? ⟨b, off + k * 2 + 1, none⟩ = some (.int .i64 x.n) := by
  obtain ⟨b, off, rfl, hb, hc⟩ := h.at_ (by omega)
  refine ⟨b, off, rfl, hb, ?_, ?_⟩
  · rw [hc _ (by omega), acell0, hx]
  · rw [Nat.add_assoc, hc _ (by omega), acell1, hx]
/-- The strictest's place: no kind is stricter, and none behind it is its own. -/
def StrP (G : Nat → AC) (n p : Nat) : Prop := p < n ∧ ∀ j, j < n → (G p).k ≤ (G j).k ∧ (p < j → (G p).k < (G j).k)
theorem strP_uniq {G : Nat → AC} {n p q : Nat} (h : StrP G n p) (h2 : StrP G n q) : p = q := by
  have a1 := h.2 q h2.1
  have a2 := h2.2 p h.1
  by_cases e : p < q
  · have := a1.2 e; omega
  · by_cases e2 : q < p
    · have := a2.2 e2; omega
    · omega
def anyBad (G : Nat → AC) (n : Nat) : Bool := (List.range n).any fun i => !rgt9 (G i).k (G i).n
set_option maxRecDepth 100000 in
set_option maxHeartbeats 4000000 in
theorem bad1_any (x : AC) (w : World) : Calls Try.prog 15 #[.agg #[.int .i64 x.k, .int .i64 x.n]] w fun e w' => e = .returned (.bool (!rgt9 x.k x.n)) ∧ Below w.heap.size w w' := by
  have hb0 : Below w.heap.size w (w.alloc (.cells #[.int .i64 x.k, .int .i64 x.n] 26)) := (Below.refl _ _).alloc (Nat.le_refl _) _
  have HF := Lib.hid (right_all x.k x.n (w.alloc (.cells #[.int .i64 x.k, .int .i64 x.n] 26)))
  have HB := Lib.hid hb0
  clear hb0
  generalize rgt9 x.k x.n = q at *
  go_enter Try.func15, Try.ntmps15
  go_wp2_with (go_at_call 16; refine HF.out.mono ?_; rintro e w1 ⟨rfl, hB⟩)
  go_ret
  exact ⟨rfl, HB.out.trans (hB.mono HB.out.size)⟩
set_option maxRecDepth 100000 in
set_option maxHeartbeats 4000000 in
theorem yields_any (x : AC) (S : Nat) (k0 : Int) (w : World) (hS : w.cell? ⟨S, 0, none⟩ = some (.int .i64 k0)) (hlt : S < w.heap.size) : Calls Try.prog 18 #[.agg #[.int .i64 x.k, .int .i64 x.n], .pointer (some ⟨S, 0, none⟩)] w fun e w' => e = .returned (.bool (decide (x.k ≤ k0))) ∧ Below w.heap.size w w' := by
  have hb0 : Below w.heap.size w (w.alloc (.cells #[.int .i64 x.k, .int .i64 x.n] 26)) := (Below.refl _ _).alloc (Nat.le_refl _) _
  have hr : RowC (w.alloc (.cells #[.int .i64 x.k, .int .i64 x.n] 26)) w.heap.size #[.int .i64 x.k, .int .i64 x.n] 26 := RowC.new _ _ _ _ rfl
  have d0 := hr.cell 0 _ rfl
  have d1 := (hb0.cell (p := ⟨S, 0, none⟩) hlt).trans hS
  have HB := Lib.hid hb0
  clear hr hb0
  go_enter Try.func18, Try.ntmps18
  go_wp2
  go_ret
  exact ⟨rfl, HB.out⟩
set_option maxRecDepth 100000 in
set_option maxHeartbeats 4000000 in
theorem indexA_any (A : Option Addr) (n cap : Nat) (G : Nat → AC) (w : World) (hn : n ≤ 1000) (hC : Cel w w.heap.size 2 A n cap (acell G)) :
    Calls Try.prog 27 #[.slice A n cap, .func (.func 15) #[] #[]] w fun e w' =>
      (∃ z : Int, e = .returned (.int .i64 z) ∧ (decide (z ≥ 0) = anyBad G n)) ∧ Below w.heap.size w w' := by
  have HC := Lib.hid hC
  clear hC
  go_enter Try.func27, Try.ntmps27
  go_wp2
  go_loopw [8] (fun i wr => ∃ k : Nat, k ≤ n ∧ i = .int .i64 k ∧ Below w.heap.size w wr ∧ Hid (∀ j, j < k → rgt9 (G j).k (G j).n = true))
    (fun i _ => n - (intOf i).toNat)
  case atStart => exact ⟨0, Nat.zero_le _, rfl, Below.refl _ _, Lib.hid fun j hj => by omega⟩
  case round =>
    obtain ⟨k, hk, rfl, hB, hno⟩ := hrel
    have HB := Lib.hid hB
    by_cases hlt : k < n
    · obtain ⟨x, hx⟩ : ∃ x, G k = x := ⟨_, rfl⟩
      obtain ⟨b, o, rfl, hbl, q0, q1⟩ := ac_at (HC.out.below hB) hlt hx
      have HX := Lib.hid hx
      have KB := Lib.hid (bad1_any x wr)
      have i1 : (0 : Int) ≤ (k : Int) := by omega
      have i2 : (k : Int) < (n : Int) := by omega
      clear hx hB
      go_wp2_with (go_at_call 15; refine KB.out.mono ?_; rintro e w2 ⟨rfl, hB2⟩; cases hbes : rgt9 x.k x.n)
      · have HB2 : Hid (Below w.heap.size w w2) := Lib.hid (HB.out.trans (hB2.mono HB.out.size))
        go_ret
        refine ⟨⟨(k : Int), rfl, ?_⟩, HB2.out⟩
        rw [show anyBad G n = true from List.any_eq_true.2 ⟨k, List.mem_range.2 hlt, by rw [HX.out, hbes]; rfl⟩]
        simp
      · have HB2 : Hid (Below w.heap.size w w2) := Lib.hid (HB.out.trans (hB2.mono HB.out.size))
        exact ⟨⟨k + 1, by omega, by go_num, HB2.out, Lib.hid fun j hj => by
          by_cases e : j = k
          · subst e; rw [HX.out]; exact hbes
          · exact hno.out j (by omega)⟩, by simp [intOf]; omega⟩
    · obtain rfl : k = n := by omega
      clear hB
      go_wp2
      go_ret
      refine ⟨⟨-1, rfl, ?_⟩, HB.out⟩
      have : anyBad G k = false := by
        unfold anyBad
        rw [List.any_eq_false]
        intro j hj
        rw [hno.out j (List.mem_range.1 hj)]
        simp
      rw [this]; decide
set_option maxRecDepth 100000 in
theorem containsA_any (A : Option Addr) (n cap : Nat) (G : Nat → AC) (w : World) (hn : n ≤ 1000) (hC : Cel w w.heap.size 2 A n cap (acell G)) :
    Calls Try.prog 17 #[.slice A n cap, .func (.func 15) #[] #[]] w fun e w' =>
      e = .returned (.bool (anyBad G n)) ∧ Below w.heap.size w w' := by
  have hI := indexA_any A n cap G w hn hC
  generalize anyBad G n = q at hI ⊢
  have HI := Lib.hid hI
  clear hC hI
  go_enter Try.func17, Try.ntmps17
  go_wp2_with (go_at_call 27; refine HI.out.mono ?_; rintro e w1 ⟨⟨z, rfl, hz⟩, hB⟩)
  go_ret
  exact ⟨by first | rfl | (rw [← hz]; rfl), hB⟩
theorem infoAc : (Try.prog.info? 26).map (·.size) = some 2 := by kernel_rfl
abbrev ac0 : Array Value := #[.int .i64 0, .int .i64 0]
set_option maxRecDepth 100000 in
set_option maxHeartbeats 4000000 in
theorem str_empty (A : Option Addr) (c : Nat) (w : World) : Calls Try.prog 7 #[.slice A 0 c] w fun e w' => e = .returned (.tuple #[.agg ac0, .int .i64 4]) ∧ Below w.heap.size w w' := by
  have r0 : RowC (w.alloc (.cells ac0 26)) w.heap.size ac0 26 := RowC.new _ _ _ _ rfl
  have hb : Below w.heap.size w (w.alloc (.cells ac0 26)) := (Below.refl _ _).alloc (Nat.le_refl _) _
  have R0 := Lib.hid r0
  have HB := Lib.hid hb
  have d0 := r0.cell 0 _ rfl
  have d1 := r0.cell 1 _ rfl
  have f0 := r0.frozen 0
  have f1 := r0.frozen 1
  clear r0 hb
  go_enter Try.func7, Try.ntmps7
  go_wp2
  exact bodyPost_ret (results_ct Try.results7 _ _ w.heap.size _ _ (0, 0) _ (.int .i64 4) (by rfl) (by rfl) R0.out Try.underlying26 (by rfl) (show _ = some 2 from infoAc)) rfl
    ⟨rfl, HB.out⟩
set_option maxRecDepth 100000 in
set_option maxHeartbeats 4000000 in
theorem str_bad (A : Option Addr) (n c : Nat) (G : Nat → AC) (w : World) (h0 : 0 < n) (hn : n ≤ 1000) (hC : Cel w w.heap.size 2 A n c (acell G)) (hbad : anyBad G n = true) : Calls Try.prog 7 #[.slice A n c] w fun e w' => e = .returned (.tuple #[.agg ac0, .int .i64 16]) ∧ Below w.heap.size w w' := by
  have r0 : RowC (w.alloc (.cells ac0 26)) w.heap.size ac0 26 := RowC.new _ _ _ _ rfl
  have hb : Below w.heap.size w (w.alloc (.cells ac0 26)) := (Below.refl _ _).alloc (Nat.le_refl _) _
  have HF := Lib.hid (containsA_any A n c G (w.alloc (.cells ac0 26)) hn ((hC.below hb).more hb.size))
  rw [hbad] at HF
  have R0 := Lib.hid r0
  have HB := Lib.hid hb
  have i1 : ¬ (n : Int) = 0 := by omega
  clear r0 hb hC hbad
  go_enter Try.func7, Try.ntmps7
  go_wp2_with fail
  refine HF.out.mono ?_
  rintro e w1 ⟨rfl, hB1⟩
  have r1 := R0.out.below hB1 R0.out.lt
  have hb1 := HB.out.trans (hB1.mono HB.out.size)
  have R1 := Lib.hid r1
  have HB1 := Lib.hid hb1
  have d0 := r1.cell 0 _ rfl
  have d1 := r1.cell 1 _ rfl
  have f0 := r1.frozen 0
  have f1 := r1.frozen 1
  clear r1 hb1 hB1
  go_wp2
  exact bodyPost_ret (results_ct Try.results7 _ _ w.heap.size _ _ (0, 0) _ (.int .i64 16) (by rfl) (by rfl) (show RowC _ w.heap.size ac0 26 from ((R1.out.set 0 (.int .i64 0)).set 1 (.int .i64 0))) Try.underlying26 (by rfl) (show _ = some 2 from infoAc)) rfl
    ⟨rfl, ((HB1.out.setCell (by simp) _).setCell (by simp) _)⟩
theorem RowC.over {w : World} {b S : Nat} {cs : Array Value} {T : TypeId} (h : RowC w b cs T) (hS : b < S) (i : Nat) (v : Value) : RowC (w.setCell ⟨S, i, none⟩ v) b cs T :=
  h.below ((Below.refl S w).setCell (Nat.le_refl _) v) hS
set_option maxRecDepth 100000 in
set_option maxHeartbeats 8000000 in
theorem str_good (A : Option Addr) (n c : Nat) (G : Nat → AC) (w : World) (h0 : 0 < n) (hn : n ≤ 1000) (hC : Cel w w.heap.size 2 A n c (acell G)) (hbad : anyBad G n = false) : Calls Try.prog 7 #[.slice A n c] w fun e w' => (∃ p, StrP G n p ∧ e = .returned (.tuple #[.agg #[.int .i64 (G p).k, .int .i64 (G p).n], .int .i64 0])) ∧ Below w.heap.size w w' := by
  have r0 : RowC (w.alloc (.cells ac0 26)) w.heap.size ac0 26 := RowC.new _ _ _ _ rfl
  have hb : Below w.heap.size w (w.alloc (.cells ac0 26)) := (Below.refl _ _).alloc (Nat.le_refl _) _
  have HF := Lib.hid (containsA_any A n c G (w.alloc (.cells ac0 26)) hn ((hC.below hb).more hb.size))
  rw [hbad] at HF
  have R0 := Lib.hid r0
  have HB := Lib.hid hb
  have HC := Lib.hid hC
  have i1 : ¬ (n : Int) = 0 := by omega
  clear r0 hb hC hbad
  go_enter Try.func7, Try.ntmps7
  go_wp2_with fail
  refine HF.out.mono ?_
  rintro e w1 ⟨rfl, hB1⟩
  have r1 := R0.out.below hB1 R0.out.lt
  have hb1 := HB.out.trans (hB1.mono HB.out.size)
  obtain ⟨x0, hx0⟩ : ∃ x, G 0 = x := ⟨_, rfl⟩
  obtain ⟨b, o, rfl, hbl, q0, q1⟩ := ac_at (HC.out.below hb1) h0 hx0
  rw [Nat.zero_mul, Nat.add_zero] at q0 q1
  obtain ⟨S, hS⟩ : ∃ S, w1.heap.size = S := ⟨_, rfl⟩
  have hHS : w.heap.size < S := by rw [← hS]; exact r1.lt
  have i2 : (0 : Int) < (n : Int) := by omega
  have R1 := Lib.hid ((r1.alloc (.cells #[.int .i64 x0.k, .int .i64 x0.n] 26)))
  have RS : Hid (RowC (w1.alloc (.cells #[.int .i64 x0.k, .int .i64 x0.n] 26)) S #[.int .i64 x0.k, .int .i64 x0.n] 26) := Lib.hid (by rw [← hS]; exact RowC.new _ _ _ _ rfl)
  have HB1 := Lib.hid (hb1.alloc (by omega) (.cells #[.int .i64 x0.k, .int .i64 x0.n] 26))
  have HX0 := Lib.hid hx0
  clear r1 hb1 hB1 hx0
  go_wp2
  clear hS
  go_loopw [23] (fun i wr => ∃ k p : Nat, k ≤ n ∧ i = .int .i64 k ∧ Below w.heap.size w wr ∧ Hid (RowC wr w.heap.size ac0 26) ∧ Hid (RowC wr S #[.int .i64 (G p).k, .int .i64 (G p).n] 26) ∧ Hid ((k = 0 ∧ p = 0) ∨ StrP G k p))
    (fun i _ => n - (intOf i).toNat)
  case atStart => exact ⟨0, 0, Nat.zero_le _, rfl, HB1.out, R1, by rw [HX0.out]; exact RS, Lib.hid (.inl ⟨rfl, rfl⟩)⟩
  case round =>
    clear R1 RS HB1 HX0 q0 q1 R0 HB HF
    obtain ⟨k, p, hk, rfl, hB, R1, RS, HP⟩ := hrel
    by_cases hlt : k < n
    · obtain ⟨x, hx⟩ : ∃ x, G k = x := ⟨_, rfl⟩
      obtain ⟨y, hy⟩ : ∃ y, G p = y := ⟨_, rfl⟩
      rw [hy] at RS
      obtain ⟨b', o', he, hbl', q0, q1⟩ := ac_at (HC.out.below hB) hlt hx
      obtain ⟨rfl, rfl⟩ : b = b' ∧ o = o' := by injection he with he; injection he with h1 h2; exact ⟨h1, h2⟩
      have i3 : (0 : Int) ≤ (k : Int) := by omega
      have i4 : (k : Int) < (n : Int) := by omega
      have hwS := RS.out.lt
      have RS2 := RS.out.alloc (.cells #[.int .i64 x.k, .int .i64 x.n] 26)
      have R2 := R1.out.alloc (.cells #[.int .i64 x.k, .int .i64 x.n] 26)
      have RX : RowC (wr.alloc (.cells #[.int .i64 x.k, .int .i64 x.n] 26)) wr.heap.size #[.int .i64 x.k, .int .i64 x.n] 26 := RowC.new _ _ _ _ rfl
      have hb2 := hB.alloc hB.size (.cells #[.int .i64 x.k, .int .i64 x.n] 26)
      have KY := Lib.hid (yields_any x S y.k (wr.alloc (.cells #[.int .i64 x.k, .int .i64 x.n] 26)) (RS2.cell 0 _ rfl) RS2.lt)
      have HRS2 := Lib.hid RS2
      have HR2 := Lib.hid R2
      have HRX := Lib.hid RX
      have HB2 := Lib.hid hb2
      have HX := Lib.hid hx
      have HY := Lib.hid hy
      clear RS2 R2 RX hb2 hB he hx hy RS R1
      by_cases hle : x.k ≤ y.k
      · rw [decide_eq_true hle] at KY
        go_wp2_with (go_at_call 18; refine KY.out.mono ?_; rintro e w2 ⟨rfl, hB2⟩; have rs3 := HRS2.out.below hB2 HRS2.out.lt; have r3 := HR2.out.below hB2 HR2.out.lt; have rx3 := HRX.out.below hB2 HRX.out.lt; have hb3 := HB2.out.trans (hB2.mono HB2.out.size); have H3 := Lib.hid rs3; have HR3 := Lib.hid r3; have HB3 := Lib.hid hb3; have d0 := rx3.cell 0 _ rfl; have d1 := rx3.cell 1 _ rfl; have e0 := rs3.cell 0 _ rfl; have e1 := rs3.cell 1 _ rfl; have f0 := rs3.frozen 0; have f1 := rs3.frozen 1; clear rs3 r3 rx3 hb3 hB2)
        have hr4 : RowC ((w2.setCell ⟨S, 0, none⟩ (.int .i64 x.k)).setCell ⟨S, 1, none⟩ (.int .i64 x.n)) S #[.int .i64 x.k, .int .i64 x.n] 26 := (H3.out.set 0 (.int .i64 x.k)).set 1 (.int .i64 x.n)
        exact ⟨⟨k + 1, k, by omega, by go_num, (HB3.out.setCell (by show w.heap.size ≤ S; omega) _).setCell (by show w.heap.size ≤ S; omega) _, Lib.hid ((HR3.out.over hHS 0 _).over hHS 1 _), by rw [HX.out]; exact Lib.hid hr4, Lib.hid (.inr ⟨Nat.lt_succ_self k, fun j hj => by
          rcases HP.out with ⟨h1, h2⟩ | h
          · have : j = k := by omega
            subst this
            exact ⟨Int.le_refl _, fun h => absurd h (Nat.lt_irrefl _)⟩
          · by_cases e : j = k
            · subst e; exact ⟨Int.le_refl _, fun h => absurd h (Nat.lt_irrefl _)⟩
            · have h3 := (h.2 j (by omega)).1
              rw [HY.out] at h3
              rw [HX.out]
              exact ⟨by omega, fun h => absurd h (by omega)⟩⟩)⟩, by simp [intOf]; omega⟩
      · rw [decide_eq_false hle] at KY
        go_wp2_with (go_at_call 18; refine KY.out.mono ?_; rintro e w2 ⟨rfl, hB2⟩; have H3 := Lib.hid (HRS2.out.below hB2 HRS2.out.lt); have HR3 := Lib.hid (HR2.out.below hB2 HR2.out.lt); have HB3 := Lib.hid (HB2.out.trans (hB2.mono HB2.out.size)); clear hB2)
        exact ⟨⟨k + 1, p, by omega, by go_num, HB3.out, HR3, by rw [HY.out]; exact H3, Lib.hid (.inr (by
          rcases HP.out with ⟨h1, h2⟩ | h
          · subst h1; subst h2
            have h5 := HX.out.symm.trans HY.out
            subst h5
            omega
          · refine ⟨by have := h.1; omega, fun j hj => ?_⟩
            by_cases e : j = k
            · subst e; rw [HX.out, HY.out]; exact ⟨by omega, fun _ => by omega⟩
            · exact h.2 j (by omega)))⟩, by simp [intOf]; omega⟩
    · obtain rfl : k = n := by omega
      have hP : StrP G k p := by
        rcases HP.out with ⟨h1, _⟩ | h
        · omega
        · exact h
      have HB2 := Lib.hid hB
      have d0 := R1.out.cell 0 _ rfl
      have d1 := R1.out.cell 1 _ rfl
      have f0 := R1.out.frozen 0
      have f1 := R1.out.frozen 1
      have e0 := RS.out.cell 0 _ rfl
      have e1 := RS.out.cell 1 _ rfl
      clear hB
      go_wp2
      exact bodyPost_ret (results_ct Try.results7 _ _ w.heap.size _ _ (0, 0) _ (.int .i64 0) (by rfl) (by rfl) (show RowC _ w.heap.size #[.int .i64 (G p).k, .int .i64 (G p).n] 26 from ((R1.out.set 0 (.int .i64 (G p).k)).set 1 (.int .i64 (G p).n))) Try.underlying26 (by rfl) (show _ = some 2 from infoAc)) rfl
        ⟨⟨p, hP, rfl⟩, ((HB2.out.setCell (by simp) _).setCell (by simp) _)⟩
end Go.Proofs.Ytnlnddmnbeilfaa
