/-
  Layer 25: the document's own Strictest; the chapter's examples.
-/
import Derived.Test.YtnlnddmnbeilfaaSkb
namespace Go.Proofs.Ytnlnddmnbeilfaa
open Go.RowKit
set_option linter.unusedVariables false

theorem infoA9 : (Try.prog.info? 25).map (·.size) = some 2 := by kernel_rfl
theorem results_c1 {P : Program} {fn : Func} {p : Tmp} {ty : TypeId} (h : fn.results = #[.cell p ty]) (tmps : Array Value) (w : World) (g : Nat) (t : TypeId) (cs : Array Value) (fr : Nat × Nat) (d : TypeDesc)
    (hp : tmps.getD p undef = .pointer (some ⟨g, 0, none⟩)) (hg : w.heap[g]? = some (.cells cs t fr))
    (hu : P.underlying ty = some d) (hd : (match d with | .struct _ | .array _ _ => true | _ => false) = true) (hi : (P.info? ty).map (·.size) = some cs.size) :
    (results fn tmps).run P w = .ok (.agg cs) w := by
  have hp' : tmps[p]?.getD undef = .pointer (some ⟨g, 0, none⟩) := by simpa using hp
  simp [results, h, hp', asAddr, run_loadVar_row w g t ty cs fr d hg hu hd hi]
/-- The strictest of those from q on. -/
def SufP (G : Nat → AC) (q n p : Nat) : Prop := (q = n ∧ p + 1 = n) ∨ (q ≤ p ∧ p < n ∧ ∀ j, q ≤ j → j < n → (G p).k ≤ (G j).k ∧ (p < j → (G p).k < (G j).k))
set_option maxRecDepth 100000 in
set_option maxHeartbeats 8000000 in
theorem ref_str (A : Option Addr) (n c : Nat) (G : Nat → AC) (w : World) (h0 : 0 < n) (hn : n ≤ 1000) (hC : Cel w w.heap.size 2 A n c (acell G)) : Calls Try.prog 9 #[.slice A n c] w fun e w' => (∃ p, StrP G n p ∧ e = .returned (.agg #[.int .i64 (G p).k, .int .i64 (G p).n])) ∧ Below w.heap.size w w' := by
  have r0 : RowC (w.alloc (.cells ac0 25)) w.heap.size ac0 25 := RowC.new _ _ _ _ rfl
  have hb : Below w.heap.size w (w.alloc (.cells ac0 25)) := (Below.refl _ _).alloc (Nat.le_refl _) _
  obtain ⟨m, rfl⟩ : ∃ m, n = m + 1 := ⟨n - 1, by omega⟩
  obtain ⟨x0, hx0⟩ : ∃ x, G m = x := ⟨_, rfl⟩
  obtain ⟨b, o, rfl, hbl, q0, q1⟩ := ac_at (hC.below hb) (show m < m + 1 by omega) hx0
  have HC := Lib.hid hC
  obtain ⟨W, hW⟩ : ∃ W, w.alloc (.cells ac0 25) = W := ⟨_, rfl⟩
  have hs : W.heap.size = w.heap.size + 1 := by rw [← hW]; simp
  have R1 := Lib.hid (r0.alloc (.cells #[.int .i64 x0.k, .int .i64 x0.n] 25))
  have RS : Hid (RowC ((w.alloc (.cells ac0 25)).alloc (.cells #[.int .i64 x0.k, .int .i64 x0.n] 25)) (w.heap.size + 1) #[.int .i64 x0.k, .int .i64 x0.n] 25) := Lib.hid (RowC.new _ _ _ _ (by simp))
  have HB1 := Lib.hid (hb.alloc hb.size (.cells #[.int .i64 x0.k, .int .i64 x0.n] 25))
  have HX0 := Lib.hid hx0
  have i2 : (0 : Int) ≤ (m : Int) := by omega
  have i3 : (m : Int) < (m : Int) + 1 := by omega
  clear r0 hb hC hx0 hW hs
  go_enter Try.func9, Try.ntmps9
  go_wp2
  go_loopw [4] (fun i wr => ∃ q p : Nat, q ≤ m + 1 ∧ i = .int .i64 ((q : Int) - 1) ∧ Below w.heap.size w wr ∧ Hid (RowC wr w.heap.size ac0 25) ∧ Hid (RowC wr (w.heap.size + 1) #[.int .i64 (G p).k, .int .i64 (G p).n] 25) ∧ Hid (SufP G q (m + 1) p))
    (fun i _ => (intOf i + 1).toNat)
  case atStart => exact ⟨m + 1, m, Nat.le_refl _, by go_num, HB1.out, R1, by rw [HX0.out]; exact RS, Lib.hid (.inl ⟨rfl, rfl⟩)⟩
  case round =>
    clear R1 RS HB1 HX0 q0 q1
    obtain ⟨q, p, hk, rfl, hB, R1, RS, HP⟩ := hrel
    by_cases hlt : 0 < q
    · obtain ⟨k, rfl⟩ : ∃ k, q = k + 1 := ⟨q - 1, by omega⟩
      have hkm : k < m + 1 := by omega
      obtain ⟨x, hx⟩ : ∃ x, G k = x := ⟨_, rfl⟩
      obtain ⟨y, hy⟩ : ∃ y, G p = y := ⟨_, rfl⟩
      rw [hy] at RS
      obtain ⟨b', o', he, hbl', q0, q1⟩ := ac_at (HC.out.below hB) hkm hx
      obtain ⟨rfl, rfl⟩ : b = b' ∧ o = o' := by injection he with he; injection he with h1 h2; exact ⟨h1, h2⟩
      have ek : ((k + 1 : Nat) : Int) - 1 = (k : Int) := by omega
      have i4 : (0 : Int) ≤ (k : Int) := by omega
      have i5 : (k : Int) < (m : Int) + 1 := by omega
      have e0 := RS.out.cell 0 _ rfl
      have e1 := RS.out.cell 1 _ rfl
      have f0 := RS.out.frozen 0
      have f1 := RS.out.frozen 1
      have HB := Lib.hid hB
      have HX := Lib.hid hx
      have HY := Lib.hid hy
      have HS : Hid (w.heap.size + 1 < wr.heap.size) := Lib.hid RS.out.lt
      rw [ek]
      clear he hx hy hB ek
      by_cases hle : x.k < y.k
      · have HLE := Lib.hid hle
        go_wp2
        go_quiet (fail)
        have hBq : Below w.heap.size w (wr.drewN nq) := ⟨HB.out.os, HB.out.tape, HB.out.output, HB.out.size, HB.out.block⟩
        have g0 : (wr.drewN nq).cell? ⟨b, o + k * 2, none⟩ = some (.int .i64 x.k) := q0
        have g1 : (wr.drewN nq).cell? ⟨b, o + k * 2 + 1, none⟩ = some (.int .i64 x.n) := q1
        have t0 : (wr.drewN nq).frozen? ⟨w.heap.size + 1, 0, none⟩ = false := f0
        have t1 : (wr.drewN nq).frozen? ⟨w.heap.size + 1, 1, none⟩ = false := f1
        have s0 : (wr.drewN nq).cell? ⟨w.heap.size + 1, 0, none⟩ = some (.int .i64 y.k) := e0
        have s1 : (wr.drewN nq).cell? ⟨w.heap.size + 1, 1, none⟩ = some (.int .i64 y.n) := e1
        have hRS : RowC (wr.drewN nq) (w.heap.size + 1) #[.int .i64 y.k, .int .i64 y.n] 25 := RS.out
        have hR1 : RowC (wr.drewN nq) w.heap.size ac0 25 := R1.out
        have HRS := Lib.hid hRS
        have HR1 := Lib.hid hR1
        have HBq := Lib.hid hBq
        clear hRS hR1 hBq
        generalize wr.drewN nq = wq at *
        clear q0 q1 e0 e1 f0 f1
        go_wp2
        exact ⟨⟨k, k, by omega, by go_num, (HBq.out.setCell (by show w.heap.size ≤ w.heap.size + 1; omega) _).setCell (by show w.heap.size ≤ w.heap.size + 1; omega) _, Lib.hid ((HR1.out.over (Nat.lt_succ_self _) 0 _).over (Nat.lt_succ_self _) 1 _), by rw [HX.out]; exact Lib.hid ((HRS.out.set 0 (.int .i64 x.k)).set 1 (.int .i64 x.n)), Lib.hid (.inr ⟨Nat.le_refl _, hkm, fun j hj hj2 => by
          have hl := HLE.out
          rcases HP.out with ⟨h1, h2⟩ | ⟨h1, h2, h3⟩
          · have e1 : p = k := by omega
            rw [← HX.out, ← HY.out, e1] at hl
            omega
          · by_cases e : j = k
            · subst e; exact ⟨Int.le_refl _, fun h => absurd h (Nat.lt_irrefl _)⟩
            · have h4 := (h3 j (by omega) hj2).1
              rw [HY.out] at h4
              rw [HX.out]
              exact ⟨by omega, fun _ => by omega⟩⟩)⟩, by simp [intOf]⟩
      · have HLE := Lib.hid hle
        go_wp2
        go_quiet (fail)
        have hBq : Below w.heap.size w (wr.drewN nq) := ⟨HB.out.os, HB.out.tape, HB.out.output, HB.out.size, HB.out.block⟩
        have g0 : (wr.drewN nq).cell? ⟨b, o + k * 2, none⟩ = some (.int .i64 x.k) := q0
        have g1 : (wr.drewN nq).cell? ⟨b, o + k * 2 + 1, none⟩ = some (.int .i64 x.n) := q1
        have t0 : (wr.drewN nq).frozen? ⟨w.heap.size + 1, 0, none⟩ = false := f0
        have t1 : (wr.drewN nq).frozen? ⟨w.heap.size + 1, 1, none⟩ = false := f1
        have s0 : (wr.drewN nq).cell? ⟨w.heap.size + 1, 0, none⟩ = some (.int .i64 y.k) := e0
        have s1 : (wr.drewN nq).cell? ⟨w.heap.size + 1, 1, none⟩ = some (.int .i64 y.n) := e1
        have hRS : RowC (wr.drewN nq) (w.heap.size + 1) #[.int .i64 y.k, .int .i64 y.n] 25 := RS.out
        have hR1 : RowC (wr.drewN nq) w.heap.size ac0 25 := R1.out
        have HRS := Lib.hid hRS
        have HR1 := Lib.hid hR1
        have HBq := Lib.hid hBq
        clear hRS hR1 hBq
        generalize wr.drewN nq = wq at *
        clear q0 q1 e0 e1 f0 f1
        go_wp2
        have hP : ∃ p', G p' = y ∧ SufP G k (m + 1) p' := by
          have hl := HLE.out
          rcases HP.out with ⟨h1, h2⟩ | ⟨h1, h2, h3⟩
          · refine ⟨p, HY.out, .inr ⟨by omega, by omega, fun j hj hj2 => ?_⟩⟩
            have e1 : j = p := by omega
            subst e1
            exact ⟨Int.le_refl _, fun h => absurd h (Nat.lt_irrefl _)⟩
          · refine ⟨p, HY.out, .inr ⟨by omega, h2, fun j hj hj2 => ?_⟩⟩
            by_cases e : j = k
            · subst e; rw [HX.out, HY.out]; exact ⟨by omega, fun h => by omega⟩
            · exact h3 j (by omega) hj2
        obtain ⟨p', hy', hP'⟩ := hP
        exact ⟨⟨k, p', by omega, by go_num, HBq.out, HR1, by rw [hy']; exact HRS, Lib.hid hP'⟩, by simp [intOf]⟩
    · obtain rfl : q = 0 := by omega
      have hP : StrP G (m + 1) p := by
        rcases HP.out with ⟨h1, _⟩ | ⟨_, h1, h2⟩
        · omega
        · exact ⟨h1, fun j hj => h2 j (Nat.zero_le _) hj⟩
      have i7 : ¬ (0 : Int) ≤ -1 := by decide
      have HB2 := Lib.hid hB
      have d0 := R1.out.cell 0 _ rfl
      have d1 := R1.out.cell 1 _ rfl
      have f0 := R1.out.frozen 0
      have f1 := R1.out.frozen 1
      have e0 := RS.out.cell 0 _ rfl
      have e1 := RS.out.cell 1 _ rfl
      clear hB
      go_wp2
      exact bodyPost_ret (results_c1 Try.results9 _ _ w.heap.size _ _ (0, 0) _ (by rfl) (show RowC _ w.heap.size #[.int .i64 (G p).k, .int .i64 (G p).n] 25 from ((R1.out.set 0 (.int .i64 (G p).k)).set 1 (.int .i64 (G p).n))) Try.underlying25 (by rfl) (show _ = some 2 from infoA9)) rfl
        ⟨⟨p, hP, rfl⟩, ((HB2.out.setCell (by simp) _).setCell (by simp) _)⟩
end Go.Proofs.Ytnlnddmnbeilfaa
