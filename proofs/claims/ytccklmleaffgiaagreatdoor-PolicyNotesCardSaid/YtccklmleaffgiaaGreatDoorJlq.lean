/-
  Layer 14: what the chapter's example says.
-/
import Derived.Test.YtccklmleaffgiaaGreatDoorQ16
namespace Go.Proofs.YtccklmleaffgiaaGreatDoor
open Go.RowKit Go.Shelf
set_option linter.unusedVariables false

abbrev nmRead : ByteArray := ⟨#[114, 101, 97, 100]⟩
abbrev nmOpen : ByteArray := ⟨#[111, 112, 101, 110]⟩
abbrev exText : ByteArray := ⟨#[100, 101, 102, 97, 117, 108, 116, 32, 107, 105, 108, 108, 10, 114, 101, 97, 100, 32, 97, 108, 108, 111, 119, 10, 111, 112, 101, 110, 32, 101, 114, 114, 110, 111, 32, 49, 51, 32, 105, 102, 32, 97, 49, 32, 38, 32, 51, 32, 61, 61, 32, 48, 32, 97, 110, 100, 32, 97, 50, 32, 62, 32, 53]⟩
abbrev exLines : List (List (List UInt8)) := [[[100, 101, 102, 97, 117, 108, 116], [107, 105, 108, 108]], [[114, 101, 97, 100], [97, 108, 108, 111, 119]],
  [[111, 112, 101, 110], [101, 114, 114, 110, 111], [49, 51], [105, 102], [97, 49], [38], [51], [61, 61], [48], [97, 110, 100], [97, 50], [62], [53]]]
abbrev exRules : List RV := [⟨nmRead, 8, 0, []⟩, ⟨nmOpen, 4, 13, [⟨1, 7, 3, 0⟩, ⟨2, 5, 0, 5⟩]⟩]
theorem nm_read : NmP nmRead := by
  refine ⟨by decide, by decide, fun c hc => ?_, by rw [Lib.toList_data]; decide, by rw [Lib.toList_data]; decide, fun b hb => ?_⟩
  · have : c = 114 := by injection hc with h; exact h.symm
    subst this; decide
  · have : b = 114 ∨ b = 101 ∨ b = 97 ∨ b = 100 := by simpa using hb
    rcases this with rfl | rfl | rfl | rfl <;> exact .inl (by decide)
theorem nm_open : NmP nmOpen := by
  refine ⟨by decide, by decide, fun c hc => ?_, by rw [Lib.toList_data]; decide, by rw [Lib.toList_data]; decide, fun b hb => ?_⟩
  · have : c = 111 := by injection hc with h; exact h.symm
    subst this; decide
  · have : b = 111 ∨ b = 112 ∨ b = 101 ∨ b = 110 := by simpa using hb
    rcases this with rfl | rfl | rfl | rfl <;> exact .inl (by decide)
theorem exT_lines : linesF exText.data.toList = (numF 1 exLines, 0) := by kernel_rfl
theorem ex_pol : polL 1 0 false exRules = exLines := by
  simp [polL, rulL, actL, cndsL, cndL, knA, kwA, sgO, aheadW, Lib.decDigits_one, Lib.decDigits_two]
theorem ex_right : rightV 1 0 exRules = true := by
  unfold rightV
  have m1 : mayV ⟨nmRead, 8, 0, []⟩ = true := by
    unfold mayV
    rw [nm_nameB nm_read]
    decide
  have m2 : mayV ⟨nmOpen, 4, 13, [⟨1, 7, 3, 0⟩, ⟨2, 5, 0, 5⟩]⟩ = true := by
    unfold mayV
    rw [nm_nameB nm_open]
    have c1 : RiC ⟨1, 7, 3, 0⟩ := ⟨by decide, by decide, by decide, by decide, .inl rfl⟩
    have c2 : RiC ⟨2, 5, 0, 5⟩ := ⟨by decide, by decide, by decide, by decide, .inr rfl⟩
    simp only [List.all_cons, List.all_nil, decide_eq_true c1, decide_eq_true c2]
    decide
  simp only [List.all_cons, List.all_nil, m1, m2]
  decide
theorem ex_small : ∀ r ∈ exRules, SmallV r := fun r hr => by
  simp only [List.mem_cons, List.not_mem_nil, or_false] at hr
  rcases hr with rfl | rfl
  · intro c hc; cases hc
  · intro c hc
    simp only [List.mem_cons, List.not_mem_nil, or_false] at hc
    rcases hc with rfl | rfl <;> exact ⟨by decide, by decide⟩
theorem parse_ex (w : World) (ht : TabP w) : Calls Tryz.prog 6 #[.string exText] w (ParseP w 1 0 false exRules) :=
  parseP_ok exText (by decide) exLines (by rw [exT_lines]) (by rw [exT_lines, numF_ws]) (by decide) 1 0 false exRules (by rw [← ex_pol]; exact runs_lines false ex_right ex_small) w ht

set_option maxRecDepth 100000 in
set_option maxHeartbeats 8000000 in
theorem awake14_any (w : World) (ht : TabP w) : Calls Tryz.prog 7 #[] w fun e w' => e = .returned (.bool true) ∧ Below w.heap.size w w' := by
  have HP := Lib.hid (parse_ex w ht)
  clear ht
  go_enter Tryz.func7, Tryz.ntmps7
  go_wp2_with fail
  refine HP.out.mono ?_
  rintro e w1 ⟨RA, rc, l, rfl, hown, hval, hB1⟩
  have hlen : l.length = 2 := by have := congrArg List.length hval; simpa using this
  obtain ⟨r0, r1, rfl⟩ : ∃ r0 r1, l = [r0, r1] := by
    match l, hlen with
    | [r0, r1], _ => exact ⟨r0, r1, rfl⟩
  simp only [List.map_cons, List.map_nil, RL.val, List.cons.injEq, RV.mk.injEq, and_true] at hval
  obtain ⟨⟨a1, a2, a3, a4⟩, b1, b2, b3, b4⟩ := hval
  obtain ⟨nm1, k1, u1, A1, n1, c1, C1⟩ := r1
  simp only at b1 b2 b3 b4
  have hn1 : n1 = 2 := by have := congrArg List.length b4; simpa using this
  subst hn1
  subst b1 b2 b3
  have hC1 : C1 1 = ⟨2, 5, 0, 5⟩ := by
    have := congrArg (fun q : List CD => q[1]?) b4
    simpa [List.range_succ] using this
  have hrl := hown.rl
  have hcs := hrl.1
  rcases hcs with h0 | ⟨b, o, rfl, hbl, hcs⟩
  · cases h0
  obtain ⟨q0, q1, q2, q3⟩ := hcs 1 (by simp)
  have hru := hown.2 ⟨nmOpen, 4, 13, A1, 2, c1, C1⟩ (by simp)
  obtain ⟨bb, oo, rfl, v0, v1, v2, v3⟩ := hru.2.2.2.2.2.conA.four (i := 1) (show 1 < 2 by decide) hC1
  obtain ⟨X, hX⟩ : ∃ X, w1.heap.size = X := ⟨_, rfl⟩
  obtain ⟨W2, hW2⟩ : ∃ W, w1.alloc (.cells (polA 1 0 false (some ⟨b, o, none⟩) 2 rc) 26) = W := ⟨_, rfl⟩
  have hB2 : Below X w1 W2 := by rw [← hW2, ← hX]; exact (Below.refl _ _).alloc (Nat.le_refl _) _
  have hP2 : RowC W2 X (polA 1 0 false (some ⟨b, o, none⟩) 2 rc) 26 := by rw [← hW2, ← hX]; exact RowC.new _ _ _ _ rfl
  have x0 := hP2.cell 0 (.int .i64 1) rfl
  have x3 := hP2.cell 3 (.slice (some ⟨b, o, none⟩) 2 rc) rfl
  have tr : ∀ (g i : Nat) (v : Value), w1.cell? ⟨g, i, none⟩ = some v → W2.cell? ⟨g, i, none⟩ = some v := fun g i v h => (hB2.cell (p := ⟨g, i, none⟩) (by rw [← hX]; exact World.block_lt_of_cell? _ _ h)).trans h
  have q2' : W2.cell? ⟨b, o + 4 + 2, none⟩ = some (.int .i64 13) := tr _ _ _ q2
  have q3' : W2.cell? ⟨b, o + 4 + 3, none⟩ = some (.slice (some ⟨bb, oo, none⟩) 2 c1) := tr _ _ _ q3
  have v3' : W2.cell? ⟨bb, oo + 4 + 3, none⟩ = some (.int .u64 5) := tr _ _ _ v3
  have HB := Lib.hid (hB1.trans (hB2.mono (by rw [← hX]; exact hB1.size)))
  have HW := Lib.hid hW2
  clear hB1 hown hrl hcs hru hB2 hP2 hW2 a1 a2 a3 a4 b4 hC1 q0 q1 q2 q3 v0 v1 v2 v3 tr
  have HD := Lib.hid hlen
  clear hlen
  go_upto_region 2 with fail
  (try rw [hX])
  (try simp only [List.length_cons, List.length_nil])
  (try rw [HW.out])
  clear hX
  go_wp2
  go_ret
  exact ⟨rfl, HB.out⟩
end Go.Proofs.YtccklmleaffgiaaGreatDoor
