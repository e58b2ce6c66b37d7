/-
  For every text: the lines that lex.Lines tells are the document's, or both tell the same wrong line.
-/
import Derived.Test.YtieebnninhbdoaaTi
import Derived.Test.YtieebnninhbdoaaRows
import Derived.WideShapes
import Derived.ChangeShapes
import Derived.Deep.CutRange
import Derived.ProofKit
import Derived.OpenShut
import Derived.ShutString
import Derived.ChangeOld
import Derived.Below
import Derived.Lib.SmallJoins
namespace Go.Proofs.Ytieebnninhbdoaa
open Go.RowKit

set_option maxRecDepth 100000 in
set_option maxHeartbeats 4000000 in
theorem walk_LexLines {w0 : World} (s : ByteArray) (_ws : s.size ≤ maxLen) : Calls Try.prog 3 #[.string s] w0 fun e w' => e = .returned (.bool true) ∧ Below w0.heap.size w0 w' := by
  by_cases hs : s.size ≤ 2000
  · have i1 : ¬ (2000 : Int) < (s.size : Int) := by omega
    have hsz : s.data.toList.length = s.size := Array.length_toList
    have HL := Lib.hid (fun W => lines_any s (by omega) W)
    have HD := Lib.hid (fun W => linesd_any s (by omega) W)
    have HLE : Hid (∀ ls : List Ln, ls.map Ln.tell = (linesF s.data.toList).1 → ∀ x ∈ ls, x.ws.length ≤ 4294967296) := Lib.hid fun ls h x hx => by
      have := lines_le h x hx
      omega
    by_cases hz : (linesF s.data.toList).2 = 0
    · have hl : ∀ W, Calls Try.prog 10 #[.string s] W fun e w' => ∃ A c ls, e = .returned (.tuple #[.slice A ls.length c, .int .i64 0, .int .i64 0]) ∧ (ls.map Ln.tell = (linesF s.data.toList).1 ∧ OwnC w' W.heap.size 35 2 A ls.length c (lcell ls) ∧ LR w' ls) ∧ Below W.heap.size W w' := fun W => (HL.out W).mono fun e w' hh => by
        obtain ⟨hc, hb⟩ := hh
        rcases hc with ⟨_, A, c, ls, he, h1, h2, h3⟩ | ⟨h0, _⟩
        · exact ⟨A, c, ls, he, ⟨h1, h2, h3⟩, hb⟩
        · exact absurd hz h0
      have hd : ∀ W, Calls Try.prog 11 #[.string s] W fun e w' => ∃ A c ls, e = .returned (.tuple #[.slice A ls.length c, .int .i64 0, .int .i64 0]) ∧ (ls.map Ln.tell = (linesF s.data.toList).1 ∧ OwnC w' W.heap.size 60 2 A ls.length c (lcell ls) ∧ LR w' ls) ∧ Below W.heap.size W w' := fun W => (HD.out W).mono fun e w' hh => by
        obtain ⟨hc, hb⟩ := hh
        rcases hc with ⟨_, A, c, ls, he, h1, h2, h3⟩ | ⟨h0, _⟩
        · exact ⟨A, c, ls, he, ⟨h1, h2, h3⟩, hb⟩
        · exact absurd hz h0
      clear hz
      go_enter Try.func3, Try.ntmps3
      go_wp2_with (first
        | (go_at_call 10; refine (hl _).mono ?_; rintro e w1 ⟨A, c, ls, rfl, hF, hB1⟩; have HF := Lib.hid hF; clear hF)
        | (go_at_call 11; refine (hd _).mono ?_; rintro e w2 ⟨A', c', lw, rfl, hG, hB2⟩; have HG := Lib.hid hG; clear hG)
        | (go_at_call 12; refine (told_same A A' c c' ls lw _ _ w2 (HF.out.2.1.below hB2 (Nat.le_refl _)).cel HG.out.2.1.cel (HF.out.2.2.below hB2) HG.out.2.2 (HF.out.1.trans HG.out.1.symm) (HLE.out ls HF.out.1)).mono ?_; rintro e w3 ⟨rfl, q, rfl⟩)
        | (go_at_call 13; refine (awake13_any _).mono ?_; rintro e w4 ⟨rfl, hB4⟩))
      go_ret
      have g1 := hB1.size
      have g2 := hB2.size
      exact ⟨rfl, (bdn (hB1.trans (hB2.mono g1)) q).trans (hB4.mono (by show w0.heap.size ≤ w2.heap.size; omega))⟩
    · have hl : ∀ W, Calls Try.prog 10 #[.string s] W fun e w' => e = .returned (.tuple #[.slice none 0 0, .int .i64 ((linesF s.data.toList).2 : Nat), .int .i64 13]) ∧ Below W.heap.size W w' := fun W => (HL.out W).mono fun e w' hh => by
        obtain ⟨hc, hb⟩ := hh
        rcases hc with ⟨h0, _⟩ | ⟨_, he⟩
        · exact absurd h0 hz
        · exact ⟨he, hb⟩
      have hd : ∀ W, Calls Try.prog 11 #[.string s] W fun e w' => e = .returned (.tuple #[.slice none 0 0, .int .i64 ((linesF s.data.toList).2 : Nat), .int .i64 13]) ∧ Below W.heap.size W w' := fun W => (HD.out W).mono fun e w' hh => by
        obtain ⟨hc, hb⟩ := hh
        rcases hc with ⟨h0, _⟩ | ⟨_, he⟩
        · exact absurd h0 hz
        · exact ⟨he, hb⟩
      clear hz
      generalize (linesF s.data.toList).2 = nn at *
      go_enter Try.func3, Try.ntmps3
      go_wp2_with (first
        | (go_at_call 10; refine (hl _).mono ?_; rintro e w1 ⟨rfl, hB1⟩)
        | (go_at_call 11; refine (hd _).mono ?_; rintro e w2 ⟨rfl, hB2⟩)
        | (go_at_call 12; refine (told_same none none 0 0 [] [] 0 0 w2 Cel.nil_ Cel.nil_ (fun x hx => (by cases hx)) (fun x hx => (by cases hx)) rfl (fun x hx => (by cases hx))).mono ?_; rintro e w3 ⟨rfl, q, rfl⟩)
        | (go_at_call 13; refine (awake13_any _).mono ?_; rintro e w4 ⟨rfl, hB4⟩))
      go_ret
      have g1 := hB1.size
      have g2 := hB2.size
      exact ⟨rfl, (bdn (hB1.trans (hB2.mono g1)) q).trans (hB4.mono (by show w0.heap.size ≤ w2.heap.size; omega))⟩
  · have i1 : (2000 : Int) < (s.size : Int) := by omega
    go_enter Try.func3, Try.ntmps3
    go_wp2
    go_ret
    exact ⟨rfl, Below.refl _ _⟩

namespace lexLinesRow
open Go.ChangeShapes Go.WideShapes Go.ChangeAt Go.RowKit Go.Joins
open Go.ChangeMaps (open_string shut_string)
set_option linter.unusedVariables false
theorem own : ownKnob Try.prog.godebug = none := by kernel_rfl
theorem laidOut : laidOutB Try.prog = true := by kernel_rfl
set_option maxRecDepth 100000 in
theorem lifted (os : Os) (started : os.Started) (H : Type) (enc : TypeId × Value → H) :
    ReturnsInHanded {} Try.checked os 3 .any (Rows.lexLinesSpec.pre6 enc Try.prog Try.f3 Rows.lexLinesRow.domain false) (Rows.lexLinesSpec.post enc Try.prog Try.f3 false true false false) := by
  refine returnsInHanded_of_change (C := Try.checked) own started (by kernel_rfl) Try.func3
    (ChangeSpec.witness6 (enc := enc) (C := Try.checked) false ⟨#[], #[.string ⟨#[]⟩], []⟩ 8 (by kernel_rfl) (by kernel_rfl) (by kernel_rfl) (by kernel_rfl)) ?_
  intro W base args ds gs before hval0 hW hcnd _
  have hval : ∀ (j : Nat) t v, Try.f3.params[j]? = some t → args[j]? = some v → Value.okWide Try.prog W .any base t v := hval0
  have hW' := hW
  obtain ⟨p, q, hA0, hV, rfl, hfz, hnd⟩ := hW
  have hA : DataW.TrodAll enc Try.prog W 0 (fun _ => true) true Try.f3.params.toList args.toList ds p := hA0
  rw [Try.params3] at hA hval
  obtain ⟨v0, vs0, d0, ds0, p0, q0, hargs, rfl, rfl, h0, r0⟩ := trodAll_cons hA
  obtain ⟨rfl, rfl, rfl⟩ := trodAll_nil r0
  obtain rfl : args = #[v0] := by cases args; simp_all
  obtain ⟨rfl, rfl⟩ := trodVars_none hV
  have k0 := h0
  have lt0 : ∀ x ∈ p0, x.block < W.heap.size := by obtain ⟨m, hm⟩ := k0; exact DataW.trod_lt m _ _ _ hm
  obtain ⟨s0, rfl, rfl, rfl, w0⟩ := open_string Try.underlying9 (hval 0 9 v0 rfl rfl) h0
  clear hA0 hval0
  refine (walk_LexLines (w0 := W) s0 w0).mono fun e W' ⟨he, bel⟩ => ?_
  subst he
  exact ⟨_, rfl, _, _, _, [], _, [], hW', trodAll_mk1 (shut_bool Try.underlying4 _), (trodAll_cons_mk (Below.trod laidOut (by kernel_rfl) (of_decide_eq_true (by kernel_rfl)) k0 bel lt0) trodAll_mk0), rfl, bel.frame _, fun h => by cases h⟩

theorem over : Rows.lexLinesRow.holds Try.pinned (OpenSpec.ofChange Rows.lexLinesSpec) :=
  OpenClaim.holds_of_wide 3 Try.f3 rfl rfl rfl rfl rfl rfl rfl ⟨rfl, rfl, rfl, rfl, rfl⟩ rfl rfl rfl rfl rfl (by kernel_rfl) Try.func3 (by kernel_rfl)
    (of_decide_eq_true (by kernel_rfl)) (by unfold Func.isWrapper; first | (rw [if_pos (by decide +kernel)]; kernel_rfl) | (rw [if_neg (by decide +kernel)]; exact ⟨rfl, rfl⟩))
    (fun os started H enc _ => lifted os started H enc)
end lexLinesRow

theorem lexLines_proved : Rows.LexLinesSaid := lexLinesRow.over
#print axioms lexLines_proved
end Go.Proofs.Ytieebnninhbdoaa
