/-
  The law PathsTaken holds for every input: whether any bytes take any path. No condition.
-/
import Derived.Test.YtgndfcjfajnemaaWpt
import Derived.Test.YtgndfcjfajnemaaWyk
import Derived.Test.YtgndfcjfajnemaaRows
import Derived.Below
import Derived.ChangeOld
import Derived.ShutString
import Derived.OpenShut
import Derived.ProofKit
import Derived.WalkKit
import Derived.Deep.Slices
import Derived.Deep.Fields
import Derived.Lib.SmallJoins
namespace Go.Proofs.Ytgndfcjfajnemaa
open Go.RowKit Go.Shelf Go.ChangeShapes Go.WideShapes Go.Deep
set_option linter.unusedVariables false

section
variable {H : Type} {enc : TypeId × Value → H}
set_option maxRecDepth 100000 in
theorem open_tests {w : World} {base : Nat} {spare : Nat → Bool} {held : Bool} {A : Option Addr} {n c : Nat} {d : DataW H} {p : List MemPlace} (h : DataW.Trod enc Try.prog w base spare held 41 (.slice A n c) d p) :
    ∃ l : List TV, l.length = n ∧ Cel w w.heap.size 5 A n c (tscell fun i => l[i]!) ∧ ∀ x ∈ l, x.ok := by
  obtain ⟨fuel, hf⟩ := h
  have hC : Try.prog.cellsOf 46 = 5 := by kernel_rfl
  rcases open_slice Try.underlying41 hf with ⟨hcs, _⟩ | ⟨a, len, cap, m, k, D, Pl, hcs, _, hl, hm, hmm, _, hi⟩
  · simp [Value.cells] at hcs
    obtain ⟨rfl, rfl, rfl⟩ := hcs
    exact ⟨[], rfl, Cel.nil_, fun x h => by cases h⟩
  · simp [Value.cells] at hcs
    obtain ⟨rfl, rfl, rfl⟩ := hcs
    have hel : ∀ i, i < n → ∃ v : TV, v.ok ∧ a.block < w.heap.size ∧ ∀ j, j < 5 → w.cell? (a.add (i * 5 + j)) = some (tscell (fun _ => v) j) := fun i hin => by
      obtain ⟨cs', hc, ht⟩ := hi i (by rw [hmm]; split <;> omega)
      rw [hC] at hc
      obtain ⟨_, hlen, hat⟩ := World.cells?_some hc
      obtain ⟨xs, q, _, _, _, hxl, hg⟩ := DataW.trod_struct Try.underlying46 ht
      have k3 : Try.prog.cellsOf 3 = 1 := by kernel_rfl
      have k48 : Try.prog.cellsOf 4 = 1 := by kernel_rfl
      have k39 : Try.prog.cellsOf 36 = 1 := by kernel_rfl
      match cs', hlen with
      | [c0, c1, c2, c3, c4], _ =>
        have hx : ∀ j, j < 5 → ∃ y, xs[j]? = some y := fun j hj => ⟨xs[j]'(by rw [hxl]; exact hj), List.getElem?_eq_getElem _⟩
        obtain ⟨y0, z0⟩ := hx 0 (by decide)
        obtain ⟨y1, z1⟩ := hx 1 (by decide)
        obtain ⟨y2, z2⟩ := hx 2 (by decide)
        obtain ⟨y3, z3⟩ := hx 3 (by decide)
        obtain ⟨y4, z4⟩ := hx 4 (by decide)
        have g0 : DataW.trod enc Try.prog w base spare held q 3 [c0] = some y0 := by
          have h : DataW.trod enc Try.prog w base spare held q 3 (([c0, c1, c2, c3, c4].drop 0).take (Try.prog.cellsOf 3)) = xs[0]? := hg 0 _ rfl
          rw [k3, z0] at h
          exact h
        have g1 : DataW.trod enc Try.prog w base spare held q 36 [c1] = some y1 := by
          have h : DataW.trod enc Try.prog w base spare held q 36 (([c0, c1, c2, c3, c4].drop 1).take (Try.prog.cellsOf 36)) = xs[1]? := hg 1 _ rfl
          rw [k39, z1] at h
          exact h
        have g2 : DataW.trod enc Try.prog w base spare held q 3 [c2] = some y2 := by
          have h : DataW.trod enc Try.prog w base spare held q 3 (([c0, c1, c2, c3, c4].drop 2).take (Try.prog.cellsOf 3)) = xs[2]? := hg 2 _ rfl
          rw [k3, z2] at h
          exact h
        have g3 : DataW.trod enc Try.prog w base spare held q 36 [c3] = some y3 := by
          have h : DataW.trod enc Try.prog w base spare held q 36 (([c0, c1, c2, c3, c4].drop 3).take (Try.prog.cellsOf 36)) = xs[3]? := hg 3 _ rfl
          rw [k39, z3] at h
          exact h
        have g4 : DataW.trod enc Try.prog w base spare held q 4 [c4] = some y4 := by
          have h : DataW.trod enc Try.prog w base spare held q 4 (([c0, c1, c2, c3, c4].drop 4).take (Try.prog.cellsOf 4)) = xs[4]? := hg 4 _ rfl
          rw [k48, z4] at h
          exact h
        obtain ⟨n0, e0, _, w0⟩ := DataW.trod_int Try.underlying3 g0
        obtain ⟨n1, e1, _, w1⟩ := DataW.trod_int Try.underlying36 g1
        obtain ⟨n2, e2, _, w2⟩ := DataW.trod_int Try.underlying3 g2
        obtain ⟨n3, e3, _, w3⟩ := DataW.trod_int Try.underlying36 g3
        obtain ⟨n4, e4, _⟩ := DataW.trod_bool Try.underlying4 g4
        simp only [List.cons.injEq, and_true] at e0 e1 e2 e3 e4
        subst e0 e1 e2 e3 e4
        simp [Lit.wf, IntKind.min, IntKind.max, IntKind.signed, IntKind.bits] at w0 w1 w3
        have f0 := hat 0 (by decide)
        have f1 := hat 1 (by decide)
        have f2 := hat 2 (by decide)
        have f3 := hat 3 (by decide)
        have f4 := hat 4 (by decide)
        simp only [List.getElem?_cons_zero, List.getElem?_cons_succ] at f0 f1 f2 f3 f4
        have hblk := World.block_lt_of_cell? w _ f0
        have eb : ((a.add (i * 5)).add 0).block = a.block := by unfold Addr.add; split <;> split <;> rfl
        rw [eb] at hblk
        rw [add_add] at f0 f1 f2 f3 f4
        refine ⟨⟨n0, n1.toNat, n2, n3.toNat, n4⟩, ⟨⟨by show (_ : Int) ≤ n0; omega, by show n0 ≤ (_ : Int); omega⟩, by show n1.toNat < 4294967296; omega, by show n3.toNat < 4294967296; omega⟩, hblk, fun j hj => ?_⟩
        match j, hj with
        | 0, _ => rw [f0]; rfl
        | 1, _ => rw [f1]; show _ = some (Value.int .u32 (n1.toNat : Int)); rw [Int.toNat_of_nonneg w1.1]
        | 2, _ => rw [f2]; rfl
        | 3, _ => rw [f3]; show _ = some (Value.int .u32 (n3.toNat : Int)); rw [Int.toNat_of_nonneg w3.1]
        | 4, _ => rw [f4]; rfl
    have hex : ∃ g : Nat → TV, ∀ i, i < n → (g i).ok ∧ a.block < w.heap.size ∧ ∀ j, j < 5 → w.cell? (a.add (i * 5 + j)) = some (tscell (fun _ => g i) j) :=
      ⟨fun i => if h : i < n then Classical.choose (hel i h) else ⟨0, 0, 0, 0, false⟩, fun i hi' => by
        have := Classical.choose_spec (hel i hi')
        simpa [hi'] using this⟩
    obtain ⟨g, hg⟩ := hex
    refine ⟨(List.range n).map g, by simp, .inr ⟨a, rfl, hl, hm, fun j hj => ?_⟩, fun x hx => ?_⟩
    · have h1 : j / 5 < n := by omega
      obtain ⟨_, hb, hcell⟩ := hg (j / 5) h1
      have h2 := hcell (j % 5) (Nat.mod_lt _ (by decide))
      rw [show j / 5 * 5 + j % 5 = j from by omega] at h2
      refine ⟨hb, h2.trans ?_⟩
      unfold tscell
      have h3 : ((List.range n).map g)[j / 5]! = g (j / 5) := by rw [getElem!_pos _ _ (by simpa using h1)]; simp
      simp only [Nat.mod_mod, h3]
    · obtain ⟨i, hi', rfl⟩ := List.mem_map.1 hx
      exact (hg i (List.mem_range.1 hi')).1
end
theorem walk_PathsTaken {w0 : World} (T : Option Addr) (m d : Nat) (l : List TV) (hl : l.length = m) (hT : Cel w0 w0.heap.size 5 T m d (tscell fun i => l[i]!)) (hok : ∀ x ∈ l, x.ok) (A : Option Addr) (n c : Nat) (f : Nat → Nat) (hby : Byt w0 w0.heap.size A n c f) :
    Calls Try.prog 4 #[.slice T m d, .slice A n c] w0 fun e w' => e = .returned (.bool true) ∧ Below w0.heap.size w0 w' :=
  walkA_PathsTaken (fun W => awake27_any W) T m d (fun i => l[i]!) hT (fun i hi => by rw [getElem!_pos l i (by omega)]; exact hok _ (List.getElem_mem _)) A n c f hby


namespace pathsTakenRow
open Go.ChangeShapes Go.WideShapes Go.ChangeAt Go.RowKit Go.Joins
open Go.ChangeMaps (open_string shut_string)
set_option linter.unusedVariables false
theorem own : ownKnob Try.prog.godebug = none := by kernel_rfl
theorem laidOut : laidOutB Try.prog = true := by kernel_rfl
set_option maxRecDepth 100000 in
theorem lifted (os : Os) (started : os.Started) (H : Type) (enc : TypeId × Value → H) :
    ReturnsInHanded {} Try.checked os 4 .any (Rows.pathsTakenSpec.pre6 enc Try.prog Try.f4 Rows.pathsTakenRow.domain false) (Rows.pathsTakenSpec.post enc Try.prog Try.f4 false true false false) := by
  refine returnsInHanded_of_change (C := Try.checked) own started (by kernel_rfl) Try.func4
    (ChangeSpec.witness6 (enc := enc) (C := Try.checked) false ⟨#[], #[.slice none 0 0, .slice none 0 0], []⟩ 8 (by kernel_rfl) (by kernel_rfl) (by kernel_rfl) (by kernel_rfl)) ?_
  intro W base args ds gs before hval0 hW hcnd _
  have hval : ∀ (j : Nat) t v, Try.f4.params[j]? = some t → args[j]? = some v → Value.okWide Try.prog W .any base t v := hval0
  have hW' := hW
  obtain ⟨p, q, hA0, hV, rfl, hfz, hnd⟩ := hW
  have hA : DataW.TrodAll enc Try.prog W 0 (fun _ => true) true Try.f4.params.toList args.toList ds p := hA0
  rw [Try.params4] at hA hval
  obtain ⟨v0, vs0, d0, ds0, p0, q0, hargs, rfl, rfl, h0, r0⟩ := trodAll_cons hA
  obtain ⟨v1, vs1, d1, ds1, p1, q1, rfl, rfl, rfl, h1, r1⟩ := trodAll_cons r0
  obtain ⟨rfl, rfl, rfl⟩ := trodAll_nil r1
  obtain rfl : args = #[v0, v1] := by cases args; simp_all
  obtain ⟨rfl, rfl⟩ := trodVars_none hV
  have k0 := h0
  have lt0 : ∀ x ∈ p0, x.block < W.heap.size := by obtain ⟨m, hm⟩ := k0; exact DataW.trod_lt m _ _ _ hm
  have k1 := h1
  have lt1 : ∀ x ∈ p1, x.block < W.heap.size := by obtain ⟨m, hm⟩ := k1; exact DataW.trod_lt m _ _ _ hm
  obtain ⟨a0, len0, cap0, rfl⟩ := okWide_slice Try.underlying41 (hval 0 41 v0 rfl rfl)
  obtain ⟨g0, e0, w0, o0⟩ := open_tests h0
  obtain ⟨a1, len1, cap1, rfl⟩ := okWide_slice Try.underlying44 (hval 1 44 v1 rfl rfl)
  obtain ⟨f1, w1⟩ : ∃ f, Byt W W.heap.size a1 len1 cap1 f := by
    obtain ⟨fuel, hf⟩ := h1
    rcases open_ints Try.underlying44 Try.underlying5 (by kernel_rfl) hf with ⟨hcs, _⟩ | ⟨x, l, c, zs, hcs, _, hl, hm, hz, _, hcell, hwz⟩
    · simp [Value.cells] at hcs
      obtain ⟨rfl, rfl, rfl⟩ := hcs
      exact ⟨fun _ => 0, Byt.nil_⟩
    · simp [Value.cells] at hcs
      obtain ⟨rfl, rfl, rfl⟩ := hcs
      exact ⟨_, byt_of_ints hl hm (by have : zs.length = cap1 := by simpa using hz
                                      omega) hcell hwz⟩
  clear hA0 hval0
  refine (walk_PathsTaken (w0 := W) a0 len0 cap0 g0 e0 w0 o0 a1 len1 cap1 f1 w1).mono fun e W' ⟨he, bel⟩ => ?_
  subst he
  exact ⟨_, rfl, _, _, _, [], _, [], hW', trodAll_mk1 (shut_bool Try.underlying4 _), (trodAll_cons_mk (Below.trod laidOut (by kernel_rfl) (of_decide_eq_true (by kernel_rfl)) k0 bel lt0) (trodAll_cons_mk (Below.trod laidOut (by kernel_rfl) (of_decide_eq_true (by kernel_rfl)) k1 bel lt1) trodAll_mk0)), rfl, bel.frame _, fun h => by cases h⟩

theorem over_inPlace : (Rows.pathsTakenRow.inPlace == Try.prog.inPlace 4) = true := by kernel_rfl
theorem over_unfollowed : (Rows.pathsTakenRow.unfollowed == Try.prog.unfollowed 4) = true := by kernel_rfl
theorem over_recurses : (Rows.pathsTakenRow.recurses == Try.prog.recurses 4) = true := by kernel_rfl
theorem over_named : (Rows.pathsTakenRow.named == Try.prog.varsNamed 4) = true := by kernel_rfl
theorem over_closed : joinedFacts Try.prog 4 Try.f4 Rows.pathsTakenSpec Rows.pathsTakenRow = true := by
  unfold joinedFacts
  rw [over_inPlace, over_unfollowed, over_recurses, over_named, laidOut]
  kernel_rfl
theorem over_found : Try.prog.funcNamed Rows.pathsTakenRow.func = some 4 := by kernel_rfl
theorem over : Rows.pathsTakenRow.holds Try.pinned (OpenSpec.ofChange Rows.pathsTakenSpec) :=
  OpenClaim.holds_of_wide 4 Try.f4 rfl rfl rfl rfl rfl rfl rfl ⟨rfl, rfl, rfl, rfl, rfl⟩ rfl rfl rfl rfl rfl over_found Try.func4 over_closed
    (of_decide_eq_true (by kernel_rfl)) (by unfold Func.isWrapper; first | (rw [if_pos (by decide +kernel)]; kernel_rfl) | (rw [if_neg (by decide +kernel)]; exact ⟨rfl, rfl⟩))
    (fun os started H enc _ => lifted os started H enc)
end pathsTakenRow

theorem pathsTaken_proved : Rows.PathsTakenSaid := pathsTakenRow.over
#print axioms pathsTaken_proved
end Go.Proofs.Ytgndfcjfajnemaa
