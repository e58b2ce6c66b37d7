/-
  Layer 21's law: a document's items as the program's; how an argument of items is opened.
-/
import Derived.Test.YtiofgaadfbjnoaaAs15
import Derived.Test.YtiofgaadfbjnoaaIf
namespace Go.Proofs.Ytiofgaadfbjnoaa
open Go.RowKit Go.Shelf Go.ChangeShapes Go.WideShapes Go.Deep
set_option linter.unusedVariables false

theorem infoItm : (Try.prog.info? 27).map (fun i => (i.zero, i.size, i.bytes)) = some (some (.agg #[.int .i64 0, .int .u16 0, .int .u32 0, .int .i64 0, .int .i64 0]), 5, 32) := by kernel_rfl
set_option maxRecDepth 100000 in
set_option maxHeartbeats 8000000 in
theorem of21_any (A : Option Addr) (n c : Nat) (g : Nat → IT) (w : World) (hn : n ≤ 1000000) (hr : Cel w w.heap.size 5 A n c (itcell g)) :
    Calls Try.prog 15 #[.slice A n c] w fun e w' => ∃ A' c', e = .returned (.slice A' n c') ∧ OwnC w' w.heap.size 27 5 A' n c' (itcell g) ∧ Below w.heap.size w w' := by
  have HR := Lib.hid hr
  clear hr
  go_enter Try.func15, Try.ntmps15
  go_wp2
  go_loopw [3, 4] (fun v i wr => ∃ (k : Nat) (A' : Option Addr) (c' : Nat), k ≤ n ∧ i = .int .i64 k ∧ v = .slice A' k c' ∧ OwnC wr w.heap.size 27 5 A' k c' (itcell g) ∧ Below w.heap.size w wr)
    (fun _ i _ => n - (intOf i).toNat)
  case atStart => exact ⟨0, none, 0, Nat.zero_le _, rfl, rfl, OwnC.nil_, Below.refl _ _⟩
  case round =>
    obtain ⟨k, A', c', hk, rfl, rfl, hown, hB⟩ := hrel
    by_cases hlt : k < n
    · obtain ⟨x, hx⟩ : ∃ x, g k = x := ⟨_, rfl⟩
      obtain ⟨b, off, rfl, hb, q0, q1, q2, q3, q4⟩ := it_at (HR.out.below hB) hlt hx
      have HW := Lib.hid (itcell_cat g k x hx)
      have i1 : (0 : Int) ≤ (k : Int) := by omega
      have i2 : (k : Int) < (n : Int) := by omega
      clear hx
      go_wp2
      go_region_held3 (fun w' => w'.cell? ⟨b, off + k * 5, none⟩ = some (.int .i64 x.m) ∧ w'.cell? ⟨b, off + k * 5 + 1, none⟩ = some (.int .u16 x.c) ∧ w'.cell? ⟨b, off + k * 5 + 2, none⟩ = some (.int .u32 x.k) ∧ w'.cell? ⟨b, off + k * 5 + 3, none⟩ = some (.int .i64 x.t) ∧ w'.cell? ⟨b, off + k * 5 + 4, none⟩ = some (.int .i64 x.f))
        (first
          | go_keep
          | exact ⟨(hK.cell (p := ⟨b, off + k * 5, none⟩) hb).trans q0, (hK.cell (p := ⟨b, off + k * 5 + 1, none⟩) hb).trans q1, (hK.cell (p := ⟨b, off + k * 5 + 2, none⟩) hb).trans q2, (hK.cell (p := ⟨b, off + k * 5 + 3, none⟩) hb).trans q3, (hK.cell (p := ⟨b, off + k * 5 + 4, none⟩) hb).trans q4⟩)
        (first | (refine step_cells2 (by rfl) _ _ _ 27 (by rfl) Try.underlying28 infoItm (by rfl) (by decide) (by rfl) (hown.alloc _).drew (by rfl) (one_item wr x 27) (fun i _ => itcell_one _ i) (by unfold maxLen; omega) (by omega) (by have := hB.size; simp; omega) (k + 1) rfl (itcell g) HW.out ?_; rintro A2 c2 w2 hown2 hB2; have hK : Below w.heap.size wr w2 := ((Below.refl _ _).alloc hB.size _).drew.trans hB2))
      go_wp2
      exact ⟨⟨k + 1, A2, c2, by omega, by go_num, rfl, hown2, hB.trans hK⟩, by simp [intOf]; omega⟩
    · obtain rfl : k = n := by omega
      go_wp2
      go_ret
      exact ⟨_, _, rfl, hown, hB⟩

section
variable {H : Type} {enc : TypeId × Value → H}
set_option maxRecDepth 100000 in
theorem open_its {w : World} {base : Nat} {spare : Nat → Bool} {held : Bool} {A : Option Addr} {n c : Nat} {d : DataW H} {p : List MemPlace} (h : DataW.Trod enc Try.prog w base spare held 47 (.slice A n c) d p) :
    ∃ l : List IT, l.length = n ∧ Cel w w.heap.size 5 A n c (itcell fun i => l[i]!) ∧ ∀ x ∈ l, x.ok := by
  obtain ⟨fuel, hf⟩ := h
  have hC : Try.prog.cellsOf 50 = 5 := by kernel_rfl
  rcases open_slice Try.underlying47 hf with ⟨hcs, _⟩ | ⟨a, len, cap, m, k, D, Pl, hcs, _, hl, hm, hmm, _, hi⟩
  · simp [Value.cells] at hcs
    obtain ⟨rfl, rfl, rfl⟩ := hcs
    exact ⟨[], rfl, Cel.nil_, fun x h => by cases h⟩
  · simp [Value.cells] at hcs
    obtain ⟨rfl, rfl, rfl⟩ := hcs
    have hel : ∀ i, i < n → ∃ v : IT, v.ok ∧ a.block < w.heap.size ∧ ∀ j, j < 5 → w.cell? (a.add (i * 5 + j)) = some (itcell (fun _ => v) j) := fun i hin => by
      obtain ⟨cs', hc, ht⟩ := hi i (by rw [hmm]; split <;> omega)
      rw [hC] at hc
      obtain ⟨_, hlen, hat⟩ := World.cells?_some hc
      obtain ⟨xs, q, _, _, _, hxl, hg⟩ := DataW.trod_struct Try.underlying50 ht
      have k3 : Try.prog.cellsOf 3 = 1 := by kernel_rfl
      have k48 : Try.prog.cellsOf 22 = 1 := by kernel_rfl
      have k39 : Try.prog.cellsOf 23 = 1 := by kernel_rfl
      match cs', hlen with
      | [c0, c1, c2, c3, c4], _ =>
        have hx : ∀ j, j < 5 → ∃ y, xs[j]? = some y := fun j hj => ⟨xs[j]'(by rw [hxl]; exact hj), List.getElem?_eq_getElem _⟩
        obtain ⟨y0, z0⟩ := hx 0 (by decide)
        obtain ⟨y1, z1⟩ := hx 1 (by decide)
        obtain ⟨y2, z2⟩ := hx 2 (by decide)
        obtain ⟨y3, z3⟩ := hx 3 (by decide)
        obtain ⟨y4, z4⟩ := hx 4 (by decide)
        have g0 : DataW.trod enc Try.prog w base spare held q 3 [c0] = some y0 := by
          have h : DataW.trod enc Try.prog w base spare held q 3 (([c0, c1, c2, c3, c4].drop 0).take (Try.prog.cellsOf 3)) = xs[0]? := hg 0 _ rfl
          rw [k3, z0] at h
          exact h
        have g1 : DataW.trod enc Try.prog w base spare held q 22 [c1] = some y1 := by
          have h : DataW.trod enc Try.prog w base spare held q 22 (([c0, c1, c2, c3, c4].drop 1).take (Try.prog.cellsOf 22)) = xs[1]? := hg 1 _ rfl
          rw [k48, z1] at h
          exact h
        have g2 : DataW.trod enc Try.prog w base spare held q 23 [c2] = some y2 := by
          have h : DataW.trod enc Try.prog w base spare held q 23 (([c0, c1, c2, c3, c4].drop 2).take (Try.prog.cellsOf 23)) = xs[2]? := hg 2 _ rfl
          rw [k39, z2] at h
          exact h
        have g3 : DataW.trod enc Try.prog w base spare held q 3 [c3] = some y3 := by
          have h : DataW.trod enc Try.prog w base spare held q 3 (([c0, c1, c2, c3, c4].drop 3).take (Try.prog.cellsOf 3)) = xs[3]? := hg 3 _ rfl
          rw [k3, z3] at h
          exact h
        have g4 : DataW.trod enc Try.prog w base spare held q 3 [c4] = some y4 := by
          have h : DataW.trod enc Try.prog w base spare held q 3 (([c0, c1, c2, c3, c4].drop 4).take (Try.prog.cellsOf 3)) = xs[4]? := hg 4 _ rfl
          rw [k3, z4] at h
          exact h
        obtain ⟨n0, e0, _, w0⟩ := DataW.trod_int Try.underlying3 g0
        obtain ⟨n1, e1, _, w1⟩ := DataW.trod_int Try.underlying22 g1
        obtain ⟨n2, e2, _, w2⟩ := DataW.trod_int Try.underlying23 g2
        obtain ⟨n3, e3, _, w3⟩ := DataW.trod_int Try.underlying3 g3
        obtain ⟨n4, e4, _, w4⟩ := DataW.trod_int Try.underlying3 g4
        simp only [List.cons.injEq, and_true] at e0 e1 e2 e3 e4
        subst e0 e1 e2 e3 e4
        simp [Lit.wf, IntKind.min, IntKind.max, IntKind.signed, IntKind.bits] at w1 w2
        have f0 := hat 0 (by decide)
        have f1 := hat 1 (by decide)
        have f2 := hat 2 (by decide)
        have f3 := hat 3 (by decide)
        have f4 := hat 4 (by decide)
        simp only [List.getElem?_cons_zero, List.getElem?_cons_succ] at f0 f1 f2 f3 f4
        have hblk := World.block_lt_of_cell? w _ f0
        have eb : ((a.add (i * 5)).add 0).block = a.block := by unfold Addr.add; split <;> split <;> rfl
        rw [eb] at hblk
        rw [add_add] at f0 f1 f2 f3 f4
        refine ⟨⟨n0, n1.toNat, n2.toNat, n3, n4⟩, ⟨by show n1.toNat < 65536; omega, by show n2.toNat < 4294967296; omega, w0, w3, w4⟩, hblk, fun j hj => ?_⟩
        match j, hj with
        | 0, _ => rw [f0]; rfl
        | 1, _ => rw [f1]; show _ = some (Value.int .u16 (n1.toNat : Int)); rw [Int.toNat_of_nonneg w1.1]
        | 2, _ => rw [f2]; show _ = some (Value.int .u32 (n2.toNat : Int)); rw [Int.toNat_of_nonneg w2.1]
        | 3, _ => rw [f3]; rfl
        | 4, _ => rw [f4]; rfl
    have hex : ∃ g : Nat → IT, ∀ i, i < n → (g i).ok ∧ a.block < w.heap.size ∧ ∀ j, j < 5 → w.cell? (a.add (i * 5 + j)) = some (itcell (fun _ => g i) j) :=
      ⟨fun i => if h : i < n then Classical.choose (hel i h) else ⟨0, 0, 0, 0, 0⟩, fun i hi' => by
        have := Classical.choose_spec (hel i hi')
        simpa [hi'] using this⟩
    obtain ⟨g, hg⟩ := hex
    refine ⟨(List.range n).map g, by simp, .inr ⟨a, rfl, hl, hm, fun j hj => ?_⟩, fun x hx => ?_⟩
    · have h1 : j / 5 < n := by omega
      obtain ⟨_, hb, hcell⟩ := hg (j / 5) h1
      have h2 := hcell (j % 5) (Nat.mod_lt _ (by decide))
      rw [show j / 5 * 5 + j % 5 = j from by omega] at h2
      refine ⟨hb, h2.trans ?_⟩
      unfold itcell
      have h3 : ((List.range n).map g)[j / 5]! = g (j / 5) := by rw [getElem!_pos _ _ (by simpa using h1)]; simp
      simp only [Nat.mod_mod, h3]
    · obtain ⟨i, hi', rfl⟩ := List.mem_map.1 hx
      exact (hg i (List.mem_range.1 hi')).1
end
end Go.Proofs.Ytiofgaadfbjnoaa
