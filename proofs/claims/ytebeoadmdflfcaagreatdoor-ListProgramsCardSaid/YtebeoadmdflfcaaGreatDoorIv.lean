/-
  Instructions in memory: their values, a row of them, an append of one, how an argument of them is opened.
-/
import Derived.Test.YtebeoadmdflfcaaGreatDoorMem
import Derived.Test.YtebeoadmdflfcaaGreatDoorRw
import Derived.Deep.RegionHeld3
import Derived.WalkKit
import Derived.ProofKit
import Derived.OpenShut
import Derived.Deep.Slices
import Derived.Deep.Fields
namespace Go.Proofs.YtebeoadmdflfcaaGreatDoor
open Go.RowKit Go.ChangeShapes Go.WideShapes Go.Deep

structure IV where
  c : Nat
  t : Nat
  f : Nat
  k : Nat
def IV.ok (v : IV) : Prop := v.c < 65536 ∧ v.t < 256 ∧ v.f < 256 ∧ v.k < 4294967296
/-- Their cells. -/
def icell (g : Nat → IV) (j : Nat) : Value :=
  if j % 4 = 0 then .int .u16 (g (j / 4)).c else if j % 4 = 1 then .int .u8 (g (j / 4)).t else if j % 4 = 2 then .int .u8 (g (j / 4)).f else .int .u32 (g (j / 4)).k
theorem icell0 (g : Nat → IV) (i : Nat) : icell g (i * 4) = .int .u16 (g i).c := by unfold icell; rw [if_pos (by omega), Nat.mul_div_cancel _ (by decide)]
theorem icell1 (g : Nat → IV) (i : Nat) : icell g (i * 4 + 1) = .int .u8 (g i).t := by unfold icell; rw [if_neg (by omega), if_pos (by omega), show (i * 4 + 1) / 4 = i from by omega]
theorem icell2 (g : Nat → IV) (i : Nat) : icell g (i * 4 + 2) = .int .u8 (g i).f := by unfold icell; rw [if_neg (by omega), if_neg (by omega), if_pos (by omega), show (i * 4 + 2) / 4 = i from by omega]
theorem icell3 (g : Nat → IV) (i : Nat) : icell g (i * 4 + 3) = .int .u32 (g i).k := by unfold icell; rw [if_neg (by omega), if_neg (by omega), if_neg (by omega), show (i * 4 + 3) / 4 = i from by omega]
theorem icell_one (g : Nat → IV) (j : Nat) : (icell g j).oneCell' = true := by unfold icell; split; rfl; split; rfl; split <;> rfl
/-- The slice with these parts reads as the instructions g 0, g 1, .. -/
def Ins (w : World) (B : Nat) (A : Option Addr) (n c : Nat) (g : Nat → IV) : Prop := Cel w B 4 A n c (icell g) ∧ ∀ i, i < n → (g i).ok
theorem Ins.below {w w' : World} {B n c : Nat} {A : Option Addr} {g : Nat → IV} (h : Ins w B A n c g) (hb : Below B w w') : Ins w' B A n c g := ⟨h.1.below hb, h.2⟩
theorem Ins.more {w : World} {B B' n c : Nat} {A : Option Addr} {g : Nat → IV} (h : Ins w B A n c g) (hb : B ≤ B') : Ins w B' A n c g := ⟨h.1.more hb, h.2⟩
theorem Ins.at_ {w : World} {B n c : Nat} {A : Option Addr} {g : Nat → IV} (h : Ins w B A n c g) (hn : 0 < n) : ∃ b off, A = some ⟨b, off, none⟩ ∧ b < B ∧ ∀ i, i < n →
    (w.cell? ⟨b, off + i * 4, none⟩ = some (.int .u16 (g i).c) ∧ w.cell? ⟨b, off + i * 4 + 1, none⟩ = some (.int .u8 (g i).t) ∧ w.cell? ⟨b, off + i * 4 + 2, none⟩ = some (.int .u8 (g i).f) ∧ w.cell? ⟨b, off + i * 4 + 3, none⟩ = some (.int .u32 (g i).k)) := by
  obtain ⟨b, off, rfl, hb, hc⟩ := h.1.at_ (by omega)
  refine ⟨b, off, rfl, hb, fun i hi => ⟨?_, ?_, ?_, ?_⟩⟩
  · rw [hc (i * 4) (by omega), icell0]
  · rw [Nat.add_assoc, hc (i * 4 + 1) (by omega), icell1]
  · rw [Nat.add_assoc, hc (i * 4 + 2) (by omega), icell2]
  · rw [Nat.add_assoc, hc (i * 4 + 3) (by omega), icell3]
/-- An append of cells as a step of a region that draws its order. -/
theorem step_cells2 {P : Program} {w : World} {ops : Array Oper} {o : Oper} {a : Act} {K : Act → World → Prop} {Q : Exit → Act → World → Prop} {R : Prop} (hgd : o.guard = none) (s x : Operand) (t E : TypeId)
    (ho : o.op = .call { callee := .builtin .append, args := #[s, x], argTypes := #[t, t] })
    (ht : P.underlying t = some (.slice E)) {zv : Value} {z by_ : Nat} (hinfo : (P.info? E).map (fun i => (i.zero, i.size, i.bytes)) = some (some zv, z, by_)) (hzs : zv.cells.size = z) (hz : 0 < z)
    {base n c m d : Nat} {A C : Option Addr} {F G : Nat → Value} (hs : a.eval s = .slice A n c) (hown : OwnC w base E z A n c F) (hx : a.eval x = .slice C m d) {B : Nat} (hr : Cel w B z C m d G) (h1c : ∀ i, i < m * z → (G i).oneCell' = true)
    (hn : n + m ≤ maxLen) (hby : (n + m) * by_ ≤ 140737488355328) (hbase : base ≤ w.heap.size) (N : Nat) (hN : n + m = N) (H : Nat → Value) (hH : ∀ i, i < N * z → catC (n * z) F G i = H i)
    (h : ∀ A' c' w', OwnC w' base E z A' N c' H → Below base w w' → K (a.put o.dst (.slice A' N c')) w') :
    if Region.wanted o (yielded ops a.tmps) = true then Oper.wp P o a w K Q else R := by
  subst hN
  have hw : Region.wanted o (yielded ops a.tmps) = true := by simp [Region.wanted, hgd]
  rw [if_pos hw]
  exact wp_cells w s x t E ho ht hinfo hzs hz hs hown hx hr h1c hn hby hbase fun A' c' w' h1 _ h3 => h A' c' w' (h1.congr hH) h3
theorem infoI : (Tryz.prog.info? 25).map (fun i => (i.zero, i.size, i.bytes)) = some (some (.agg #[.int .u16 0, .int .u8 0, .int .u8 0, .int .u32 0]), 4, 8) := by kernel_rfl
theorem one_inst (w : World) (v : IV) (E : TypeId) : Cel (w.alloc (.cells #[.int .u16 v.c, .int .u8 v.t, .int .u8 v.f, .int .u32 v.k] E)) (w.heap.size + 1) 4 (some ⟨w.heap.size, 0, none⟩) 1 1 (icell fun _ => v) :=
  Cel.mk_ (by omega) (by decide) (by decide) (fun i hi => by
    match i, hi with
    | 0, _ => simp [icell]
    | 1, _ => simp [icell]
    | 2, _ => simp [icell]
    | 3, _ => simp [icell])
theorem icell_cat (g : Nat → IV) (k : Nat) : ∀ i, i < (k + 1) * 4 → catC (k * 4) (icell g) (icell fun _ => g k) i = icell g i := fun i hi => by
  unfold catC; split
  · rfl
  · unfold icell
    have e1 : (i - k * 4) % 4 = i % 4 := by omega
    have e2 : i / 4 = k := by omega
    rw [e1, e2]

set_option maxRecDepth 100000 in
section
variable {H : Type} {enc : TypeId × Value → H}
set_option maxRecDepth 100000 in
theorem open_ins {w : World} {base : Nat} {spare : Nat → Bool} {held : Bool} {A : Option Addr} {n c : Nat} {d : DataW H} {p : List MemPlace} (h : DataW.Trod enc Tryz.prog w base spare held 36 (.slice A n c) d p) :
    ∃ g : Nat → IV, Ins w w.heap.size A n c g := by
  obtain ⟨fuel, hf⟩ := h
  have hC : Tryz.prog.cellsOf 29 = 4 := by kernel_rfl
  rcases open_slice Tryz.underlying36 hf with ⟨hcs, _⟩ | ⟨a, len, cap, m, k, D, Pl, hcs, _, hl, hm, hmm, _, hi⟩
  · simp [Value.cells] at hcs
    obtain ⟨rfl, rfl, rfl⟩ := hcs
    exact ⟨fun _ => ⟨0, 0, 0, 0⟩, Cel.nil_, fun i h => by omega⟩
  · simp [Value.cells] at hcs
    obtain ⟨rfl, rfl, rfl⟩ := hcs
    have hel : ∀ i, i < n → ∃ v : IV, v.ok ∧ a.block < w.heap.size ∧ ∀ j, j < 4 → w.cell? (a.add (i * 4 + j)) = some (icell (fun _ => v) j) := fun i hin => by
      obtain ⟨cs', hc, ht⟩ := hi i (by rw [hmm]; split <;> omega)
      rw [hC] at hc
      obtain ⟨_, hlen, hat⟩ := World.cells?_some hc
      obtain ⟨xs, q, _, _, _, hxl, hg⟩ := DataW.trod_struct Tryz.underlying29 ht
      have k48 : Tryz.prog.cellsOf 22 = 1 := by kernel_rfl
      have k5 : Tryz.prog.cellsOf 5 = 1 := by kernel_rfl
      have k39 : Tryz.prog.cellsOf 23 = 1 := by kernel_rfl
      match cs', hlen with
      | [c0, c1, c2, c3], _ =>
        have hx : ∀ j, j < 4 → ∃ y, xs[j]? = some y := fun j hj => ⟨xs[j]'(by rw [hxl]; exact hj), List.getElem?_eq_getElem _⟩
        obtain ⟨y0, z0⟩ := hx 0 (by decide)
        obtain ⟨y1, z1⟩ := hx 1 (by decide)
        obtain ⟨y2, z2⟩ := hx 2 (by decide)
        obtain ⟨y3, z3⟩ := hx 3 (by decide)
        have g0 : DataW.trod enc Tryz.prog w base spare held q 22 [c0] = some y0 := by
          have h : DataW.trod enc Tryz.prog w base spare held q 22 (([c0, c1, c2, c3].drop 0).take (Tryz.prog.cellsOf 22)) = xs[0]? := hg 0 _ rfl
          rw [k48, z0] at h
          exact h
        have g1 : DataW.trod enc Tryz.prog w base spare held q 5 [c1] = some y1 := by
          have h : DataW.trod enc Tryz.prog w base spare held q 5 (([c0, c1, c2, c3].drop 1).take (Tryz.prog.cellsOf 5)) = xs[1]? := hg 1 _ rfl
          rw [k5, z1] at h
          exact h
        have g2 : DataW.trod enc Tryz.prog w base spare held q 5 [c2] = some y2 := by
          have h : DataW.trod enc Tryz.prog w base spare held q 5 (([c0, c1, c2, c3].drop 2).take (Tryz.prog.cellsOf 5)) = xs[2]? := hg 2 _ rfl
          rw [k5, z2] at h
          exact h
        have g3 : DataW.trod enc Tryz.prog w base spare held q 23 [c3] = some y3 := by
          have h : DataW.trod enc Tryz.prog w base spare held q 23 (([c0, c1, c2, c3].drop 3).take (Tryz.prog.cellsOf 23)) = xs[3]? := hg 3 _ rfl
          rw [k39, z3] at h
          exact h
        obtain ⟨n0, e0, _, w0⟩ := DataW.trod_int Tryz.underlying22 g0
        obtain ⟨n1, e1, _, w1⟩ := DataW.trod_int Tryz.underlying5 g1
        obtain ⟨n2, e2, _, w2⟩ := DataW.trod_int Tryz.underlying5 g2
        obtain ⟨n3, e3, _, w3⟩ := DataW.trod_int Tryz.underlying23 g3
        simp only [List.cons.injEq, and_true] at e0 e1 e2 e3
        subst e0 e1 e2 e3
        simp [Lit.wf, IntKind.min, IntKind.max, IntKind.signed, IntKind.bits] at w0 w1 w2 w3
        have f0 := hat 0 (by decide)
        have f1 := hat 1 (by decide)
        have f2 := hat 2 (by decide)
        have f3 := hat 3 (by decide)
        simp only [List.getElem?_cons_zero, List.getElem?_cons_succ] at f0 f1 f2 f3
        have hblk := World.block_lt_of_cell? w _ f0
        have eb : ((a.add (i * 4)).add 0).block = a.block := by unfold Addr.add; split <;> split <;> rfl
        rw [eb] at hblk
        rw [add_add] at f0 f1 f2 f3
        refine ⟨⟨n0.toNat, n1.toNat, n2.toNat, n3.toNat⟩, ⟨by show n0.toNat < 65536; omega, by show n1.toNat < 256; omega, by show n2.toNat < 256; omega, by show n3.toNat < 4294967296; omega⟩, hblk, fun j hj => ?_⟩
        match j, hj with
        | 0, _ => rw [f0]; simp [icell, Int.toNat_of_nonneg w0.1]
        | 1, _ => rw [f1]; simp [icell, Int.toNat_of_nonneg w1.1]
        | 2, _ => rw [f2]; simp [icell, Int.toNat_of_nonneg w2.1]
        | 3, _ => rw [f3]; simp [icell, Int.toNat_of_nonneg w3.1]
    have hex : ∃ g : Nat → IV, ∀ i, i < n → (g i).ok ∧ a.block < w.heap.size ∧ ∀ j, j < 4 → w.cell? (a.add (i * 4 + j)) = some (icell (fun _ => g i) j) :=
      ⟨fun i => if h : i < n then Classical.choose (hel i h) else ⟨0, 0, 0, 0⟩, fun i hi' => by
        have := Classical.choose_spec (hel i hi')
        simpa [hi'] using this⟩
    obtain ⟨g, hg⟩ := hex
    refine ⟨g, .inr ⟨a, rfl, hl, hm, fun j hj => ?_⟩, fun i hi' => (hg i hi').1⟩
    have h1 : j / 4 < n := by omega
    obtain ⟨_, hb, hcell⟩ := hg (j / 4) h1
    have h2 := hcell (j % 4) (Nat.mod_lt _ (by decide))
    rw [show j / 4 * 4 + j % 4 = j from by omega] at h2
    refine ⟨hb, h2.trans ?_⟩
    unfold icell
    simp only [Nat.mod_mod]
end
end Go.Proofs.YtebeoadmdflfcaaGreatDoor
