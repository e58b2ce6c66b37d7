/-
  The contract of word.Get: for every width of 1, 2, 4 or 8 and every place within the bytes it hands back the number that the bytes there say; else the error that word.fault names, and 0.
-/
import Derived.Test.YtmndolojfdekdaaWa
namespace Go.Proofs.Ytmndolojfdekdaa
open Go.RowKit Go.Shelf
attribute [local go_sem] Oper.semAt_some

theorem cell_new_l (W : World) (v : Value) (t : TypeId) : (W.alloc (.cells #[v] t)).cell? ⟨W.heap.size, 0, none⟩ = some v ∧ (W.alloc (.cells #[v] t)).frozen? ⟨W.heap.size, 0, none⟩ = false := by
  constructor <;> simp
theorem cell_alloc_l {W : World} {a : Addr} {v : Value} (o : Obj) (h : W.cell? a = some v) : (W.alloc o).cell? a = some v := cell_kept h (World.grownBy_alloc W o none) (fun r e => by cases e)
theorem frozen_alloc_l {W : World} {a : Addr} {v : Value} (o : Obj) (h : W.cell? a = some v) (hf : W.frozen? a = false) : (W.alloc o).frozen? a = false := (frozen_kept h (World.grownBy_alloc W o none) (fun r e => by cases e)).trans hf
/-- Bytes joined by 'or', by their indices. -/
def accOr (g : Nat → Nat) {wd : Nat} (l : List (Fin wd)) : Nat := l.foldl (fun s x => s ||| g x.1 * 2 ^ (8 * x.1)) 0
theorem accOr_snoc (g : Nat → Nat) {wd : Nat} (l : List (Fin wd)) (x : Fin wd) : accOr g (l ++ [x]) = accOr g l ||| g x.1 * 2 ^ (8 * x.1) := by simp [accOr]
theorem part_lt {a k : Nat} (ha : a < 256) (hk : k < 8) : a * 2 ^ (8 * k) < 18446744073709551616 := by
  have h : 2 ^ (8 * k) ≤ 2 ^ 56 := Nat.pow_le_pow_right (by decide) (by omega)
  have h2 : a * 2 ^ (8 * k) ≤ 255 * 2 ^ 56 := Nat.mul_le_mul (by omega) h
  have h3 : (255 : Nat) * 2 ^ 56 < 18446744073709551616 := by decide
  omega
theorem accOr_lt (g : Nat → Nat) {wd : Nat} (hwd : wd ≤ 8) (hg : ∀ i, i < wd → g i < 256) (l : List (Fin wd)) : accOr g l < 18446744073709551616 := by
  unfold accOr
  suffices h : ∀ s, s < 18446744073709551616 → l.foldl (fun s (x : Fin wd) => s ||| g x.1 * 2 ^ (8 * x.1)) s < 18446744073709551616 from h 0 (by decide)
  induction l with
  | nil => intro s hs; exact hs
  | cons x l ih =>
    intro s hs
    exact ih _ (Nat.or_lt_two_pow (n := 64) hs (part_lt (hg _ x.2) (by have := x.2; omega)))
theorem accOr_upto (g : Nat → Nat) {wd : Nat} (hg : ∀ i, i < wd → g i < 256) : ∀ k, k ≤ wd → accOr g (upto wd k) = num g k := by
  intro k
  induction k with
  | zero => intro _; simp [upto, accOr, num]
  | succ k ih =>
    intro hk
    rw [upto_succ (by omega), accOr_snoc, ih (by omega)]
    exact (Nat.or_comm _ _).trans ((nat_join (8 * k) _ _ (Nat.mul_mod_left _ _) (num_lt g k (fun i hi => hg i (by omega)))).trans (Nat.add_comm _ _))
theorem accOr_all (g : Nat → Nat) {wd : Nat} (hg : ∀ i, i < wd → g i < 256) : accOr g (List.finRange wd) = num g wd := by
  rw [← upto_all, accOr_upto g hg wd (Nat.le_refl _)]

/-- The place of the byte with index i, as a natural number. -/
def pln (big : Bool) (p wd i : Nat) : Nat := if big then p + wd - 1 - i else p + i
theorem pl_eq (big : Bool) (p wd i : Nat) (h : i < wd) : pl big p wd i = (pln big p wd i : Nat) := by
  unfold pl pln; split <;> omega
theorem pln_lt (big : Bool) (p wd i m : Nat) (h : i < wd) (hp : p + wd ≤ m) : pln big p wd i < m := by
  unfold pln; split <;> omega

theorem step_val (a u k : Nat) (ha : a < 18446744073709551616) (hu : u < 256) (hk : k < 8) :
    bits .or .u64 (a : Int) (IntKind.u64.wrap (IntKind.u64.wrap (u : Int) * 2 ^ (8 * k))) = ((a ||| u * 2 ^ (8 * k) : Nat) : Int) := by
  have h1 : IntKind.u64.wrap (u : Int) = (u : Int) := by rw [IntKind.wrap_u64]; omega
  have h2 : (u : Int) * 2 ^ (8 * k) = ((u * 2 ^ (8 * k) : Nat) : Int) := by rw [Int.natCast_mul, Int.natCast_pow]; rfl
  have h3 := part_lt hu hk
  rw [h1, h2, IntKind.wrap_u64, Int.emod_eq_of_lt (by omega) (by omega), bits_or_u64_nat _ _ ha h3]
/-- How a round of the loop ends. -/
def BodyEnd (W : World) (Kp : World → World → Prop) (I : World → Prop) (W' : World) : Prop := KeepsOthers W W' ∧ Kp W W' ∧ I W'

set_option maxRecDepth 100000 in
set_option maxHeartbeats 2000000 in
theorem get_ok (big : Bool) (A : Option Addr) (m c p wd : Nat) (f : Nat → Nat) (w : World) (hm : m ≤ 4611686018427387904) (hw : wd = 1 ∨ wd = 2 ∨ wd = 4 ∨ wd = 8) (hp : p + wd ≤ m) (hb : Byt w w.heap.size A m c f) :
    Calls Try.prog 74 #[.slice A m c, .int .i64 p, .int .i64 wd, .bool big] w fun e w' => e = .returned (.tuple #[.int .u64 (num (fun i => f (pln big p wd i)) wd : Nat), .int .i64 0]) ∧ Below w.heap.size w w' := by
  have hwd : wd ≤ 8 := by omega
  obtain ⟨b, off, rfl, hlt, hc⟩ := hb.at_ (by omega)
  have hf0 : flt m p wd = 0 := by unfold flt; rw [if_pos (by omega), if_neg (by omega)]
  have hfault : ∀ W : World, Calls Try.prog 98 #[.slice (some ⟨b, off, none⟩) m c, .int .i64 p, .int .i64 wd] W fun e w' => e = .returned (.int .i64 0) ∧ W = w' := fun W => by
    have := fault_any (some ⟨b, off, none⟩) m c p wd W (by unfold maxLen; omega) (by omega) (by omega)
    rwa [hf0] at this
  have HF := Lib.hid hfault
  have HW := Lib.hid hw
  clear hf0 hfault hw
  refine (callsIn_wide (n := 5)).1 ?_
  have hro : (Fence.wide).round = none := rfl
  refine callsIn_of_wp_marks Try.func74 rfl trivial ?_ hro
  simp only [Try.ntmps74, List.size_toArray, List.length_cons, List.length_nil, Nat.reduceAdd, Nat.reduceSub, Array.replicate_succ, Array.replicate_zero, List.push_toArray, List.append_toArray, List.nil_append, List.cons_append]
  gi_wp2_with (first | (refine ⟨trivial, ?_⟩; gi_at_call 98; refine (callsIn_wide.2 (HF.out _)).mono ?_; rintro e w' ⟨rfl, rfl⟩) | (refine ⟨trivial, ?_⟩; gi_at_call 99; refine (places_in _ _ trivial rfl _ _ _ _).mono ?_; rintro e w' ⟨rfl, rfl⟩))
  have k0 := cell_new_l w (.slice (some ⟨b, off, none⟩) m c) 65
  have k1 := cell_new_l (w.alloc (.cells #[.slice (some ⟨b, off, none⟩) m c] 65)) (.int .u64 0) 146
  have k2 := cell_new_l ((w.alloc (.cells #[.slice (some ⟨b, off, none⟩) m c] 65)).alloc (.cells #[.int .u64 0] 146)) (.int .i64 p) 3
  have k3 := cell_new_l (((w.alloc (.cells #[.slice (some ⟨b, off, none⟩) m c] 65)).alloc (.cells #[.int .u64 0] 146)).alloc (.cells #[.int .i64 p] 3)) (.int .i64 wd) 3
  have k4 := cell_new_l ((((w.alloc (.cells #[.slice (some ⟨b, off, none⟩) m c] 65)).alloc (.cells #[.int .u64 0] 146)).alloc (.cells #[.int .i64 p] 3)).alloc (.cells #[.int .i64 wd] 3)) (.bool big) 4
  simp only [World.size_alloc] at k1 k2 k3 k4
  have hB0 : Below w.heap.size w (((((w.alloc (.cells #[.slice (some ⟨b, off, none⟩) m c] 65)).alloc (.cells #[.int .u64 0] 146)).alloc (.cells #[.int .i64 p] 3)).alloc (.cells #[.int .i64 wd] 3)).alloc (.cells #[.bool big] 4)) :=
    (((((Below.refl _ w).alloc (Nat.le_refl _) _).alloc (by simp) _).alloc (by simp <;> omega) _).alloc (by simp <;> omega) _).alloc (by simp <;> omega) _
  refine wpIn_rangeFunc_ownF hro (by decide) (gf := 148) (lb := #[.pointer (some ⟨w.heap.size + 1 + 1 + 1, 0, none⟩), .pointer (some ⟨w.heap.size + 1 + 1, 0, none⟩), .pointer (some ⟨w.heap.size + 1 + 1 + 1 + 1, 0, none⟩)]) rfl trivial (enters_of Try.func148 (by kernel_rfl) rfl)
    (places_stops Fence.wide (5 - 1) trivial hro (by decide) big (w.heap.size + 1 + 1) p wd hwd (by omega) _ (by simp <;> omega) (cell_alloc_l _ (cell_alloc_l _ k2.1)) (cell_alloc_l _ k3.1) k4.1) (fun h k => KB.trans h k) (KB.book (by simp <;> omega)) (Below.refl _ _) (fun _ => rfl)
    (fun pre W => (W.cell? ⟨w.heap.size + 1, 0, none⟩ = some (.int .u64 (accOr (fun i => f (pln big p wd i)) pre : Nat)) ∧ W.frozen? ⟨w.heap.size + 1, 0, none⟩ = false ∧ W.cell? ⟨w.heap.size, 0, none⟩ = some (.slice (some ⟨b, off, none⟩) m c)) ∧ Below w.heap.size w W)
    (fun _ _ _ => False)
    (OwnFrom.and (Own.from (fun s A B row hs hg hr => ⟨cell_kept hs.1 hg hr, (frozen_kept hs.1 hg hr).trans hs.2.1, cell_kept hs.2.2 hg hr⟩) _) (ownFrom_below (Nat.le_refl _) (by simp <;> omega)))
    (fun _ _ _ _ _ hs _ _ => hs)
    ⟨⟨cell_alloc_l _ (cell_alloc_l _ (cell_alloc_l _ k1.1)), frozen_alloc_l _ (cell_alloc_l _ (cell_alloc_l _ k1.1)) (frozen_alloc_l _ (cell_alloc_l _ k1.1) (frozen_alloc_l _ k1.1 k1.2)), cell_alloc_l _ (cell_alloc_l _ (cell_alloc_l _ (cell_alloc_l _ k0.1)))⟩, hB0⟩
    (fun x => { tmps := #[.slice (some ⟨b, off, none⟩) m c, .int .i64 p, .int .i64 wd, .bool big, .pointer (some ⟨w.heap.size, 0, none⟩), undef, undef, undef, .int .u64 0, .int .i64 0, .int .i64 0, .pointer (some ⟨w.heap.size + 1, 0, none⟩),
        .int .i64 (8 * (x.1 : Int)), .int .i64 (pl big p wd x.1), .slice (some ⟨b, off, none⟩) m c, .int .i64 p, .int .i64 wd, .int .i64 0, .int .i64 0, .bool false, undef, .int .i64 p, .int .i64 wd, .bool big,
        .func (.func 148) #[] #[.pointer (some ⟨w.heap.size + 1 + 1 + 1, 0, none⟩), .pointer (some ⟨w.heap.size + 1 + 1, 0, none⟩), .pointer (some ⟨w.heap.size + 1 + 1 + 1 + 1, 0, none⟩)],
        .int .i64 (8 * (x.1 : Int)), .int .i64 (pl big p wd x.1), undef, undef, undef, undef, undef, undef, undef, undef, undef, undef], defers := [] }) ?assign ?body ?done ?stop
  case assign =>
    intro l x W K hK
    gi_wp2
    exact hK
  case body =>
    rintro l pre x W ⟨⟨hcn, hfn, hcs⟩, hB⟩ _
    have hxw := x.2
    have hpl := pl_eq big p wd x.1 hxw
    have hpm := pln_lt big p wd x.1 m hxw hp
    have hcb := ((hB.cell (p := ⟨b, off + pln big p wd x.1, none⟩) hlt).trans (hc _ hpm).1)
    rw [hpl]
    clear hpl k0 k1 k2 k3 k4 hB0
    have hst := step_val (accOr (fun i => f (pln big p wd i)) pre) (f (pln big p wd x.1)) x.1 (accOr_lt _ hwd (fun i hi => (hc _ (pln_lt big p wd i m hi hp)).2) _) (hc _ hpm).2 (by omega)
    have HS := Lib.hid hst
    have hfin : ∀ v : Int, v = (accOr (fun i => f (pln big p wd i)) (pre ++ [x]) : Nat) → BodyEnd W (KB (w.heap.size + 1 + 1)) (fun W' => (W'.cell? ⟨w.heap.size + 1, 0, none⟩ = some (.int .u64 (accOr (fun i => f (pln big p wd i)) (pre ++ [x]) : Nat)) ∧ W'.frozen? ⟨w.heap.size + 1, 0, none⟩ = false ∧ W'.cell? ⟨w.heap.size, 0, none⟩ = some (.slice (some ⟨b, off, none⟩) m c)) ∧ Below w.heap.size w W') ((W.setCell ⟨w.heap.size + 1, 0, none⟩ (.int .u64 v)).drew) := by
      rintro v rfl
      exact ⟨(KeepsOthers.setCell _ _ _).trans (KeepsOthers.drew _), KB.setCell _ W (by show w.heap.size + 1 < _; omega) _, ⟨World.cell?_setCell_same' _ _ _ (by rw [hcn]; rfl), by rw [frozen_drew_own, World.frozen?_setCell]; exact hfn, (World.cell?_setCell_other W _ _ _ (by intro e; injection e; omega)).trans hcs⟩, (hB.setCell (p := ⟨w.heap.size + 1, 0, none⟩) (by simp) _).drew⟩
    have HE := Lib.hid hfin
    clear hst hfin hc hb
    have hmx : Try.prog.follows .mixedOrders = true := by kernel_rfl
    gi_wp2
    gi_region_o
    all_goals gi_wp2
    all_goals (try go_bits)
    all_goals exact HE.out _ (HS.out.trans (by rw [accOr_snoc]))
  case done =>
    rintro D ys W hD rfl ⟨⟨hcn, hfn, hcs⟩, hB⟩ hK
    rw [accOr_all _ (fun i hi => (hc _ (pln_lt big p wd i m hi hp)).2)] at hcn
    gi_wp2
    refine ⟨by simp, .inl ⟨_, _, rfl, run_takeDeferred hK, ?_⟩⟩
    exact ⟨_, results_tmp2 rfl _ _ _, rfl, hB.trans (belowK_b (w := w) (Nat.le_refl _) W D _ _ (by simp at hD; omega) hK rfl rfl)⟩
  case stop =>
    rintro D c pre W _ _ h _
    exact h.elim

set_option maxHeartbeats 1000000 in
/-- Where there is an error, it is handed back, and 0. -/
theorem get_err (big : Bool) (A : Option Addr) (m c : Nat) (p wd : Int) (w : World) (hm : m ≤ maxLen) (ha : -9223372036854775808 ≤ p) (hb : p ≤ 9223372036854775807) (hf : flt m p wd ≠ 0) :
    Calls Try.prog 74 #[.slice A m c, .int .i64 p, .int .i64 wd, .bool big] w fun e w' => e = .returned (.tuple #[.int .u64 0, .int .i64 (flt m p wd)]) ∧ Below w.heap.size w w' := by
  have hfault := fun W => fault_any A m c p wd W hm ha hb
  have HF := Lib.hid hfault
  clear hfault
  have ht : (flt m p wd != 0) = true := by simpa using hf
  go_enter Try.func74, Try.ntmps74
  go_wp2_with (go_at_call 98; refine (HF.out _).mono ?_; rintro e w' ⟨rfl, rfl⟩)
  go_ret2
  exact ⟨rfl, (Below.refl _ _).alloc (Nat.le_refl _) _⟩
end Go.Proofs.Ytmndolojfdekdaa
