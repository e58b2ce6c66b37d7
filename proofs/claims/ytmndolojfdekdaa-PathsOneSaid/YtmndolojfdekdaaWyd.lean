/-
  Layer 27: how many ways there are, up to a bound. (paths.count)
-/
import Derived.Test.YtmndolojfdekdaaWyc
import Derived.Test.YtmndolojfdekdaaFh
import Derived.Test.YtmndolojfdekdaaAsE
namespace Go.Proofs.Ytmndolojfdekdaa
open Go.RowKit Go.Shelf
attribute [local go_sem] Oper.semAt_some
set_option linter.unusedVariables false

def addC (S : Nat → Nat) (l : List Nat) (b : Nat) : Nat := l.foldl (fun b to => min (b + S to) 4097) b
theorem addC_snoc (S : Nat → Nat) (l : List Nat) (to b : Nat) : addC S (l ++ [to]) b = min (addC S l b + S to) 4097 := by simp [addC]
theorem addC_le (S : Nat → Nat) : ∀ (l : List Nat) (b : Nat), b ≤ 4097 → addC S l b ≤ 4097
  | [], b, h => h
  | x :: l, b, _ => addC_le S l _ (Nat.min_le_right _ _)
/-- One place's ways are counted. -/
def stpC (g : Nat → IV) (S : Nat → Nat) (x : Nat) : Nat → Nat := fun i => if i = x then addC S (nexts (g x) x) (if kd (g x) = 14 then 1 else S x) else S i
def lgC (g : Nat → IV) {n : Nat} (pre : List (Fin n)) : Nat → Nat := pre.foldl (fun S x => stpC g S x.1) fun _ => 0
theorem lgC_snoc (g : Nat → IV) {n : Nat} (pre : List (Fin n)) (x : Fin n) : lgC g (pre ++ [x]) = stpC g (lgC g pre) x.1 := by simp [lgC]
theorem lgC_le (g : Nat → IV) {n : Nat} (pre : List (Fin n)) : ∀ i, lgC g pre i ≤ 4097 := by
  suffices h : ∀ (l : List (Fin n)) (S : Nat → Nat), (∀ i, S i ≤ 4097) → ∀ i, l.foldl (fun S x => stpC g S x.1) S i ≤ 4097 from h pre (fun _ => 0) (fun _ => by decide)
  intro l
  induction l with
  | nil => intro S h i; exact h i
  | cons x l ih =>
    intro S h i
    refine ih (stpC g S x.1) (fun i => ?_) i
    unfold stpC
    split
    · refine addC_le _ _ _ ?_
      split
      · decide
      · exact h _
    · exact h i
/-- How many ways a program has, up to 4097. -/
def cntP (g : Nat → IV) (n : Nat) : Nat := lgC g (List.finRange n).reverse 0
theorem But.trans_ {b : Nat} {w w' w'' : World} (h : But b w w') (k : But b w' w'') : But b w w'' := ⟨k.os.trans h.os, k.tape.trans h.tape, k.output.trans h.output, Nat.le_trans h.size k.size, fun i hi hb => (k.block i (Nat.lt_of_lt_of_le hi h.size) hb).trans (h.block i hi hb)⟩
theorem But.drew_ {b : Nat} {w w' : World} (h : But b w w') : But b w w'.drew := ⟨h.os, h.tape, h.output, h.size, h.block⟩
theorem ko_drew {w w' : World} (h : KeepsOthers w w') : KeepsOthers w w'.drew := ⟨h.1, h.2⟩
theorem But.of_below {b : Nat} {w w' : World} (h : Below w.heap.size w w') : But b w w' := ⟨h.os, h.tape, h.output, h.size, fun i hi _ => h.block i hi⟩
set_option maxRecDepth 100000 in
set_option maxHeartbeats 4000000 in
theorem pbw1_in (F : Fence) (n : Nat) (h8 : F.fn 94) (hro : F.round = none) (hn : 1 ≤ n) (g : Nat → IV) (m cp l Bx pb off : Nat) (hm : m ≤ 4096) (J Jx : List (Fin m) → World → Prop)
    (hY : ∀ pre x W, J pre W → pre.length < m → YieldAt F (n - 1) Try.prog l #[.int .i64 (x.1 : Int), flV (g x.1) x.1] W fun e W' =>
      (e = .returned (.bool true) ∧ J (pre ++ [x]) W' ∧ K2 Bx pb W W') ∨ (e = .returned (.bool false) ∧ Jx (pre ++ [x]) W'))
    (W : World) (h1 : W.cell? ⟨Bx, 0, none⟩ = some (.slice (some ⟨pb, off, none⟩) m cp)) (h2 : ∀ i, i < m * 6 → W.cell? ⟨pb, off + i, none⟩ = some (fcell g i)) (h0 : J [] W) :
    CallsIn F n Try.prog 94 #[.func (.yield l) #[] #[], .pointer (some ⟨Bx, 0, none⟩)] W fun e W' => (∃ v, e = .returned v) ∧
      ((∃ ys, ys = (List.finRange m).reverse ∧ J ys W') ∨ (∃ pre, True ∧ Jx pre W')) := by
  refine callsIn_of_wp Try.func94 rfl h8 ?_ hro
  simp only [Try.ntmps94, List.size_toArray, List.length_cons, List.length_nil, Nat.reduceAdd, Nat.reduceSub, Array.replicate_succ, Array.replicate_zero, List.push_toArray, List.append_toArray, List.nil_append, List.cons_append]
  have hq : IntKind.i64.wrap ((m : Int) - 1) = (m : Int) - 1 := IntWalk.i64_in _ (by omega)
  gi_wp2
  gi_loopw [3] (fun i wr => ∃ k : Nat, k ≤ m ∧ i = .int .i64 ((m : Int) - 1 - k) ∧ J (dnto m k) wr ∧ K2 Bx pb W wr)
    (fun i _ => (intOf i + 1).toNat)
  case atStart => exact ⟨0, Nat.zero_le _, by simp, by simpa [dnto] using h0, K2.refl _ _ _⟩
  case round =>
    obtain ⟨k, hk, rfl, hJs, hnx⟩ := hrel
    have g1 := (World.cell?_of_block (w := W) (a := ⟨Bx, 0, none⟩) hnx.1).trans h1
    by_cases hlt : k < m
    · obtain ⟨x, hxe⟩ : ∃ x, m - 1 - k = x := ⟨_, rfl⟩
      have hx : ((m : Int) - 1 - k) = (x : Int) := by omega
      have hxm : x < m := by omega
      have hcell : ∀ j, j < 6 → wr.cell? ⟨pb, off + (x * 6 + j), none⟩ = some ((flA (g x) x).getD j undef) := fun j hj => by
        rw [(World.cell?_of_block (w := W) (a := ⟨pb, off + (x * 6 + j), none⟩) hnx.2), h2 _ (by omega), fcell_at g _ j hj]
      obtain ⟨fn, tmps, assign, body, hy, hR⟩ := hY _ ⟨x, hxm⟩ wr hJs (by rw [dnto_length hk]; exact hlt)
      dsimp only at hy
      have HDS : Hid (dnto m (k + 1) = dnto m k ++ [⟨x, hxm⟩]) := Lib.hid (by subst hxe; exact dnto_succ hlt)
      have HXE := Lib.hid hxe
      have HE3 : Hid (Value.int .i64 ((x : Int) - 1) = Value.int .i64 ((m : Int) - 1 - ((k + 1 : Nat) : Int))) := Lib.hid (by congr 1; omega)
      rw [hx]
      have v0 : wr.cell? ⟨pb, off + x * 6, none⟩ = some (.int .u16 (g x).c) := hcell 0 (by decide)
      have v1 : wr.cell? ⟨pb, off + x * 6 + 1, none⟩ = some (.int .u8 (g x).t) := by rw [Nat.add_assoc]; exact hcell 1 (by decide)
      have v2 : wr.cell? ⟨pb, off + x * 6 + 2, none⟩ = some (.int .u8 (g x).f) := by rw [Nat.add_assoc]; exact hcell 2 (by decide)
      have v3 : wr.cell? ⟨pb, off + x * 6 + 3, none⟩ = some (.int .u32 (g x).k) := by rw [Nat.add_assoc]; exact hcell 3 (by decide)
      have v4 : wr.cell? ⟨pb, off + x * 6 + 4, none⟩ = some (.int .i64 (kd (g x))) := by rw [Nat.add_assoc]; exact hcell 4 (by decide)
      have v5 : wr.cell? ⟨pb, off + x * 6 + 5, none⟩ = some (.int .i64 x) := by rw [Nat.add_assoc]; exact hcell 5 (by decide)
      have i1 : (0 : Int) ≤ (x : Int) := by omega
      have i2 : (x : Int) < (m : Int) := by omega
      have hq2 : IntKind.i64.wrap ((x : Int) - 1) = (x : Int) - 1 := IntWalk.i64_in _ (by omega)
      clear hcell hx hxe h2 hq
      gi_wp2
      refine hR.mono ?_
      rintro e W3 (⟨rfl, hJ3, hk3⟩ | ⟨rfl, hJx3⟩)
      · gi_wp2
        go_roundw
        case rel => exact ⟨k + 1, by omega, HE3.out, by rw [HDS.out]; exact hJ3, hnx.trans hk3⟩
        case measure => simp [intOf] <;> omega
      · gi_wp2
        refine bodyPost_ret (results_none rfl _ _ _) rfl ?_
        exact ⟨⟨_, rfl⟩, .inr ⟨_, trivial, hJx3⟩⟩
    · obtain rfl : k = m := by omega
      have hz : decide (((k : Int) - 1 - k) ≥ 0) = false := by simp; omega
      gi_wp2
      go_end0
      exact ⟨⟨_, rfl⟩, .inl ⟨_, rfl, by rw [dnto_all] at hJs; exact hJs⟩⟩
theorem pbw_stops (F : Fence) (n : Nat) (h8 : F.fn 94) (hro : F.round = none) (hn : 1 ≤ n) (g : Nat → IV) (m cp Bx pb off : Nat) (hm : m ≤ 4096) (w : World) (hBx : Bx < w.heap.size) (hpb : pb < w.heap.size)
    (h1 : w.cell? ⟨Bx, 0, none⟩ = some (.slice (some ⟨pb, off, none⟩) m cp)) (h2 : ∀ i, i < m * 6 → w.cell? ⟨pb, off + i, none⟩ = some (fcell g i)) :
    SeqStopsK F n Try.prog 94 #[.pointer (some ⟨Bx, 0, none⟩)]
      (fun x : Fin m => #[Value.int .i64 (x.1 : Int), flV (g x.1) x.1]) (K2 Bx pb) (fun ys => ys = (List.finRange m).reverse) (fun _ => True) m w := fun l J Jx W hW _ _ hY h0 =>
  pbw1_in F n h8 hro hn g m cp l Bx pb off hm J Jx hY W ((hW.cell (p := ⟨Bx, 0, none⟩) hBx).trans h1) (fun i hi => (hW.cell (p := ⟨pb, off + i, none⟩) hpb).trans (h2 i hi)) h0
set_option maxRecDepth 100000 in
theorem pbackward_any (A : Option Addr) (n c : Nat) (w : World) : Calls Try.prog 68 #[.slice A n c] w fun e w' => e = .returned (.func (.func 94) #[] #[.pointer (some ⟨w.heap.size, 0, none⟩)]) ∧ w' = w.alloc (.cells #[.slice A n c] 101) := by
  go_enter Try.func68, Try.ntmps68
  go_wp2
  go_ret
  exact ⟨rfl, rfl⟩
set_option maxRecDepth 100000 in
set_option maxHeartbeats 4000000 in
theorem count_any (pb n : Nat) (g : Nat → IV) (w : World) (hF : Fmd g n) (hpb : pb < w.heap.size) (hP : ∀ i, i < n * 6 → w.cell? ⟨pb, i, none⟩ = some (fcell g i)) (hv : ∀ i, i < n → (g i).ok) (hk : ∀ i, i < n → okI (g i) = true) :
    Calls Try.prog 46 #[.slice (some ⟨pb, 0, none⟩) n n] w fun e w' => e = .returned (.int .i64 (cntP g n : Nat)) ∧ Below w.heap.size w w' := by
  have HF := Lib.hid hF
  have HOK := Lib.hid hv
  have HOI := Lib.hid hk
  have hmk := mk_ints n hF.le
  have hpc3 : ∀ i, i < n * 6 → (((w.alloc (.cells (intRow n fun _ => 0) 3)).alloc (.cells #[.slice (some ⟨w.heap.size, 0, none⟩) n n] 32)).alloc (.cells #[.slice (some ⟨pb, 0, none⟩) n n] 101)).cell? ⟨pb, 0 + i, none⟩ = some (fcell g i) := fun i hi => by
    have hbb : Below w.heap.size w (((w.alloc (.cells (intRow n fun _ => 0) 3)).alloc (.cells #[.slice (some ⟨w.heap.size, 0, none⟩) n n] 32)).alloc (.cells #[.slice (some ⟨pb, 0, none⟩) n n] 101)) := (((Below.refl _ _).alloc (Nat.le_refl _) _).alloc (by simp) _).alloc (by simp; omega) _
    rw [Nat.zero_add, hbb.cell (p := ⟨pb, i, none⟩) hpb]
    exact hP i (by omega)
  clear hF hv hk hP
  refine (callsIn_wide (n := 6)).1 ?_
  have hro : (Fence.wide).round = none := rfl
  refine callsIn_of_wp_marks Try.func46 rfl trivial ?_ hro
  simp only [Try.ntmps46, List.size_toArray, List.length_cons, List.length_nil, Nat.reduceAdd, Nat.reduceSub, Array.replicate_succ, Array.replicate_zero, List.push_toArray, List.append_toArray, List.nil_append, List.cons_append]
  gi_wp2_with (refine ⟨trivial, ?_⟩; gi_at_call 68; refine (callsIn_wide.2 (pbackward_any _ _ _ _)).mono ?_; rintro e w2 ⟨rfl, rfl⟩)
  have hbw : Below w.heap.size w (((w.alloc (.cells (intRow n fun _ => 0) 3)).alloc (.cells #[.slice (some ⟨w.heap.size, 0, none⟩) n n] 32)).alloc (.cells #[.slice (some ⟨pb, 0, none⟩) n n] 101)) := ((((Below.refl _ _).alloc (Nat.le_refl _) _)).alloc (by simp) _).alloc (by simp; omega) _
  have hr1 : RowAt (((w.alloc (.cells (intRow n fun _ => 0) 3)).alloc (.cells #[.slice (some ⟨w.heap.size, 0, none⟩) n n] 32)).alloc (.cells #[.slice (some ⟨pb, 0, none⟩) n n] 101)) w.heap.size (intRow n fun _ => 0) 3 := h_old _ _ _ _ (h_old _ _ _ _ (h_last _ _ _ rfl))
  have hr2 : RowAt (((w.alloc (.cells (intRow n fun _ => 0) 3)).alloc (.cells #[.slice (some ⟨w.heap.size, 0, none⟩) n n] 32)).alloc (.cells #[.slice (some ⟨pb, 0, none⟩) n n] 101)) (w.heap.size + 1) #[.slice (some ⟨w.heap.size, 0, none⟩) n n] 32 := h_old _ _ _ _ (h_last _ _ _ (by simp))
  have hr3 : RowAt (((w.alloc (.cells (intRow n fun _ => 0) 3)).alloc (.cells #[.slice (some ⟨w.heap.size, 0, none⟩) n n] 32)).alloc (.cells #[.slice (some ⟨pb, 0, none⟩) n n] 101)) (w.heap.size + 1 + 1) #[.slice (some ⟨pb, 0, none⟩) n n] 101 := h_last _ _ _ (by simp)
  have hsz : (((w.alloc (.cells (intRow n fun _ => 0) 3)).alloc (.cells #[.slice (some ⟨w.heap.size, 0, none⟩) n n] 32)).alloc (.cells #[.slice (some ⟨pb, 0, none⟩) n n] 101)).heap.size = w.heap.size + 3 := by simp
  generalize (((w.alloc (.cells (intRow n fun _ => 0) 3)).alloc (.cells #[.slice (some ⟨w.heap.size, 0, none⟩) n n] 32)).alloc (.cells #[.slice (some ⟨pb, 0, none⟩) n n] 101)) = w3 at *
  clear hmk
  refine wpIn_rangeFunc_ownH hro (by decide) (gf := 94) (lb := #[.pointer (some ⟨w.heap.size + 1 + 1, 0, none⟩)]) rfl trivial (enters_of Try.func94 (by kernel_rfl) rfl)
    (pbw_stops Fence.wide (6 - 1) trivial hro (by decide) g n n (w.heap.size + 1 + 1) pb 0 HF.out.le w3 (by omega) (by omega) (hr3.cell 0 _ rfl) hpc3) (fun h k => K2.trans h k) (K2.book (by omega) (by omega)) (Below.refl _ _) (fun _ => rfl)
    (fun pre W => (RowAt W w.heap.size (intRow n (lgC g pre)) 3 ∧ RowAt W (w.heap.size + 1) #[.slice (some ⟨w.heap.size, 0, none⟩) n n] 32 ∧ RowAt W (w.heap.size + 1 + 1) #[.slice (some ⟨pb, 0, none⟩) n n] 101) ∧ Below w.heap.size w W)
    (fun _ _ _ => False)
    (OwnFrom.and (Own.from (fun s A B row hs hg hr => ⟨row_kept hs.1 hg hr, row_kept hs.2.1 hg hr, row_kept hs.2.2 hg hr⟩) _) (ownFrom_below (Nat.le_refl _) (by omega)))
    (fun _ _ _ _ _ hs _ _ => hs)
    ⟨⟨hr1, hr2, hr3⟩, hbw⟩
    (fun x a' W => ∃ Bx, w3.heap.size ≤ Bx ∧ RowAt W Bx #[.int .u16 (g x.1).c, .int .u8 (g x.1).t, .int .u8 (g x.1).f, .int .u32 (g x.1).k, .int .i64 (kd (g x.1)), .int .i64 (x.1 : Int)] 133 ∧ a' = { tmps := #[.slice (some ⟨pb, 0, none⟩) n n, undef, .int .i64 0, .pointer (some ⟨w.heap.size + 1, 0, none⟩), .int .i64 (x.1 : Int), .pointer (some ⟨Bx, 0, none⟩), undef, undef, .slice (some ⟨pb, 0, none⟩) n n, .int .i64 n, .slice (some ⟨w.heap.size, 0, none⟩) n n, .slice (some ⟨pb, 0, none⟩) n n, .func (.func 94) #[] #[.pointer (some ⟨w.heap.size + 1 + 1, 0, none⟩)], .int .i64 (x.1 : Int), flV (g x.1) x.1, undef, undef, undef, undef, undef, undef, undef, undef, undef, undef, undef, undef, undef, undef, undef, undef, undef, undef, undef, undef, undef, undef, undef, undef, undef, undef, undef, undef, undef, undef], defers := [] })
    (fun x a' => Own.from (fun s A B row hs hg hr => by
      obtain ⟨Bx, h1, h2, h3⟩ := hs
      exact ⟨Bx, h1, row_kept h2 hg hr, h3⟩) _) ?assign ?body ?done ?stop
  case assign =>
    rintro l pre x W K ⟨⟨hrow, hbox, hitb⟩, hB⟩ hK
    have hWs : w3.heap.size ≤ W.heap.size := by have := hitb.lt; omega
    gi_wp2
    exact hK _ _ ((KeepsOthers.alloc _ _).from _) ⟨Below.heap_alloc _ _ _ (by omega), Below.heap_alloc _ _ _ (by omega)⟩ ⟨⟨h_old _ _ _ _ hrow, h_old _ _ _ _ hbox, h_old _ _ _ _ hitb⟩, hB.alloc hB.size _⟩ ⟨W.heap.size, hWs, heap_alloc_last W _, rfl⟩
  case body =>
    rintro l pre x a' W hl ⟨r, hr⟩ ⟨⟨hrow, hbox, hitb⟩, hB⟩ ⟨Bx, hBx, hrx, rfl⟩ hlen
    have hWs : w3.heap.size ≤ W.heap.size := by have := hitb.lt; omega
    have hxn := x.2
    obtain ⟨y, hy⟩ : ∃ y, x.1 = y := ⟨_, rfl⟩
    have HSN : Hid (lgC g (pre ++ [x]) = fun i => if i = y then addC (lgC g pre) (nexts (g y) y) (if kd (g y) = 14 then 1 else lgC g pre y) else lgC g pre i) := Lib.hid (by rw [lgC_snoc, hy]; rfl)
    have HSL := Lib.hid (lgC_le g pre)
    rw [hy] at hrx hxn ⊢
    have HL : Hid (∀ W', Calls Try.prog 69 #[.agg #[.int .u16 (g y).c, .int .u8 (g y).t, .int .u8 (g y).f, .int .u32 (g y).k, .int .i64 (kd (g y)), .int .i64 (y : Int)]] W' fun e w' => ∃ A m, e = .returned (.slice A m m) ∧ I64s w' W'.heap.size A m (nexts (g y) y) ∧ Below W'.heap.size W' w') := Lib.hid fun W' => pleads_any (g y) (HOK.out y hxn) (okI_15 (HOI.out y hxn)) y W' (by have := HF.out.le; omega)
    have HNX : Hid (∀ to ∈ nexts (g y) y, to < n ∧ y < to) := Lib.hid fun to h => ⟨next_lt HF.out hxn h, next_gt h⟩
    have hle := HF.out.le
    obtain ⟨ll, hll⟩ : ∃ ll, nexts (g y) y = ll := ⟨_, rfl⟩
    rw [hll] at HL HNX HSN
    generalize g y = v at *
    have p0 := hrx.cell 0 _ rfl
    have p1 := hrx.cell 1 _ rfl
    have p2 := hrx.cell 2 _ rfl
    have p3 := hrx.cell 3 _ rfl
    have p4 := hrx.cell 4 _ rfl
    have p5 := hrx.cell 5 _ rfl
    obtain ⟨S, hS⟩ : ∃ S, lgC g pre = S := ⟨_, rfl⟩
    rw [hS] at hrow HSN HSL
    have HROW := Lib.hid hrow
    have HBOX := Lib.hid hbox
    have HITB := Lib.hid hitb
    have HB := Lib.hid hB
    have HRX := Lib.hid hrx
    have hq := HROW.out.cell y _ (intRow_at n S y hxn)
    have hfr := HROW.out.frozen y
    have q1 := HBOX.out.cell 0 _ rfl
    have i1 : (0 : Int) ≤ (y : Int) := by omega
    have i2 : (y : Int) < (n : Int) := by omega
    clear hS hll hy hpc3 hr1 hr2 hr3 hbw hrow hbox hitb hB hr hrx
    simp only [flV]
    generalize kd v = K at *
    cases h14 : (K == 14)
    · have n14 : ¬ K = 14 := by simpa using h14
      rw [if_neg n14] at HSN
      have ROW1 : Hid (RowAt W w.heap.size (intRow n fun i => if i = y then S y else S i) 3) := Lib.hid (by
        have e : (fun i => if i = y then S y else S i) = S := by
          funext i
          by_cases h : i = y
          · rw [if_pos h, h]
          · rw [if_neg h]
        rw [e]
        exact HROW.out)
      have BU1 : Hid (But w.heap.size W W) := Lib.hid (But.refl _ _)
      have KO1 : Hid (KeepsOthers W W) := Lib.hid ⟨Nat.le_refl _, fun _ _ h _ => h⟩
      have hBb : S y ≤ 4097 := HSL.out y
      gi_wp2_with fail
      refine ⟨trivial, ?_⟩
      refine (CallsIn.inRound l (callsIn_wide.2 (HL.out _))).mono ?_
      rintro e w4 ⟨lA, m, rfl, hI, hB4⟩
      obtain ⟨hml, hcel, hblk⟩ := hI
      have HML := Lib.hid hml
      have HCEL := Lib.hid hcel
      have HBLK := Lib.hid hblk
      have HB4 := Lib.hid hB4
      clear hml hcel hblk hB4 p0 p1 p2 p3 p4 p5 HL
      gi_wp2
      have ROW4 : Hid (RowAt w4 w.heap.size (intRow n fun i => if i = y then (S y) else S i) 3) := Lib.hid (ROW1.out.below HB4.out ROW1.out.lt)
      have BU4 : Hid (But w.heap.size W w4) := Lib.hid (BU1.out.trans_ (But.of_below HB4.out))
      have KO4 : Hid (KeepsOthers W w4) := Lib.hid (KO1.out.trans (others_below HB4.out))
      clear ROW1 BU1 KO1 hq hfr q1
      gi_loopw [24] (fun i wr => ∃ k : Nat, k ≤ m ∧ i = .int .i64 k ∧ Hid (RowAt wr w.heap.size (intRow n fun i => if i = y then addC S (ll.take k) (S y) else S i) 3) ∧ Hid (But w.heap.size W wr) ∧ Hid (But w.heap.size w4 wr) ∧ Hid (KeepsOthers W wr))
        (fun i _ => m - (intOf i).toNat)
      case atStart => exact ⟨0, Nat.zero_le _, rfl, ROW4, BU4, Lib.hid (But.refl _ _), KO4⟩
      case round =>
        clear ROW4 BU4 KO4
        obtain ⟨k, hk, rfl, ROW, BU, BU5, KO⟩ := hrel
        obtain ⟨_, hm2⟩ := HCEL.out.le
        unfold maxLen at hm2
        have HBOX5 : Hid (RowAt wr (w.heap.size + 1) #[.slice (some ⟨w.heap.size, 0, none⟩) n n] 32) := Lib.hid ((BU.out.block _ HBOX.out.lt (by omega)).trans HBOX.out)
        by_cases hlt : k < m
        · obtain ⟨lb, lo, rfl, hlb, hlc⟩ := HCEL.out.at_ (by omega)
          have hne : lb ≠ w.heap.size := by
            have h1 := HBLK.out _ rfl
            have h2 := HROW.out.lt
            simp at h1 h2
            omega
          have hc3 := (BU5.out.cell (p := ⟨lb, lo + k, none⟩) hlb hne).trans (hlc k (by omega))
          have HTK : Hid (ll.take (k + 1) = ll.take k ++ [ll.getD k 0]) := Lib.hid (by
            have := HML.out
            rw [List.take_add_one, List.getD_eq_getElem?_getD, List.getElem?_eq_getElem (by omega)]; rfl)
          have hto := HNX.out (ll.getD k 0) (by
            have := HML.out
            rw [List.getD_eq_getElem?_getD, List.getElem?_eq_getElem (by omega)]; exact List.getElem_mem _)
          generalize ll.getD k 0 = to at *
          obtain ⟨hto1, hto2⟩ := hto
          obtain ⟨bq, hbq⟩ : ∃ b, addC S (ll.take k) (S y) = b := ⟨_, rfl⟩
          have HBQ : Hid (addC S (ll.take (k + 1)) (S y) = min (bq + S to) 4097) := Lib.hid (by rw [HTK.out, addC_snoc, hbq])
          have hb9 : bq ≤ 4097 := by rw [← hbq]; exact addC_le _ _ _ hBb
          rw [hbq] at ROW
          have hs9 := HSL.out to
          have e0 := ROW.out.cell y _ (intRow_at n _ y hxn)
          have e1 := ROW.out.cell to _ (intRow_at n _ to hto1)
          rw [if_pos rfl] at e0
          rw [if_neg (by omega)] at e1
          have f0 := ROW.out.frozen y
          have b0 := HBOX5.out.cell 0 _ rfl
          have i3 : (0 : Int) ≤ (k : Int) := by omega
          have i4 : (k : Int) < (m : Int) := by omega
          have i5 : (0 : Int) ≤ (to : Int) := by omega
          have i6 : (to : Int) < (n : Int) := by omega
          obtain ⟨st, hst⟩ : ∃ z, S to = z := ⟨_, rfl⟩
          rw [hst] at e1 hs9 HBQ
          clear hlc hne hbq hst
          gi_wp2
          refine wpIn_region_E (S := fun V => V.cell? ⟨w.heap.size + 1, 0, none⟩ = some (.slice (some ⟨w.heap.size, 0, none⟩) n n) ∧ V.cell? ⟨w.heap.size, y, none⟩ = some (.int .i64 (bq : Nat)) ∧ V.cell? ⟨w.heap.size, to, none⟩ = some (.int .i64 (st : Nat))) 13 (by kernel_rfl) (by kernel_rfl) ?_
          have hwm : IntKind.i64.wrap ((bq : Int) + (st : Int)) = (bq : Int) + (st : Int) := IntWalk.i64_in _ (by omega)
          have hHeld : (fun V : World => V.cell? ⟨w.heap.size + 1, 0, none⟩ = some (.slice (some ⟨w.heap.size, 0, none⟩) n n) ∧ V.cell? ⟨w.heap.size, y, none⟩ = some (.int .i64 (bq : Nat)) ∧ V.cell? ⟨w.heap.size, to, none⟩ = some (.int .i64 (st : Nat))) wr.drew := ⟨b0, e0, e1⟩
          have f0d : wr.drew.frozen? ⟨w.heap.size, y, none⟩ = false := f0
          have e0d : wr.drew.cell? ⟨w.heap.size, y, none⟩ = some (.int .i64 (bq : Nat)) := e0
          refine wpAnyE_take (i := 0) (oi := ({ dst := some 28, op := Op.load 32 (Operand.tmp 3), type := 32, pos := "paths.go:145", after := #[], guard := none } : Oper)) (v := ?vu00x1) rfl (by kernel_rfl) (by decide) (by kernel_rfl) (fun _ _ _ h => by cases h.1) (by rfl) ?hu00x1 hHeld ?ru00x1
          case hu00x1 =>
            intro V hV
            obtain ⟨s0, s1, s2⟩ := hV
            go_simp
            all_goals with_reducible rfl
          try simp only [Act.put, List.setIfInBounds_toArray, List.set_cons_zero, List.set_cons_succ]
          refine wpAnyE_take (i := 1) (oi := ({ dst := some 29, op := Op.move (Operand.tmp 4), type := 3, pos := "paths.go:145", after := #[], guard := none } : Oper)) (v := ?vu01x2) rfl (by kernel_rfl) (by decide) (by kernel_rfl) (fun _ _ _ h => by cases h.1) (by rfl) ?hu01x2 hHeld ?ru01x2
          case hu01x2 =>
            intro V hV
            obtain ⟨s0, s1, s2⟩ := hV
            go_simp
            all_goals with_reducible rfl
          try simp only [Act.put, List.setIfInBounds_toArray, List.set_cons_zero, List.set_cons_succ]
          refine wpAnyE_take (i := 2) (oi := ({ dst := some 30, op := Op.load 32 (Operand.tmp 3), type := 32, pos := "paths.go:145", after := #[], guard := none } : Oper)) (v := ?vu02x3) rfl (by kernel_rfl) (by decide) (by kernel_rfl) (fun _ _ _ h => by cases h.1) (by rfl) ?hu02x3 hHeld ?ru02x3
          case hu02x3 =>
            intro V hV
            obtain ⟨s0, s1, s2⟩ := hV
            go_simp
            all_goals with_reducible rfl
          try simp only [Act.put, List.setIfInBounds_toArray, List.set_cons_zero, List.set_cons_succ]
          refine wpAnyE_take (i := 3) (oi := ({ dst := some 31, op := Op.move (Operand.tmp 4), type := 3, pos := "paths.go:145", after := #[], guard := none } : Oper)) (v := ?vu03x4) rfl (by kernel_rfl) (by decide) (by kernel_rfl) (fun _ _ _ h => by cases h.1) (by rfl) ?hu03x4 hHeld ?ru03x4
          case hu03x4 =>
            intro V hV
            obtain ⟨s0, s1, s2⟩ := hV
            go_simp
            all_goals with_reducible rfl
          try simp only [Act.put, List.setIfInBounds_toArray, List.set_cons_zero, List.set_cons_succ]
          refine wpAnyE_take (i := 4) (oi := ({ dst := some 32, op := Op.indexAddr 32 (Operand.tmp 30) (Operand.tmp 31), type := 0, pos := "paths.go:145", after := #[{ on := 2, ground := Ground.data }, { on := 3, ground := Ground.data }], guard := none } : Oper)) (v := ?vu04x5) rfl (by kernel_rfl) (by decide) (by kernel_rfl) (fun _ _ _ h => by cases h.1) (by rfl) ?hu04x5 hHeld ?ru04x5
          case hu04x5 =>
            intro V hV
            obtain ⟨s0, s1, s2⟩ := hV
            go_simp
            all_goals with_reducible rfl
          try simp only [Act.put, List.setIfInBounds_toArray, List.set_cons_zero, List.set_cons_succ]
          refine wpAnyE_take (i := 5) (oi := ({ dst := some 33, op := Op.load 3 (Operand.tmp 32), type := 3, pos := "paths.go:145", after := #[{ on := 4, ground := Ground.data }], guard := none } : Oper)) (v := ?vu05x6) rfl (by kernel_rfl) (by decide) (by kernel_rfl) (fun _ _ _ h => by cases h.1) (by rfl) ?hu05x6 hHeld ?ru05x6
          case hu05x6 =>
            intro V hV
            obtain ⟨s0, s1, s2⟩ := hV
            go_simp
            all_goals with_reducible rfl
          try simp only [Act.put, List.setIfInBounds_toArray, List.set_cons_zero, List.set_cons_succ]
          refine wpAnyE_take (i := 6) (oi := ({ dst := some 34, op := Op.load 32 (Operand.tmp 3), type := 32, pos := "paths.go:145", after := #[], guard := none } : Oper)) (v := ?vu06x7) rfl (by kernel_rfl) (by decide) (by kernel_rfl) (fun _ _ _ h => by cases h.1) (by rfl) ?hu06x7 hHeld ?ru06x7
          case hu06x7 =>
            intro V hV
            obtain ⟨s0, s1, s2⟩ := hV
            go_simp
            all_goals with_reducible rfl
          try simp only [Act.put, List.setIfInBounds_toArray, List.set_cons_zero, List.set_cons_succ]
          refine wpAnyE_take (i := 7) (oi := ({ dst := some 35, op := Op.move (Operand.tmp 7), type := 3, pos := "paths.go:145", after := #[], guard := none } : Oper)) (v := ?vu07x8) rfl (by kernel_rfl) (by decide) (by kernel_rfl) (fun _ _ _ h => by cases h.1) (by rfl) ?hu07x8 hHeld ?ru07x8
          case hu07x8 =>
            intro V hV
            obtain ⟨s0, s1, s2⟩ := hV
            go_simp
            all_goals with_reducible rfl
          try simp only [Act.put, List.setIfInBounds_toArray, List.set_cons_zero, List.set_cons_succ]
          refine wpAnyE_take (i := 8) (oi := ({ dst := some 36, op := Op.indexAddr 32 (Operand.tmp 34) (Operand.tmp 35), type := 0, pos := "paths.go:145", after := #[{ on := 6, ground := Ground.data }, { on := 7, ground := Ground.data }], guard := none } : Oper)) (v := ?vu08x9) rfl (by kernel_rfl) (by decide) (by kernel_rfl) (fun _ _ _ h => by cases h.1) (by rfl) ?hu08x9 hHeld ?ru08x9
          case hu08x9 =>
            intro V hV
            obtain ⟨s0, s1, s2⟩ := hV
            go_simp
            all_goals with_reducible rfl
          try simp only [Act.put, List.setIfInBounds_toArray, List.set_cons_zero, List.set_cons_succ]
          refine wpAnyE_take (i := 9) (oi := ({ dst := some 37, op := Op.load 3 (Operand.tmp 36), type := 3, pos := "paths.go:145", after := #[{ on := 8, ground := Ground.data }], guard := none } : Oper)) (v := ?vu09x10) rfl (by kernel_rfl) (by decide) (by kernel_rfl) (fun _ _ _ h => by cases h.1) (by rfl) ?hu09x10 hHeld ?ru09x10
          case hu09x10 =>
            intro V hV
            obtain ⟨s0, s1, s2⟩ := hV
            go_simp
            all_goals with_reducible rfl
          try simp only [Act.put, List.setIfInBounds_toArray, List.set_cons_zero, List.set_cons_succ]
          refine wpAnyE_take (i := 10) (oi := ({ dst := some 38, op := Op.binOp BinOp.add 3 (Operand.tmp 33) (Operand.tmp 37) 3, type := 3, pos := "paths.go:145", after := #[{ on := 5, ground := Ground.data }, { on := 9, ground := Ground.data }], guard := none } : Oper)) (v := ?vu010x11) rfl (by kernel_rfl) (by decide) (by kernel_rfl) (fun _ _ _ h => by cases h.1) (by rfl) ?hu010x11 hHeld ?ru010x11
          case hu010x11 =>
            intro V hV
            obtain ⟨s0, s1, s2⟩ := hV
            go_simp
            all_goals with_reducible rfl
          try simp only [Act.put, List.setIfInBounds_toArray, List.set_cons_zero, List.set_cons_succ]
          refine wpAnyE_take (i := 11) (oi := ({ dst := some 39, op := Op.call { callee := Callee.builtin Builtin.min, args := #[Operand.tmp 38, Operand.const (Value.int IntKind.i64 4097)], argTypes := #[3, 3] }, type := 3, pos := "paths.go:145", after := #[{ on := 10, ground := Ground.data }], guard := none } : Oper)) (v := .int .i64 ((min (bq + st) 4097 : Nat) : Int)) rfl (by kernel_rfl) (by decide) (by kernel_rfl) (fun _ _ _ h => by cases h.1) (by rfl) ?hu011x12 hHeld ?ru011x12
          case hu011x12 =>
            intro V hV
            obtain ⟨s0, s1, s2⟩ := hV
            go_simp
            (try rw [hwm])
            by_cases h9 : bq + st ≤ 4097
            · rw [Nat.min_eq_left h9, if_neg (by omega)]; omega
            · rw [Nat.min_eq_right (by omega), if_pos (by omega)]; rfl
          try simp only [Act.put, List.setIfInBounds_toArray, List.set_cons_zero, List.set_cons_succ]
          refine wpAnyE_take (i := 12) (oi := ({ dst := some 40, op := Op.indexAddr 32 (Operand.tmp 28) (Operand.tmp 29), type := 0, pos := "paths.go:145", after := #[{ on := 0, ground := Ground.data }, { on := 1, ground := Ground.data }, { on := 0, ground := Ground.phase }, { on := 1, ground := Ground.phase }, { on := 2, ground := Ground.phase }, { on := 3, ground := Ground.phase }, { on := 4, ground := Ground.phase }, { on := 5, ground := Ground.phase }, { on := 6, ground := Ground.phase }, { on := 7, ground := Ground.phase }, { on := 8, ground := Ground.phase }, { on := 9, ground := Ground.phase }, { on := 10, ground := Ground.phase }, { on := 11, ground := Ground.phase }], guard := none } : Oper)) (v := ?vu012x13) rfl (by kernel_rfl) (by decide) (by kernel_rfl) (fun _ _ _ h => by cases h.1) (by rfl) ?hu012x13 hHeld ?ru012x13
          case hu012x13 =>
            intro V hV
            obtain ⟨s0, s1, s2⟩ := hV
            go_simp
            all_goals with_reducible rfl
          try simp only [Act.put, List.setIfInBounds_toArray, List.set_cons_zero, List.set_cons_succ]
          refine wpAnyE_late (j := 13) (o := ({ dst := none, op := Op.store 3 (Operand.tmp 40) (Operand.tmp 39), type := 0, pos := "paths.go:145", after := #[{ on := 12, ground := Ground.data }, { on := 11, ground := Ground.data }, { on := 0, ground := Ground.phase }, { on := 1, ground := Ground.phase }, { on := 2, ground := Ground.phase }, { on := 3, ground := Ground.phase }, { on := 4, ground := Ground.phase }, { on := 5, ground := Ground.phase }, { on := 6, ground := Ground.phase }, { on := 7, ground := Ground.phase }, { on := 8, ground := Ground.phase }, { on := 9, ground := Ground.phase }, { on := 10, ground := Ground.phase }, { on := 11, ground := Ground.phase }], guard := none } : Oper)) (by kernel_rfl) (by decide) rfl (fun K hK => ?_)
          go_simp
          refine hK.out _ _ ?_
          clear hK K
          try simp only [Act.put, List.setIfInBounds_toArray, List.set_cons_zero, List.set_cons_succ]
          refine wpAnyE_done (by kernel_rfl) ?_ _
          refine ⟨rfl, ?_⟩
          gi_wp2
          have hrow' : Hid (RowAt (wr.setCell ⟨w.heap.size, y, none⟩ (.int .i64 ((min (bq + st) 4097 : Nat) : Int))).drew w.heap.size (intRow n fun i => if i = y then addC S (ll.take (k + 1)) (S y) else S i) 3) := Lib.hid (by
            have h := ROW.out.set y (.int .i64 ((min (bq + st) 4097 : Nat) : Int))
            rw [intRow_set] at h
            rw [HBQ.out]
            have e : (fun i => if i = y then min (bq + st) 4097 else if i = y then bq else S i) = fun i => if i = y then min (bq + st) 4097 else S i := by
              funext i
              by_cases hi : i = y
              · rw [if_pos hi, if_pos hi]
              · rw [if_neg hi, if_neg hi, if_neg hi]
            rw [e] at h
            exact h)
          exact ⟨⟨k + 1, by omega, by go_num, hrow', Lib.hid (But.drew_ (BU.out.set y _)), Lib.hid (But.drew_ (BU5.out.set y _)), Lib.hid (ko_drew (KO.out.trans (KeepsOthers.setCell _ _ _)))⟩, by simp [intOf]; omega⟩
        · obtain rfl : k = m := by omega
          have hfin : Hid (RowAt wr w.heap.size (intRow n (lgC g (pre ++ [x]))) 3) := Lib.hid (by
            have h := ROW.out
            rw [List.take_of_length_le (by rw [HML.out]; exact Nat.le_refl _)] at h
            rw [HSN.out]
            exact h)
          gi_wp2
          refine ⟨KO.out.from _, ⟨BU.out.block _ HITB.out.lt (by omega), BU.out.block _ (by omega) (by omega)⟩, ⟨⟨hfin.out, HBOX5.out, (BU.out.block _ HITB.out.lt (by omega)).trans HITB.out⟩, BU.out.below HB.out HB.out.size (Nat.le_refl _)⟩⟩
    · have e14 : K = 14 := by simpa using h14
      rw [if_pos e14] at HSN
      subst e14
      clear h14
      have ROW1 : Hid (RowAt (W.setCell ⟨w.heap.size, y, none⟩ (.int .i64 1)) w.heap.size (intRow n fun i => if i = y then 1 else S i) 3) := Lib.hid (by
        have h := HROW.out.set y (.int .i64 ((1 : Nat) : Int))
        rw [intRow_set] at h
        exact h)
      have BU1 : Hid (But w.heap.size W (W.setCell ⟨w.heap.size, y, none⟩ (.int .i64 1))) := Lib.hid ((But.refl _ _).set y _)
      have KO1 : Hid (KeepsOthers W (W.setCell ⟨w.heap.size, y, none⟩ (.int .i64 1))) := Lib.hid (KeepsOthers.setCell _ _ _)
      have hBb : (1 : Nat) ≤ 4097 := by decide
      gi_wp2_with fail
      refine ⟨trivial, ?_⟩
      refine (CallsIn.inRound l (callsIn_wide.2 (HL.out _))).mono ?_
      rintro e w4 ⟨lA, m, rfl, hI, hB4⟩
      obtain ⟨hml, hcel, hblk⟩ := hI
      have HML := Lib.hid hml
      have HCEL := Lib.hid hcel
      have HBLK := Lib.hid hblk
      have HB4 := Lib.hid hB4
      clear hml hcel hblk hB4 p0 p1 p2 p3 p4 p5 HL
      gi_wp2
      have ROW4 : Hid (RowAt w4 w.heap.size (intRow n fun i => if i = y then 1 else S i) 3) := Lib.hid (ROW1.out.below HB4.out ROW1.out.lt)
      have BU4 : Hid (But w.heap.size W w4) := Lib.hid (BU1.out.trans_ (But.of_below HB4.out))
      have KO4 : Hid (KeepsOthers W w4) := Lib.hid (KO1.out.trans (others_below HB4.out))
      clear ROW1 BU1 KO1 hq hfr q1
      gi_loopw [24] (fun i wr => ∃ k : Nat, k ≤ m ∧ i = .int .i64 k ∧ Hid (RowAt wr w.heap.size (intRow n fun i => if i = y then addC S (ll.take k) 1 else S i) 3) ∧ Hid (But w.heap.size W wr) ∧ Hid (But w.heap.size w4 wr) ∧ Hid (KeepsOthers W wr))
        (fun i _ => m - (intOf i).toNat)
      case atStart => exact ⟨0, Nat.zero_le _, rfl, ROW4, BU4, Lib.hid (But.refl _ _), KO4⟩
      case round =>
        clear ROW4 BU4 KO4
        obtain ⟨k, hk, rfl, ROW, BU, BU5, KO⟩ := hrel
        obtain ⟨_, hm2⟩ := HCEL.out.le
        unfold maxLen at hm2
        have HBOX5 : Hid (RowAt wr (w.heap.size + 1) #[.slice (some ⟨w.heap.size, 0, none⟩) n n] 32) := Lib.hid ((BU.out.block _ HBOX.out.lt (by omega)).trans HBOX.out)
        by_cases hlt : k < m
        · obtain ⟨lb, lo, rfl, hlb, hlc⟩ := HCEL.out.at_ (by omega)
          have hne : lb ≠ w.heap.size := by
            have h1 := HBLK.out _ rfl
            have h2 := HROW.out.lt
            simp at h1 h2
            omega
          have hc3 := (BU5.out.cell (p := ⟨lb, lo + k, none⟩) hlb hne).trans (hlc k (by omega))
          have HTK : Hid (ll.take (k + 1) = ll.take k ++ [ll.getD k 0]) := Lib.hid (by
            have := HML.out
            rw [List.take_add_one, List.getD_eq_getElem?_getD, List.getElem?_eq_getElem (by omega)]; rfl)
          have hto := HNX.out (ll.getD k 0) (by
            have := HML.out
            rw [List.getD_eq_getElem?_getD, List.getElem?_eq_getElem (by omega)]; exact List.getElem_mem _)
          generalize ll.getD k 0 = to at *
          obtain ⟨hto1, hto2⟩ := hto
          obtain ⟨bq, hbq⟩ : ∃ b, addC S (ll.take k) 1 = b := ⟨_, rfl⟩
          have HBQ : Hid (addC S (ll.take (k + 1)) 1 = min (bq + S to) 4097) := Lib.hid (by rw [HTK.out, addC_snoc, hbq])
          have hb9 : bq ≤ 4097 := by rw [← hbq]; exact addC_le _ _ _ hBb
          rw [hbq] at ROW
          have hs9 := HSL.out to
          have e0 := ROW.out.cell y _ (intRow_at n _ y hxn)
          have e1 := ROW.out.cell to _ (intRow_at n _ to hto1)
          rw [if_pos rfl] at e0
          rw [if_neg (by omega)] at e1
          have f0 := ROW.out.frozen y
          have b0 := HBOX5.out.cell 0 _ rfl
          have i3 : (0 : Int) ≤ (k : Int) := by omega
          have i4 : (k : Int) < (m : Int) := by omega
          have i5 : (0 : Int) ≤ (to : Int) := by omega
          have i6 : (to : Int) < (n : Int) := by omega
          obtain ⟨st, hst⟩ : ∃ z, S to = z := ⟨_, rfl⟩
          rw [hst] at e1 hs9 HBQ
          clear hlc hne hbq hst
          gi_wp2
          refine wpIn_region_E (S := fun V => V.cell? ⟨w.heap.size + 1, 0, none⟩ = some (.slice (some ⟨w.heap.size, 0, none⟩) n n) ∧ V.cell? ⟨w.heap.size, y, none⟩ = some (.int .i64 (bq : Nat)) ∧ V.cell? ⟨w.heap.size, to, none⟩ = some (.int .i64 (st : Nat))) 13 (by kernel_rfl) (by kernel_rfl) ?_
          have hwm : IntKind.i64.wrap ((bq : Int) + (st : Int)) = (bq : Int) + (st : Int) := IntWalk.i64_in _ (by omega)
          have hHeld : (fun V : World => V.cell? ⟨w.heap.size + 1, 0, none⟩ = some (.slice (some ⟨w.heap.size, 0, none⟩) n n) ∧ V.cell? ⟨w.heap.size, y, none⟩ = some (.int .i64 (bq : Nat)) ∧ V.cell? ⟨w.heap.size, to, none⟩ = some (.int .i64 (st : Nat))) wr.drew := ⟨b0, e0, e1⟩
          have f0d : wr.drew.frozen? ⟨w.heap.size, y, none⟩ = false := f0
          have e0d : wr.drew.cell? ⟨w.heap.size, y, none⟩ = some (.int .i64 (bq : Nat)) := e0
          refine wpAnyE_take (i := 0) (oi := ({ dst := some 28, op := Op.load 32 (Operand.tmp 3), type := 32, pos := "paths.go:145", after := #[], guard := none } : Oper)) (v := ?vu10x1) rfl (by kernel_rfl) (by decide) (by kernel_rfl) (fun _ _ _ h => by cases h.1) (by rfl) ?hu10x1 hHeld ?ru10x1
          case hu10x1 =>
            intro V hV
            obtain ⟨s0, s1, s2⟩ := hV
            go_simp
            all_goals with_reducible rfl
          try simp only [Act.put, List.setIfInBounds_toArray, List.set_cons_zero, List.set_cons_succ]
          refine wpAnyE_take (i := 1) (oi := ({ dst := some 29, op := Op.move (Operand.tmp 4), type := 3, pos := "paths.go:145", after := #[], guard := none } : Oper)) (v := ?vu11x2) rfl (by kernel_rfl) (by decide) (by kernel_rfl) (fun _ _ _ h => by cases h.1) (by rfl) ?hu11x2 hHeld ?ru11x2
          case hu11x2 =>
            intro V hV
            obtain ⟨s0, s1, s2⟩ := hV
            go_simp
            all_goals with_reducible rfl
          try simp only [Act.put, List.setIfInBounds_toArray, List.set_cons_zero, List.set_cons_succ]
          refine wpAnyE_take (i := 2) (oi := ({ dst := some 30, op := Op.load 32 (Operand.tmp 3), type := 32, pos := "paths.go:145", after := #[], guard := none } : Oper)) (v := ?vu12x3) rfl (by kernel_rfl) (by decide) (by kernel_rfl) (fun _ _ _ h => by cases h.1) (by rfl) ?hu12x3 hHeld ?ru12x3
          case hu12x3 =>
            intro V hV
            obtain ⟨s0, s1, s2⟩ := hV
            go_simp
            all_goals with_reducible rfl
          try simp only [Act.put, List.setIfInBounds_toArray, List.set_cons_zero, List.set_cons_succ]
          refine wpAnyE_take (i := 3) (oi := ({ dst := some 31, op := Op.move (Operand.tmp 4), type := 3, pos := "paths.go:145", after := #[], guard := none } : Oper)) (v := ?vu13x4) rfl (by kernel_rfl) (by decide) (by kernel_rfl) (fun _ _ _ h => by cases h.1) (by rfl) ?hu13x4 hHeld ?ru13x4
          case hu13x4 =>
            intro V hV
            obtain ⟨s0, s1, s2⟩ := hV
            go_simp
            all_goals with_reducible rfl
          try simp only [Act.put, List.setIfInBounds_toArray, List.set_cons_zero, List.set_cons_succ]
          refine wpAnyE_take (i := 4) (oi := ({ dst := some 32, op := Op.indexAddr 32 (Operand.tmp 30) (Operand.tmp 31), type := 0, pos := "paths.go:145", after := #[{ on := 2, ground := Ground.data }, { on := 3, ground := Ground.data }], guard := none } : Oper)) (v := ?vu14x5) rfl (by kernel_rfl) (by decide) (by kernel_rfl) (fun _ _ _ h => by cases h.1) (by rfl) ?hu14x5 hHeld ?ru14x5
          case hu14x5 =>
            intro V hV
            obtain ⟨s0, s1, s2⟩ := hV
            go_simp
            all_goals with_reducible rfl
          try simp only [Act.put, List.setIfInBounds_toArray, List.set_cons_zero, List.set_cons_succ]
          refine wpAnyE_take (i := 5) (oi := ({ dst := some 33, op := Op.load 3 (Operand.tmp 32), type := 3, pos := "paths.go:145", after := #[{ on := 4, ground := Ground.data }], guard := none } : Oper)) (v := ?vu15x6) rfl (by kernel_rfl) (by decide) (by kernel_rfl) (fun _ _ _ h => by cases h.1) (by rfl) ?hu15x6 hHeld ?ru15x6
          case hu15x6 =>
            intro V hV
            obtain ⟨s0, s1, s2⟩ := hV
            go_simp
            all_goals with_reducible rfl
          try simp only [Act.put, List.setIfInBounds_toArray, List.set_cons_zero, List.set_cons_succ]
          refine wpAnyE_take (i := 6) (oi := ({ dst := some 34, op := Op.load 32 (Operand.tmp 3), type := 32, pos := "paths.go:145", after := #[], guard := none } : Oper)) (v := ?vu16x7) rfl (by kernel_rfl) (by decide) (by kernel_rfl) (fun _ _ _ h => by cases h.1) (by rfl) ?hu16x7 hHeld ?ru16x7
          case hu16x7 =>
            intro V hV
            obtain ⟨s0, s1, s2⟩ := hV
            go_simp
            all_goals with_reducible rfl
          try simp only [Act.put, List.setIfInBounds_toArray, List.set_cons_zero, List.set_cons_succ]
          refine wpAnyE_take (i := 7) (oi := ({ dst := some 35, op := Op.move (Operand.tmp 7), type := 3, pos := "paths.go:145", after := #[], guard := none } : Oper)) (v := ?vu17x8) rfl (by kernel_rfl) (by decide) (by kernel_rfl) (fun _ _ _ h => by cases h.1) (by rfl) ?hu17x8 hHeld ?ru17x8
          case hu17x8 =>
            intro V hV
            obtain ⟨s0, s1, s2⟩ := hV
            go_simp
            all_goals with_reducible rfl
          try simp only [Act.put, List.setIfInBounds_toArray, List.set_cons_zero, List.set_cons_succ]
          refine wpAnyE_take (i := 8) (oi := ({ dst := some 36, op := Op.indexAddr 32 (Operand.tmp 34) (Operand.tmp 35), type := 0, pos := "paths.go:145", after := #[{ on := 6, ground := Ground.data }, { on := 7, ground := Ground.data }], guard := none } : Oper)) (v := ?vu18x9) rfl (by kernel_rfl) (by decide) (by kernel_rfl) (fun _ _ _ h => by cases h.1) (by rfl) ?hu18x9 hHeld ?ru18x9
          case hu18x9 =>
            intro V hV
            obtain ⟨s0, s1, s2⟩ := hV
            go_simp
            all_goals with_reducible rfl
          try simp only [Act.put, List.setIfInBounds_toArray, List.set_cons_zero, List.set_cons_succ]
          refine wpAnyE_take (i := 9) (oi := ({ dst := some 37, op := Op.load 3 (Operand.tmp 36), type := 3, pos := "paths.go:145", after := #[{ on := 8, ground := Ground.data }], guard := none } : Oper)) (v := ?vu19x10) rfl (by kernel_rfl) (by decide) (by kernel_rfl) (fun _ _ _ h => by cases h.1) (by rfl) ?hu19x10 hHeld ?ru19x10
          case hu19x10 =>
            intro V hV
            obtain ⟨s0, s1, s2⟩ := hV
            go_simp
            all_goals with_reducible rfl
          try simp only [Act.put, List.setIfInBounds_toArray, List.set_cons_zero, List.set_cons_succ]
          refine wpAnyE_take (i := 10) (oi := ({ dst := some 38, op := Op.binOp BinOp.add 3 (Operand.tmp 33) (Operand.tmp 37) 3, type := 3, pos := "paths.go:145", after := #[{ on := 5, ground := Ground.data }, { on := 9, ground := Ground.data }], guard := none } : Oper)) (v := ?vu110x11) rfl (by kernel_rfl) (by decide) (by kernel_rfl) (fun _ _ _ h => by cases h.1) (by rfl) ?hu110x11 hHeld ?ru110x11
          case hu110x11 =>
            intro V hV
            obtain ⟨s0, s1, s2⟩ := hV
            go_simp
            all_goals with_reducible rfl
          try simp only [Act.put, List.setIfInBounds_toArray, List.set_cons_zero, List.set_cons_succ]
          refine wpAnyE_take (i := 11) (oi := ({ dst := some 39, op := Op.call { callee := Callee.builtin Builtin.min, args := #[Operand.tmp 38, Operand.const (Value.int IntKind.i64 4097)], argTypes := #[3, 3] }, type := 3, pos := "paths.go:145", after := #[{ on := 10, ground := Ground.data }], guard := none } : Oper)) (v := .int .i64 ((min (bq + st) 4097 : Nat) : Int)) rfl (by kernel_rfl) (by decide) (by kernel_rfl) (fun _ _ _ h => by cases h.1) (by rfl) ?hu111x12 hHeld ?ru111x12
          case hu111x12 =>
            intro V hV
            obtain ⟨s0, s1, s2⟩ := hV
            go_simp
            (try rw [hwm])
            by_cases h9 : bq + st ≤ 4097
            · rw [Nat.min_eq_left h9, if_neg (by omega)]; omega
            · rw [Nat.min_eq_right (by omega), if_pos (by omega)]; rfl
          try simp only [Act.put, List.setIfInBounds_toArray, List.set_cons_zero, List.set_cons_succ]
          refine wpAnyE_take (i := 12) (oi := ({ dst := some 40, op := Op.indexAddr 32 (Operand.tmp 28) (Operand.tmp 29), type := 0, pos := "paths.go:145", after := #[{ on := 0, ground := Ground.data }, { on := 1, ground := Ground.data }, { on := 0, ground := Ground.phase }, { on := 1, ground := Ground.phase }, { on := 2, ground := Ground.phase }, { on := 3, ground := Ground.phase }, { on := 4, ground := Ground.phase }, { on := 5, ground := Ground.phase }, { on := 6, ground := Ground.phase }, { on := 7, ground := Ground.phase }, { on := 8, ground := Ground.phase }, { on := 9, ground := Ground.phase }, { on := 10, ground := Ground.phase }, { on := 11, ground := Ground.phase }], guard := none } : Oper)) (v := ?vu112x13) rfl (by kernel_rfl) (by decide) (by kernel_rfl) (fun _ _ _ h => by cases h.1) (by rfl) ?hu112x13 hHeld ?ru112x13
          case hu112x13 =>
            intro V hV
            obtain ⟨s0, s1, s2⟩ := hV
            go_simp
            all_goals with_reducible rfl
          try simp only [Act.put, List.setIfInBounds_toArray, List.set_cons_zero, List.set_cons_succ]
          refine wpAnyE_late (j := 13) (o := ({ dst := none, op := Op.store 3 (Operand.tmp 40) (Operand.tmp 39), type := 0, pos := "paths.go:145", after := #[{ on := 12, ground := Ground.data }, { on := 11, ground := Ground.data }, { on := 0, ground := Ground.phase }, { on := 1, ground := Ground.phase }, { on := 2, ground := Ground.phase }, { on := 3, ground := Ground.phase }, { on := 4, ground := Ground.phase }, { on := 5, ground := Ground.phase }, { on := 6, ground := Ground.phase }, { on := 7, ground := Ground.phase }, { on := 8, ground := Ground.phase }, { on := 9, ground := Ground.phase }, { on := 10, ground := Ground.phase }, { on := 11, ground := Ground.phase }], guard := none } : Oper)) (by kernel_rfl) (by decide) rfl (fun K hK => ?_)
          go_simp
          refine hK.out _ _ ?_
          clear hK K
          try simp only [Act.put, List.setIfInBounds_toArray, List.set_cons_zero, List.set_cons_succ]
          refine wpAnyE_done (by kernel_rfl) ?_ _
          refine ⟨rfl, ?_⟩
          gi_wp2
          have hrow' : Hid (RowAt (wr.setCell ⟨w.heap.size, y, none⟩ (.int .i64 ((min (bq + st) 4097 : Nat) : Int))).drew w.heap.size (intRow n fun i => if i = y then addC S (ll.take (k + 1)) 1 else S i) 3) := Lib.hid (by
            have h := ROW.out.set y (.int .i64 ((min (bq + st) 4097 : Nat) : Int))
            rw [intRow_set] at h
            rw [HBQ.out]
            have e : (fun i => if i = y then min (bq + st) 4097 else if i = y then bq else S i) = fun i => if i = y then min (bq + st) 4097 else S i := by
              funext i
              by_cases hi : i = y
              · rw [if_pos hi, if_pos hi]
              · rw [if_neg hi, if_neg hi, if_neg hi]
            rw [e] at h
            exact h)
          exact ⟨⟨k + 1, by omega, by go_num, hrow', Lib.hid (But.drew_ (BU.out.set y _)), Lib.hid (But.drew_ (BU5.out.set y _)), Lib.hid (ko_drew (KO.out.trans (KeepsOthers.setCell _ _ _)))⟩, by simp [intOf]; omega⟩
        · obtain rfl : k = m := by omega
          have hfin : Hid (RowAt wr w.heap.size (intRow n (lgC g (pre ++ [x]))) 3) := Lib.hid (by
            have h := ROW.out
            rw [List.take_of_length_le (by rw [HML.out]; exact Nat.le_refl _)] at h
            rw [HSN.out]
            exact h)
          gi_wp2
          refine ⟨KO.out.from _, ⟨BU.out.block _ HITB.out.lt (by omega), BU.out.block _ (by omega) (by omega)⟩, ⟨⟨hfin.out, HBOX5.out, (BU.out.block _ HITB.out.lt (by omega)).trans HITB.out⟩, BU.out.below HB.out HB.out.size (Nat.le_refl _)⟩⟩
  case done =>
    rintro D ys W hD rfl ⟨⟨hrow, hbox, hitb⟩, hB⟩ hK
    have q1 := hbox.cell 0 _ rfl
    have q2 := hrow.cell 0 _ (intRow_at n _ 0 HF.out.pos)
    have i1 : (0 : Int) < (n : Int) := by have := HF.out.pos; omega
    gi_wp2
    refine ⟨by simp, .inl ⟨_, _, rfl, run_takeDeferred hK, ?_⟩⟩
    exact ⟨_, results_tmp rfl _ _ _, rfl, hB.trans (belowK_b (w := w) (Nat.le_refl _) W D _ _ (by omega) hK rfl rfl)⟩
  case stop =>
    rintro D c pre W _ _ h _
    exact h.elim
end Go.Proofs.Ytmndolojfdekdaa
