/-
  The contract of flow.Longest.
-/
import Derived.Test.YtmndolojfdekdaaFg
import Derived.Test.YtmndolojfdekdaaWb
namespace Go.Proofs.Ytmndolojfdekdaa
open Go.RowKit Go.Shelf
attribute [local go_sem] Oper.semAt_some

theorem bw_stops (F : Fence) (n : Nat) (h8 : F.fn 59) (hro : F.round = none) (hn : 1 ≤ n) (g : Nat → IV) (m cp Bx pb off : Nat) (hm : m ≤ 4096) (w : World) (hBx : Bx < w.heap.size) (hpb : pb < w.heap.size)
    (h1 : w.cell? ⟨Bx, 0, none⟩ = some (.slice (some ⟨pb, off, none⟩) m cp)) (h2 : ∀ i, i < m * 6 → w.cell? ⟨pb, off + i, none⟩ = some (fcell g i)) :
    SeqStopsK F n Try.prog 59 #[.pointer (some ⟨Bx, 0, none⟩)]
      (fun x : Fin m => #[Value.int .i64 (x.1 : Int), flV (g x.1) x.1]) (K2 Bx pb) (fun ys => ys = (List.finRange m).reverse) (fun _ => True) m w := fun l J Jx W hW _ _ hY h0 =>
  bw1_in F n h8 hro hn g m cp l Bx pb off hm J Jx hY W ((hW.cell (p := ⟨Bx, 0, none⟩) hBx).trans h1) (fun i hi => (hW.cell (p := ⟨pb, off + i, none⟩) hpb).trans (h2 i hi)) h0
set_option maxRecDepth 100000 in
theorem backward_any (A : Option Addr) (n c : Nat) (w : World) : Calls Try.prog 33 #[.slice A n c] w fun e w' => e = .returned (.func (.func 59) #[] #[.pointer (some ⟨w.heap.size, 0, none⟩)]) ∧ w' = w.alloc (.cells #[.slice A n c] 73) := by
  go_enter Try.func33, Try.ntmps33
  go_wp2
  go_ret
  exact ⟨rfl, rfl⟩
theorem ite_max (a b : Nat) : Value.int .i64 (if a < b then (b : Int) else (a : Int)) = Value.int .i64 ((max a b : Nat) : Int) := by
  congr 1
  by_cases h : a < b
  · rw [if_pos h, Nat.max_eq_right (by omega)]
  · rw [if_neg h, Nat.max_eq_left (by omega)]
theorem row_kept {W W' : World} {row : Option Nat} {b : Nat} {D : Array Value} {T : TypeId} (h : RowAt W b D T) (hg : W.grownBy W' row) (hrow : ∀ r, row = some r → ∃ o : Obj, W.heap[r]? = some o ∧ o.isCells = false) : RowAt W' b D T :=
  (grownBy_keeps_cells hg hrow h rfl).trans h
theorem others_below {W W' : World} (h : Below W.heap.size W W') : KeepsOthers W W' := ⟨h.size, fun k _ ho _ => (h.block k (Array.getElem?_eq_some_iff.1 ho).1).trans ho⟩

set_option maxRecDepth 100000 in
set_option maxHeartbeats 4000000 in
theorem longest_ok (A : Option Addr) (n c : Nat) (g : Nat → IV) (w : World) (hr : Ins w w.heap.size A n c g) (he : (checkF g n).2 = 0) :
    Calls Try.prog 9 #[.slice A n c] w fun e w' => e = .returned (.int .i64 (lng g n : Nat)) ∧ Below w.heap.size w w' := by
  obtain ⟨f0, f1, f2, f3⟩ := checkF_facts he
  have HF := Lib.hid (⟨f0, f1, f2, f3⟩ : Fmd g n)
  have HOK := Lib.hid hr.2
  have HP := Lib.hid (places_ok A n c g w hr he)
  have hmk := mk_ints n f1
  have hn0 : ((n : Int) == 0) = false := by simp; omega
  clear f0 f2 f3 hr he
  refine (callsIn_wide (n := 6)).1 ?_
  have hro : (Fence.wide).round = none := rfl
  refine callsIn_of_wp_marks Try.func9 rfl trivial ?_ hro
  simp only [Try.ntmps9, List.size_toArray, List.length_cons, List.length_nil, Nat.reduceAdd, Nat.reduceSub, Array.replicate_succ, Array.replicate_zero, List.push_toArray, List.append_toArray, List.nil_append, List.cons_append]
  gi_wp2_with (first
    | (refine ⟨trivial, ?_⟩; gi_at_call 30; refine (callsIn_wide.2 HP.out).mono ?_; rintro e w1 ⟨pb, rfl, hown, hB1⟩)
    | (refine ⟨trivial, ?_⟩; gi_at_call 33; refine (callsIn_wide.2 (backward_any _ _ _ _)).mono ?_; rintro e w2 ⟨rfl, rfl⟩))
  obtain ⟨pb', epb, hpb0, hpb1, hpc⟩ := hown.at_ HF.out.pos
  obtain rfl : pb = pb' := by injection epb with e; injection e
  have hbw : Below w.heap.size w (((w1.alloc (.cells (intRow n fun _ => 0) 3)).alloc (.cells #[.slice (some ⟨w1.heap.size, 0, none⟩) n n] 32)).alloc (.cells #[.slice (some ⟨pb, 0, none⟩) n n] 73)) := ((hB1.alloc hB1.size _).alloc (by have := hB1.size; simp; omega) _).alloc (by have := hB1.size; simp; omega) _
  have hr1 : RowAt (((w1.alloc (.cells (intRow n fun _ => 0) 3)).alloc (.cells #[.slice (some ⟨w1.heap.size, 0, none⟩) n n] 32)).alloc (.cells #[.slice (some ⟨pb, 0, none⟩) n n] 73)) w1.heap.size (intRow n fun _ => 0) 3 := h_old _ _ _ _ (h_old _ _ _ _ (h_last _ _ _ rfl))
  have hr2 : RowAt (((w1.alloc (.cells (intRow n fun _ => 0) 3)).alloc (.cells #[.slice (some ⟨w1.heap.size, 0, none⟩) n n] 32)).alloc (.cells #[.slice (some ⟨pb, 0, none⟩) n n] 73)) (w1.heap.size + 1) #[.slice (some ⟨w1.heap.size, 0, none⟩) n n] 32 := h_old _ _ _ _ (h_last _ _ _ (by simp))
  have hr3 : RowAt (((w1.alloc (.cells (intRow n fun _ => 0) 3)).alloc (.cells #[.slice (some ⟨w1.heap.size, 0, none⟩) n n] 32)).alloc (.cells #[.slice (some ⟨pb, 0, none⟩) n n] 73)) (w1.heap.size + 1 + 1) #[.slice (some ⟨pb, 0, none⟩) n n] 73 := h_last _ _ _ (by simp)
  have hpc3 : ∀ i, i < n * 6 → (((w1.alloc (.cells (intRow n fun _ => 0) 3)).alloc (.cells #[.slice (some ⟨w1.heap.size, 0, none⟩) n n] 32)).alloc (.cells #[.slice (some ⟨pb, 0, none⟩) n n] 73)).cell? ⟨pb, 0 + i, none⟩ = some (fcell g i) := fun i hi => by
    have hbb : Below w1.heap.size w1 (((w1.alloc (.cells (intRow n fun _ => 0) 3)).alloc (.cells #[.slice (some ⟨w1.heap.size, 0, none⟩) n n] 32)).alloc (.cells #[.slice (some ⟨pb, 0, none⟩) n n] 73)) := (((Below.refl _ _).alloc (Nat.le_refl _) _).alloc (by simp) _).alloc (by simp; omega) _
    rw [Nat.zero_add, hbb.cell (p := ⟨pb, i, none⟩) hpb1]
    exact (hpc i (by omega)).1
  have hsz : (((w1.alloc (.cells (intRow n fun _ => 0) 3)).alloc (.cells #[.slice (some ⟨w1.heap.size, 0, none⟩) n n] 32)).alloc (.cells #[.slice (some ⟨pb, 0, none⟩) n n] 73)).heap.size = w1.heap.size + 3 := by simp
  generalize (((w1.alloc (.cells (intRow n fun _ => 0) 3)).alloc (.cells #[.slice (some ⟨w1.heap.size, 0, none⟩) n n] 32)).alloc (.cells #[.slice (some ⟨pb, 0, none⟩) n n] 73)) = w3 at *
  have hw1 : w.heap.size ≤ w1.heap.size := hB1.size
  clear hmk hpc epb hown hB1
  refine wpIn_rangeFunc_ownH hro (by decide) (gf := 59) (lb := #[.pointer (some ⟨w1.heap.size + 1 + 1, 0, none⟩)]) rfl trivial (enters_of Try.func59 (by kernel_rfl) rfl)
    (bw_stops Fence.wide (6 - 1) trivial hro (by decide) g n n (w1.heap.size + 1 + 1) pb 0 HF.out.le w3 (by omega) (by omega) (hr3.cell 0 _ rfl) hpc3) (fun h k => K2.trans h k) (K2.book (by omega) (by omega)) (Below.refl _ _) (fun _ => rfl)
    (fun pre W => (RowAt W w1.heap.size (intRow n (lgL g pre)) 3 ∧ RowAt W (w1.heap.size + 1) #[.slice (some ⟨w1.heap.size, 0, none⟩) n n] 32 ∧ RowAt W (w1.heap.size + 1 + 1) #[.slice (some ⟨pb, 0, none⟩) n n] 73) ∧ Below w.heap.size w W)
    (fun _ _ _ => False)
    (OwnFrom.and (Own.from (fun s A B row hs hg hr => ⟨row_kept hs.1 hg hr, row_kept hs.2.1 hg hr, row_kept hs.2.2 hg hr⟩) _) (ownFrom_below (Nat.le_refl _) (by omega)))
    (fun _ _ _ _ _ hs _ _ => hs)
    ⟨⟨hr1, hr2, hr3⟩, hbw⟩
    (fun x a' W => ∃ Bx, w3.heap.size ≤ Bx ∧ RowAt W Bx #[.int .u16 (g x.1).c, .int .u8 (g x.1).t, .int .u8 (g x.1).f, .int .u32 (g x.1).k, .int .i64 (kd (g x.1)), .int .i64 (x.1 : Int)] 80 ∧ a' = { tmps := #[.slice A n c, undef, .int .i64 0, .slice (some ⟨pb, 0, none⟩) n n, .pointer (some ⟨w1.heap.size + 1, 0, none⟩), .int .i64 (x.1 : Int), .pointer (some ⟨Bx, 0, none⟩), undef, undef, undef, .slice A n c, .slice (some ⟨pb, 0, none⟩) n n, .slice (some ⟨pb, 0, none⟩) n n, .int .i64 n, .bool false, .slice (some ⟨pb, 0, none⟩) n n, .int .i64 n, .slice (some ⟨w1.heap.size, 0, none⟩) n n, .slice (some ⟨pb, 0, none⟩) n n,
      .func (.func 59) #[] #[.pointer (some ⟨w1.heap.size + 1 + 1, 0, none⟩)], .int .i64 (x.1 : Int), flV (g x.1) x.1, undef, undef, undef, undef, undef, undef, undef, undef, undef, undef, undef, undef, undef, undef, undef, undef, undef, undef, undef, undef, undef, undef], defers := [] })
    (fun x a' => Own.from (fun s A B row hs hg hr => by
      obtain ⟨Bx, h1, h2, h3⟩ := hs
      exact ⟨Bx, h1, row_kept h2 hg hr, h3⟩) _) ?assign ?body ?done ?stop
  case assign =>
    rintro l pre x W K ⟨⟨hrow, hbox, hitb⟩, hB⟩ hK
    have hWs : w3.heap.size ≤ W.heap.size := by have := hitb.lt; omega
    gi_wp2
    exact hK _ _ ((KeepsOthers.alloc _ _).from _) ⟨Below.heap_alloc _ _ _ (by omega), Below.heap_alloc _ _ _ (by omega)⟩ ⟨⟨h_old _ _ _ _ hrow, h_old _ _ _ _ hbox, h_old _ _ _ _ hitb⟩, hB.alloc hB.size _⟩ ⟨W.heap.size, hWs, heap_alloc_last W _, rfl⟩
  case body =>
    rintro l pre x a' W hl ⟨r, hr⟩ ⟨⟨hrow, hbox, hitb⟩, hB⟩ ⟨Bx, hBx, hrx, rfl⟩ hlen
    have hWs : w3.heap.size ≤ W.heap.size := by have := hitb.lt; omega
    have hxn := x.2
    obtain ⟨y, hy⟩ : ∃ y, x.1 = y := ⟨_, rfl⟩
    have HSN : Hid (lgL g (pre ++ [x]) = fun i => if i = y then 1 + maxl (lgL g pre) (nexts (g y) y) else lgL g pre i) := Lib.hid (by rw [lgL_snoc, hy]; rfl)
    have hSle : ∀ i, lgL g pre i ≤ pre.length := lgL_le g pre
    have HSL := Lib.hid hSle
    rw [hy] at hrx hxn ⊢
    have HL := Lib.hid (leadsF_any (g y) (HOK.out y hxn) y)
    have HNX : Hid (∀ to ∈ nexts (g y) y, to < n) := Lib.hid fun to h => next_lt HF.out hxn h
    obtain ⟨ll, hll⟩ : ∃ ll, nexts (g y) y = ll := ⟨_, rfl⟩
    rw [hll] at HL HNX HSN
    have HLL := Lib.hid hll
    generalize g y = v at *
    have p0 := hrx.cell 0 _ rfl
    have p1 := hrx.cell 1 _ rfl
    have p2 := hrx.cell 2 _ rfl
    have p3 := hrx.cell 3 _ rfl
    have p4 := hrx.cell 4 _ rfl
    have p5 := hrx.cell 5 _ rfl
    have hlen2 : pre.length ≤ 4096 := by have := HF.out.le; omega
    obtain ⟨S, hS⟩ : ∃ S, lgL g pre = S := ⟨_, rfl⟩
    rw [hS] at hrow HSN HSL
    have HROW := Lib.hid hrow
    have HBOX := Lib.hid hbox
    have HITB := Lib.hid hitb
    have HB := Lib.hid hB
    clear hS hll hy hSle hpc3 hr1 hr2 hr3 hbw hrow hbox hitb hB hr hrx
    gi_wp2_with (refine ⟨trivial, ?_⟩; gi_at_call 34; refine (CallsIn.inRound l (callsIn_wide.2 (HL.out W (by have := HF.out.le; omega)))).mono ?_; rintro e w4 ⟨lA, m, rfl, hI, hB4⟩)
    obtain ⟨hml, hcel, hblk⟩ := hI
    have HML := Lib.hid hml
    have HCEL := Lib.hid hcel
    have HROW4 := Lib.hid (HROW.out.below hB4 HROW.out.lt)
    have HBOX4 := Lib.hid (HBOX.out.below hB4 HBOX.out.lt)
    have HB4 := Lib.hid hB4
    have q1 := HBOX4.out.cell 0 _ rfl
    clear hml hcel hblk hB4 p0 p1 p2 p3 p4 p5 HL
    gi_loopw [7, 25] (fun b i wr => ∃ k : Nat, k ≤ m ∧ i = .int .i64 k ∧ b = .int .i64 (maxl S (ll.take k) : Nat) ∧ wr = w4)
      (fun _ i _ => m - (intOf i).toNat)
    case atStart => exact ⟨0, Nat.zero_le _, rfl, rfl, rfl⟩
    case round =>
      obtain ⟨k, hk, rfl, rfl, rfl⟩ := hrel
      obtain ⟨_, hm2⟩ := HCEL.out.le
      unfold maxLen at hm2
      by_cases hlt : k < m
      · obtain ⟨lb, lo, rfl, hlb, hlc⟩ := HCEL.out.at_ (by omega)
        have hc3 := hlc k (by omega)
        have HTK : Hid (ll.take (k + 1) = ll.take k ++ [ll.getD k 0]) := Lib.hid (by
          have := HML.out
          rw [List.take_add_one, List.getD_eq_getElem?_getD, List.getElem?_eq_getElem (by omega)]; rfl)
        have hto : ll.getD k 0 < n := HNX.out _ (by
          have := HML.out
          rw [List.getD_eq_getElem?_getD, List.getElem?_eq_getElem (by omega)]; exact List.getElem_mem _)
        have i1 : (0 : Int) ≤ (k : Int) := by omega
        have i2 : (k : Int) < (m : Int) := by omega
        generalize ll.getD k 0 = to at *
        have q2 := HROW4.out.cell to _ (intRow_at n S to hto)
        have i3 : (0 : Int) ≤ (to : Int) := by omega
        have i4 : (to : Int) < (n : Int) := by omega
        have hSt := HSL.out to
        clear hlc
        gi_wp2
        exact ⟨⟨k + 1, by omega, by go_num, by rw [HTK.out, maxl_snoc]; exact ite_max _ _, trivial⟩, by simp [intOf]; omega⟩
      · obtain rfl : k = m := by omega
        have HT : Hid (maxl S (ll.take k) = maxl S ll) := Lib.hid (by rw [List.take_of_length_le (by have := HML.out; omega)])
        have hmx := maxl_le HSL.out (ll.take k)
        have hfr := HROW4.out.frozen y
        have hq := HROW4.out.cell y _ (intRow_at n S y hxn)
        have i1 : (0 : Int) ≤ (y : Int) := by omega
        have i2 : (y : Int) < (n : Int) := by omega
        have hwr : IntKind.i64.wrap (1 + (maxl S (ll.take k) : Int)) = 1 + (maxl S (ll.take k) : Int) := IntWalk.i64_in _ (by omega)
        gi_wp2
        have hset := HROW4.out.set y (.int .i64 ((1 + maxl S (ll.take k) : Nat) : Int))
        rw [intRow_set, HT.out, ← HSN.out, ← HT.out] at hset
        have he : (1 : Int) + (maxl S (ll.take k) : Nat) = ((1 + maxl S (ll.take k) : Nat) : Int) := by omega
        rw [he]
        have hb4 := HITB.out.lt
        refine ⟨((others_below HB4.out).trans (KeepsOthers.setCell _ _ _)).from _, ⟨(Below.heap_setCell _ _ _ _ (by show w1.heap.size + 1 + 1 ≠ w1.heap.size; omega)).trans (HB4.out.block _ hb4), (Below.heap_setCell _ _ _ _ (by show pb ≠ w1.heap.size; omega)).trans (HB4.out.block _ (by omega))⟩,
          ⟨⟨hset, (Below.heap_setCell _ _ _ _ (by show w1.heap.size + 1 ≠ w1.heap.size; omega)).trans HBOX4.out, (Below.heap_setCell _ _ _ _ (by show w1.heap.size + 1 + 1 ≠ w1.heap.size; omega)).trans (HITB.out.below HB4.out hb4)⟩, (HB.out.trans (HB4.out.mono HB.out.size)).setCell (p := ⟨w1.heap.size, y, none⟩) hw1 _⟩⟩
  case done =>
    rintro D ys W hD rfl ⟨⟨hrow, hbox, hitb⟩, hB⟩ hK
    have q1 := hbox.cell 0 _ rfl
    have q2 := hrow.cell 0 _ (intRow_at n _ 0 HF.out.pos)
    have i1 : (0 : Int) < (n : Int) := by have := HF.out.pos; omega
    gi_wp2
    refine ⟨by simp, .inl ⟨_, _, rfl, run_takeDeferred hK, ?_⟩⟩
    exact ⟨_, results_tmp rfl _ _ _, rfl, hB.trans (belowK_b (w := w) (Nat.le_refl _) W D _ _ (by omega) hK rfl rfl)⟩
  case stop =>
    rintro D c pre W _ _ h _
    exact h.elim
end Go.Proofs.Ytmndolojfdekdaa

/-
  flow.Reach and flow.Longest, whole.
-/
namespace Go.Proofs.Ytmndolojfdekdaa
open Go.RowKit

theorem fmd_of {g : Nat → IV} {n : Nat} (he : (checkF g n).2 = 0) : Fmd g n := let ⟨a, b, c, d⟩ := checkF_facts he; ⟨a, b, c, d⟩
set_option maxRecDepth 100000 in
set_option maxHeartbeats 2000000 in
theorem longest_err (A : Option Addr) (n c : Nat) (g : Nat → IV) (w : World) (hr : Ins w w.heap.size A n c g) (he : (checkF g n).2 ≠ 0) :
    Calls Try.prog 9 #[.slice A n c] w fun e w' => e = .returned (.int .i64 0) ∧ Below w.heap.size w w' := by
  have HP := Lib.hid (places_err A n c g w hr he)
  clear hr he
  go_enter Try.func9, Try.ntmps9
  go_wp2_with (go_at_call 30; refine HP.out.mono ?_; rintro e w1 ⟨rfl, hB1⟩)
  go_ret
  exact ⟨rfl, hB1⟩
set_option maxRecDepth 100000 in
theorem reach_err (A : Option Addr) (n c : Nat) (g : Nat → IV) (w : World) (hr : Ins w w.heap.size A n c g) (he : (checkF g n).2 ≠ 0) :
    Calls Try.prog 7 #[.slice A n c] w fun e w' => e = .returned (.slice none 0 0) ∧ Below w.heap.size w w' := by
  have HP := Lib.hid (places_err A n c g w hr he)
  clear hr he
  go_enter Try.func7, Try.ntmps7
  go_wp2_with (first
    | (go_at_call 30; refine HP.out.mono ?_; rintro e w1 ⟨rfl, hB1⟩)
    | (go_at_call 29; refine (reached_nil _).mono ?_; rintro e w2 ⟨rfl, hB2⟩))
  go_ret
  exact ⟨rfl, hB1.trans (hB2.mono hB1.size)⟩
set_option maxRecDepth 100000 in
theorem reach_ok (A : Option Addr) (n c : Nat) (g : Nat → IV) (w : World) (hr : Ins w w.heap.size A n c g) (he : (checkF g n).2 = 0) :
    Calls Try.prog 7 #[.slice A n c] w fun e w' => ∃ b, e = .returned (.slice (some ⟨b, 0, none⟩) n n) ∧ w.heap.size ≤ b ∧ RowAt w' b (boolRow n (way g n)) 4 ∧ Below w.heap.size w w' := by
  have HP := Lib.hid (places_ok A n c g w hr he)
  have HF := Lib.hid (fmd_of he)
  have HOK := Lib.hid hr.2
  clear hr he
  go_enter Try.func7, Try.ntmps7
  go_wp2_with (first
    | (go_at_call 30; refine HP.out.mono ?_; rintro e w1 ⟨pb, rfl, hown, hB1⟩
       have hplc : Plc w1 (some ⟨pb, 0, none⟩) n g := by
         obtain ⟨pb', epb, _, hpb1, hpc⟩ := hown.at_ HF.out.pos
         obtain rfl : pb = pb' := by injection epb with e; injection e
         exact ⟨pb, 0, rfl, hpb1, fun i hi => by rw [Nat.zero_add]; exact (hpc i (by omega)).1⟩
       have HPL := Lib.hid hplc
       clear hplc hown)
    | (go_at_call 29; refine (reached_any _ n n g _ HPL.out HF.out HOK.out).mono ?_; rintro e w2 ⟨b, rfl, hb, hrow, hB2⟩))
  go_ret
  exact ⟨b, rfl, Nat.le_trans hB1.size hb, hrow, hB1.trans (hB2.mono hB1.size)⟩
end Go.Proofs.Ytmndolojfdekdaa
