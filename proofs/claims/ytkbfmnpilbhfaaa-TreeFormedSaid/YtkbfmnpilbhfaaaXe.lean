/-
  Layer 19 (tree): tree.Find and tree.Depth of any nodes that are a tree.
-/
import Derived.Test.YtkbfmnpilbhfaaaXc
import Derived.Deep.RegionHeld3
namespace Go.Proofs.Ytkbfmnpilbhfaaa
open Go.RowKit

set_option maxRecDepth 100000 in
set_option maxHeartbeats 8000000 in
theorem find_any (A : Option Addr) (N c : Nat) (T : Nat → Nd) (x : Nat) (r : Int) (w : World) (hC : Cel w w.heap.size 5 A N c (ndC T)) (hN : 1 ≤ N) (hN4 : N ≤ 8191) (hf : FindsAt T x (N - 1) r) :
    Calls Try.prog 10 #[.slice A N c, .int .u32 x] w fun e w' => e = .returned (.int .i64 r) ∧ w' = w := by
  obtain ⟨b, off, rfl, hb, hnc, hc⟩ := nd_at hC (by omega)
  have HC := Lib.hid hc
  have v0 : IntKind.i64.wrap ((N : Int) - 1) = ((N - 1 : Nat) : Int) := by rw [IntKind.wrap_i64]; omega
  have v1 : (N : Int) - 1 = ((N - 1 : Nat) : Int) := by omega
  have HF := Lib.hid hf
  obtain ⟨M, hM⟩ : ∃ M, N - 1 = M := ⟨_, rfl⟩
  have hMN : M < N := by omega
  rw [hM] at v0 v1 HF
  clear hc hf hC hM
  go_enter Try.func10, Try.ntmps10
  go_wp2
  go_loopw [5, 6] (fun pv _ wr => ∃ p : Nat, p < N ∧ pv = .int .i64 p ∧ Hid (FindsAt T x p r) ∧ wr = w) (fun pv _ _ => (intOf pv).toNat)
  case atStart => exact ⟨M, hMN, by go_num, HF, rfl⟩
  case round =>
    obtain ⟨p, hp, rfl, HP, rfl⟩ := hrel
    obtain ⟨q0, q1, q2, q3, q4⟩ := HC.out p hp
    have i1 : (p : Int) ≥ 0 := by omega
    have i2 : (p : Int) < (N : Int) := by omega
    have i3 : (0 : Int) ≤ (p : Int) := by omega
    have i4 : ¬ (p : Int) < 0 := by omega
    have i5 : decide ((p : Int) < 0) = false := by simp
    obtain ⟨nd, hnd⟩ : ∃ nd, T p = nd := ⟨_, rfl⟩
    rw [hnd] at q0 q1 q2 q3 q4
    have HND := Lib.hid hnd
    clear hnd
    obtain ⟨lf, nm, pl, lw, hg⟩ := nd
    simp only at q0 q1 q2 q3 q4
    cases lf with
    | true =>
      have hr : r = if x = nm then pl else -1 := by
        have h := HP.out
        cases h with
        | leaf _ h => rw [HND.out]
        | low _ _ h => rw [HND.out] at h; cases h
        | high _ _ h => rw [HND.out] at h; cases h
      by_cases e : x = nm
      · rw [if_pos e] at hr
        have HR := Lib.hid hr
        have d : ((nm : Int) == (x : Int)) = true := by simp; omega
        have d2 : ((nm : Int) != (x : Int)) = false := by simp; omega
        clear hr
        go_wp2
        go_ret
        exact ⟨ret_int HR.out.symm, by first | rfl | trivial⟩
      · rw [if_neg e] at hr
        have HR := Lib.hid hr
        have d : ((nm : Int) == (x : Int)) = false := by simp; omega
        have d2 : ((nm : Int) != (x : Int)) = true := by simp; omega
        clear hr
        go_wp2
        go_ret
        exact ⟨ret_int HR.out.symm, by first | rfl | trivial⟩
    | false =>
      by_cases e : x < nm
      · have hn : lw < p ∧ FindsAt T x lw r := by
          have h := HP.out
          cases h with
          | leaf _ h => rw [HND.out] at h; cases h
          | low _ _ h hx hp hr => rw [HND.out] at hp hr; exact ⟨hp, hr⟩
          | high _ _ h hx => rw [HND.out] at hx; simp only at hx; omega
        have d : ¬ (x : Int) ≥ (nm : Int) := by omega
        have d2 : ¬ (lw : Int) ≥ (p : Int) := by omega
        have hlt := hn.1
        have HN := Lib.hid hn
        clear hn
        go_wp2
        exact ⟨⟨lw, by omega, by go_num, Lib.hid HN.out.2, by first | rfl | trivial⟩, by simp [intOf]; omega⟩
      · have hn : hg < p ∧ FindsAt T x hg r := by
          have h := HP.out
          cases h with
          | leaf _ h => rw [HND.out] at h; cases h
          | low _ _ h hx => rw [HND.out] at hx; simp only at hx; omega
          | high _ _ h hx hp hr => rw [HND.out] at hp hr; exact ⟨hp, hr⟩
        have d : (x : Int) ≥ (nm : Int) := by omega
        have d2 : ¬ (hg : Int) ≥ (p : Int) := by omega
        have hlt := hn.1
        have HN := Lib.hid hn
        clear hn
        go_wp2
        exact ⟨⟨hg, by omega, by go_num, Lib.hid HN.out.2, by first | rfl | trivial⟩, by simp [intOf]; omega⟩

/-- A row of whole numbers. -/
def intRow (n : Nat) (M : Nat → Nat) : Array Value := ((List.range n).map fun i => Value.int .i64 (M i : Nat)).toArray
theorem intRow_at (n : Nat) (M : Nat → Nat) (i : Nat) (hi : i < n) : (intRow n M)[i]? = some (.int .i64 (M i : Nat)) := by simp [intRow, hi]
theorem intRow_set (n : Nat) (M : Nat → Nat) (k v : Nat) (hv : M k = v) : (intRow n fun i => if i < k then M i else 0).setIfInBounds k (.int .i64 (v : Nat)) = intRow n fun i => if i < k + 1 then M i else 0 := by
  subst hv
  apply Array.ext_getElem?
  intro i
  rw [Array.getElem?_setIfInBounds]
  by_cases h : k = i
  · subst h
    rw [if_pos rfl]
    by_cases hn : k < n
    · simp [intRow, hn]
    · simp [intRow, hn]
  · rw [if_neg h]
    by_cases hn : i < n
    · have e : (i < k) = (i < k + 1) := propext (by omega)
      simp [intRow, hn, e]
    · simp [intRow, hn]
theorem intRow_step (n : Nat) (M : Nat → Nat) (k : Nat) (hv : M k = 0) : (intRow n fun i => if i < k then M i else 0) = intRow n fun i => if i < k + 1 then M i else 0 := by
  unfold intRow
  congr 1
  refine List.map_congr_left fun i _ => ?_
  congr 2
  dsimp only
  by_cases h : i = k
  · subst h; rw [if_neg (Nat.lt_irrefl _), if_pos (by omega), hv]
  · have e : (i < k) = (i < k + 1) := propext (by omega)
    simp [e]
theorem infoInt : (Try.prog.info? 3).map (fun i => (i.zero, i.size, i.bytes)) = some (some (.int .i64 0), 1, 8) := by kernel_rfl
theorem mk_ints (n : Nat) (hn : n ≤ 8191) (W : World) : (Instr.makeSlice 33 (.int .i64 (n : Int)) (.int .i64 (n : Int))).run Try.prog W = .ok (.slice (some ⟨W.heap.size, 0, none⟩) n n) (W.alloc (.cells (intRow n fun _ => 0) 3)) := by
  obtain ⟨i0, hi0, hz0, hz1, hz2⟩ := info_parts infoInt
  have hr := run_make (P := Try.prog) W 33 3 i0 _ Try.underlying33 hi0 hz0 .i64 .i64 n n (by omega) (Int.le_refl _) (by rw [hz2]; omega) (by omega)
  rw [hz1] at hr
  simp only [Int.toNat_natCast] at hr
  have e : madeCells (Value.int .i64 0).cells (n * 1) = intRow n fun _ => 0 := by
    rw [Nat.mul_one]
    apply Array.ext_getElem?
    intro i
    by_cases hi : i < n
    · simp [madeCells, intRow, hi, Value.cells, Nat.mod_one]
    · simp [madeCells, intRow, hi, Value.cells]
  rw [e] at hr
  exact hr

set_option maxRecDepth 100000 in
set_option maxHeartbeats 4000000 in
/-- The closure of tree.Depth, at a node ahead. -/
theorem below_any (to k n db DB AB : Nat) (v : Nat) (w : World) (hA : w.cell? ⟨AB, 0, none⟩ = some (.int .i64 k)) (hD : w.cell? ⟨DB, 0, none⟩ = some (.slice (some ⟨db, 0, none⟩) n n)) (hto : to < k) (hk : k ≤ n) (hv : w.cell? ⟨db, to, none⟩ = some (.int .i64 v)) :
    Calls Try.prog 16 #[.int .i64 to, .pointer (some ⟨AB, 0, none⟩), .pointer (some ⟨DB, 0, none⟩)] w fun e w' => e = .returned (.int .i64 v) ∧ w' = w := by
  have i1 : decide ((to : Int) < 0) = false := by simp
  have i2 : ¬ (to : Int) ≥ (k : Int) := by omega
  have i3 : (0 : Int) ≤ (to : Int) := by omega
  have i4 : (to : Int) < (n : Int) := by omega
  go_enter Try.func16, Try.ntmps16
  go_wp2
  go_ret
  exact ⟨rfl, rfl⟩

/-- What the nodes are to tell how deep they are. -/
def DpOk (T : Nat → Nd) (D : Nat → Nat) (N : Nat) : Prop := ∀ i, i < N → ((T i).leaf = true ∧ D i = 0) ∨ ((T i).leaf = false ∧ (T i).low < i ∧ (T i).high < i ∧ D i = 1 + max (D (T i).low) (D (T i).high))
theorem IsTree.dp {g : Nat → Nat} {n : Nat} {T : Nat → Nd} {D : Nat → Nat} {N : Nat} (h : IsTree g n T D N) : DpOk T D N := fun i hi => by
  rcases h.nodes i hi with (⟨a, b, _⟩ | ⟨a, b, c, d, _⟩) | ⟨_, _, rfl, h1, h2⟩
  · exact .inl ⟨a, b⟩
  · exact .inr ⟨a, b, c, d⟩
  · exact .inl ⟨by rw [h1], h2⟩
theorem DpOk.le {T : Nat → Nd} {D : Nat → Nat} {N : Nat} (h : DpOk T D N) : ∀ i, i < N → D i ≤ i := by
  intro i
  induction i using Nat.strongRecOn with
  | _ i ih =>
    intro hi
    rcases h i hi with ⟨_, e⟩ | ⟨_, h1, h2, e⟩
    · omega
    · have := ih _ h1 (by omega)
      have := ih _ h2 (by omega)
      omega

set_option maxRecDepth 100000 in
set_option maxHeartbeats 8000000 in
theorem depth_any (A : Option Addr) (N c : Nat) (T : Nat → Nd) (D : Nat → Nat) (w : World) (hC : Cel w w.heap.size 5 A N c (ndC T)) (hN : 1 ≤ N) (hN4 : N ≤ 8191) (hD : DpOk T D N) :
    Calls Try.prog 12 #[.slice A N c] w fun e w' => e = .returned (.int .i64 (D (N - 1))) ∧ Below w.heap.size w w' := by
  obtain ⟨b, off, rfl, hb, hnc, hc⟩ := nd_at hC (by omega)
  have HC := Lib.hid hc
  have HD := Lib.hid hD
  have HDL := Lib.hid hD.le
  have i0 : ((N : Int) == 0) = false := by simp; omega
  have v0 : IntKind.i64.wrap ((N : Int) - 1) = ((N - 1 : Nat) : Int) := by rw [IntKind.wrap_i64]; omega
  have v1 : (N : Int) - 1 = ((N - 1 : Nat) : Int) := by omega
  obtain ⟨M, hM⟩ : ∃ M, N - 1 = M := ⟨_, rfl⟩
  have hMN : M < N := by omega
  rw [hM] at v0 v1 ⊢
  obtain ⟨WS, hWS⟩ : ∃ B, w.heap.size = B := ⟨_, rfl⟩
  have hmk := mk_ints N (by omega) w
  have hmf : ∀ (fn : Fn) (first cap : Array Value) (w : World), (Instr.makeFunc fn first cap).run Try.prog w = .ok (.func fn first cap) w := fun _ _ _ _ => rfl
  have HWS := Lib.hid hWS
  obtain ⟨W1, hW1⟩ : ∃ W, (w.alloc (.cells (intRow N fun _ => 0) 3)).alloc (.cells #[.slice (some ⟨WS, 0, none⟩) N N] 33) = W := ⟨_, rfl⟩
  have hB1 : Below WS w W1 := by rw [← hW1, ← hWS]; exact ((Below.refl _ _).alloc (Nat.le_refl _) _).alloc (by simp) _
  have hr1 : RowC W1 WS (intRow N fun _ => 0) 3 := by rw [← hW1, ← hWS]; exact (RowC.new _ _ _ _ rfl).alloc _
  have hd1 : RowC W1 (WS + 1) #[.slice (some ⟨WS, 0, none⟩) N N] 33 := by rw [← hW1, ← hWS]; exact RowC.new _ _ _ _ (by simp)
  have HB1 := Lib.hid hB1
  have HR1 := Lib.hid hr1
  have HD1 := Lib.hid hd1
  have HW1 := Lib.hid hW1
  clear hc hC hM hD hB1 hr1 hd1 hW1
  go_enter Try.func12, Try.ntmps12
  go_upto_region 4 with fail
  (try rw [hWS])
  clear hWS hmk
  (try rw [HW1.out])
  go_wp2
  go_loopw [15] (fun iv wr => ∃ k : Nat, k ≤ N ∧ iv = .int .i64 k ∧ RowC wr WS (intRow N fun i => if i < k then D i else 0) 3 ∧ RowC wr (WS + 1) #[.slice (some ⟨WS, 0, none⟩) N N] 33 ∧ Below WS w wr) (fun iv _ => N - (intOf iv).toNat)
  case atStart => exact ⟨0, by omega, rfl, by simpa using HR1.out, HD1.out, HB1.out⟩
  case round =>
    obtain ⟨k, hk, rfl, hrw, hdw, hB⟩ := hrel
    have HRW := Lib.hid hrw
    have HDW := Lib.hid hdw
    have HBW := Lib.hid hB
    have hsz := hdw.lt
    have d0 := hdw.cell 0 (.slice (some ⟨WS, 0, none⟩) N N) rfl
    by_cases hlt : k < N
    · have i1 : (k : Int) < (N : Int) := by omega
      have i2 : (0 : Int) ≤ (k : Int) := by omega
      obtain ⟨q0, q1, q2, q3, q4⟩ := HC.out k hlt
      have ee : ∀ j, wr.cell? ⟨b, j, none⟩ = w.cell? ⟨b, j, none⟩ := fun j => hB.cell (show b < WS by rw [← HWS.out]; exact hb)
      rw [← ee] at q0 q1 q2 q3 q4
      obtain ⟨X, hX⟩ : ∃ X, wr.heap.size = X := ⟨_, rfl⟩
      obtain ⟨nd, hnd⟩ : ∃ nd, T k = nd := ⟨_, rfl⟩
      have hdk := HD.out k hlt
      rw [hnd] at q0 q1 q2 q3 q4 hdk
      obtain ⟨lf, nm, pl, lw, hg⟩ := nd
      simp only at q0 q1 q2 q3 q4 hdk
      obtain ⟨W2, hW2⟩ : ∃ W, (wr.alloc (.cells #[.int .i64 k] 3)).alloc (.cells #[.bool lf, .int .u32 nm, .int .i64 pl, .int .i64 lw, .int .i64 hg] 35) = W := ⟨_, rfl⟩
      have hB2 : Below X wr W2 := by rw [← hW2, ← hX]; exact ((Below.refl _ _).alloc (Nat.le_refl _) _).alloc (by simp) _
      have ha2 : RowC W2 X #[.int .i64 k] 3 := by rw [← hW2, ← hX]; exact (RowC.new _ _ _ _ rfl).alloc _
      have hx2 : RowC W2 (X + 1) #[.bool lf, .int .u32 nm, .int .i64 pl, .int .i64 lw, .int .i64 hg] 35 := by rw [← hW2, ← hX]; exact RowC.new _ _ _ _ (by simp)
      have hXW : WS + 2 ≤ X := by omega
      have HX := Lib.hid hX
      have HW2 := Lib.hid hW2
      have HB2 := Lib.hid hB2
      have HA2 := Lib.hid ha2
      have HX2 := Lib.hid hx2
      have hr2 := hrw.below hB2 (by omega)
      have hd2 := hdw.below hB2 (by omega)
      have HR2 := Lib.hid hr2
      have HD2 := Lib.hid hd2
      have x0 := hx2.cell 0 (.bool lf) rfl
      have x3 := hx2.cell 3 (.int .i64 lw) rfl
      have x4 := hx2.cell 4 (.int .i64 hg) rfl
      have a0 := ha2.cell 0 (.int .i64 k) rfl
      have e0 := hd2.cell 0 (.slice (some ⟨WS, 0, none⟩) N N) rfl
      clear hrw hdw hB ee hnd hW2 hB2 ha2 hx2 hr2 hd2
      cases lf with
      | true =>
        have hD0 : D k = 0 := by
          rcases hdk with ⟨_, h⟩ | ⟨h, _⟩
          · exact h
          · cases h
        have HD0 := Lib.hid hD0
        clear hdk hD0
        go_upto_region 7 with fail
        (try rw [hX])
        (try rw [HW2.out])
        clear hX d0
        go_wp2
        refine ⟨⟨k + 1, by omega, by go_num, ?_, HD2.out, HBW.out.trans (HB2.out.mono (by omega))⟩, by simp [intOf]; omega⟩
        have h := HR2.out
        rw [intRow_step N D k HD0.out] at h
        exact h
      | false =>
        have hD0 : lw < k ∧ hg < k ∧ D k = 1 + max (D lw) (D hg) := by
          rcases hdk with ⟨h, _⟩ | ⟨_, h1, h2, h3⟩
          · cases h
          · exact ⟨h1, h2, h3⟩
        have HD0 := Lib.hid hD0
        clear hdk hD0
        go_upto_region 7 with fail
        (try rw [hX])
        (try rw [HW2.out])
        clear hX d0
        go_upto_region 9 with fail
        have l0 := HD0.out.1
        have l1 := HD0.out.2.1
        have r1 : W2.cell? ⟨WS, lw, none⟩ = some (.int .i64 (D lw : Nat)) := by
          have h := HR2.out.cell lw _ (intRow_at N _ lw (by omega))
          rw [if_pos l0] at h
          exact h
        have r2 : W2.cell? ⟨WS, hg, none⟩ = some (.int .i64 (D hg : Nat)) := by
          have h := HR2.out.cell hg _ (intRow_at N _ hg (by omega))
          rw [if_pos l1] at h
          exact h
        have r3 : W2.cell? ⟨WS, k, none⟩ = some (.int .i64 0) := by
          have h := HR2.out.cell k _ (intRow_at N _ k (by omega))
          rw [if_neg (Nat.lt_irrefl _)] at h
          exact h
        have r4 := HR2.out.frozen k
        have HL := Lib.hid (below_any lw k N WS (WS + 1) X (D lw) W2.drew a0 e0 l0 hk r1)
        have HH := Lib.hid (below_any hg k N WS (WS + 1) X (D hg) W2.drew a0 e0 l1 hk r2)
        have dl := HDL.out lw (by omega)
        have dh := HDL.out hg (by omega)
        obtain ⟨dl', hdl⟩ : ∃ v, D lw = v := ⟨_, rfl⟩
        obtain ⟨dh', hdh⟩ : ∃ v, D hg = v := ⟨_, rfl⟩
        rw [hdl] at dl HL HD0
        rw [hdh] at dh HH HD0
        clear hdl hdh r1 r2
        go_region_held3 (fun w' => w'.cell? ⟨WS + 1, 0, none⟩ = some (.slice (some ⟨WS, 0, none⟩) N N) ∧ w'.cell? ⟨X, 0, none⟩ = some (.int .i64 k) ∧ w'.cell? ⟨X + 1, 3, none⟩ = some (.int .i64 lw) ∧ w'.cell? ⟨X + 1, 4, none⟩ = some (.int .i64 hg))
          (first | exact ⟨e0, a0, x3, x4⟩ | exact ⟨(World.cell?_setCell_other _ _ _ _ (by intro e; injection e; omega)).trans e0, (World.cell?_setCell_other _ _ _ _ (by intro e; injection e; omega)).trans a0, (World.cell?_setCell_other _ _ _ _ (by intro e; injection e; omega)).trans x3, (World.cell?_setCell_other _ _ _ _ (by intro e; injection e; omega)).trans x4⟩ | assumption)
          (first
            | (go_at_call 16
               first
                 | (with_reducible refine HL.out.mono ?_)
                 | (with_reducible refine HH.out.mono ?_)
               rintro e w9 ⟨rfl, rfl⟩))
        have em : IntKind.i64.wrap (1 + if dl' < dh' then (dh' : Int) else (dl' : Int)) = ((D k : Nat) : Int) := by
          rw [HD0.out.2.2, IntKind.wrap_i64]
          split <;> omega
        rw [em]
        go_wp2
        have hset := HR2.out.set k (.int .i64 (D k : Nat))
        rw [intRow_set N D k (D k) rfl] at hset
        refine ⟨⟨k + 1, by omega, by go_num, hset, RowC.setOther HD2.out k _ (by omega), ((HBW.out.trans (HB2.out.mono (by omega))).setCell (Nat.le_refl _) _).drew⟩, by simp [intOf]; omega⟩
    · obtain rfl : k = N := by omega
      have i1 : (0 : Int) ≤ (M : Int) := by omega
      have i2 : (M : Int) < (k : Int) := by omega
      have q0 := hrw.cell M _ (intRow_at k _ M hMN)
      rw [if_pos hMN] at q0
      go_wp2
      go_ret
      exact ⟨rfl, by rw [HWS.out]; exact hB⟩
end Go.Proofs.Ytkbfmnpilbhfaaa
