/-
  The contract of flow.Prune.
-/
import Derived.Test.YtjblkkffdhaiiabFo
import Derived.Test.YtjblkkffdhaiiabKl
namespace Go.Proofs.Ytjblkkffdhaiiab
open Go.RowKit Go.Shelf
attribute [local go_sem] Oper.semAt_some

theorem obj_kept {W W' : World} {row : Option Nat} {b : Nat} {o : Obj} (h : W.heap[b]? = some o) (hc : o.isCells = true) (hg : W.grownBy W' row) (hrow : ∀ r, row = some r → ∃ o : Obj, W.heap[r]? = some o ∧ o.isCells = false) : W'.heap[b]? = some o :=
  (grownBy_keeps_cells hg hrow h hc).trans h

/-- A row of N instructions, the first k of which are there. -/
def insRow (N k : Nat) (G : Nat → IV) : Array Value := ((List.range (N * 4)).map fun i => if i < k * 4 then icell G i else icell (fun _ => ⟨0, 0, 0, 0⟩) i).toArray
theorem ins_get (N k : Nat) (G : Nat → IV) (i : Nat) (hi : i < N * 4) : (insRow N k G)[i]? = some (if i < k * 4 then icell G i else icell (fun _ => ⟨0, 0, 0, 0⟩) i) := by simp [insRow, hi]
/-- One instruction more stands in the row. -/
theorem ins_step (N k : Nat) (G H : Nat → IV) (v : IV) (hk : k < N) (hv : H k = v) (hH : ∀ j, j < k → H j = G j) :
    ((((insRow N k G).setIfInBounds (k * 4) (.int .u16 v.c)).setIfInBounds (k * 4 + 1) (.int .u8 v.t)).setIfInBounds (k * 4 + 2) (.int .u8 v.f)).setIfInBounds (k * 4 + 3) (.int .u32 v.k) = insRow N (k + 1) H := by
  have hs : (insRow N k G).size = N * 4 := by simp [insRow]
  apply Array.ext_getElem?
  intro i
  by_cases hi : i < N * 4
  · rw [ins_get N (k + 1) H i hi]
    simp only [Array.getElem?_setIfInBounds, Array.size_setIfInBounds, hs]
    have d0 : k * 4 < N * 4 := by omega
    have d1 : k * 4 + 1 < N * 4 := by omega
    have d2 : k * 4 + 2 < N * 4 := by omega
    have d3 : k * 4 + 3 < N * 4 := by omega
    rw [if_pos d0, if_pos d1, if_pos d2, if_pos d3, ins_get N k G i hi]
    by_cases h3 : k * 4 + 3 = i
    · subst h3
      rw [if_pos rfl, if_pos (by omega)]
      unfold icell
      have e1 : (k * 4 + 3) % 4 = 3 := by omega
      have e2 : (k * 4 + 3) / 4 = k := by omega
      rw [e1, e2, hv]; rfl
    · rw [if_neg h3]
      by_cases h2 : k * 4 + 2 = i
      · subst h2
        rw [if_pos rfl, if_pos (by omega)]
        unfold icell
        have e1 : (k * 4 + 2) % 4 = 2 := by omega
        have e2 : (k * 4 + 2) / 4 = k := by omega
        rw [e1, e2, hv]; rfl
      · rw [if_neg h2]
        by_cases h1 : k * 4 + 1 = i
        · subst h1
          rw [if_pos rfl, if_pos (by omega)]
          unfold icell
          have e1 : (k * 4 + 1) % 4 = 1 := by omega
          have e2 : (k * 4 + 1) / 4 = k := by omega
          rw [e1, e2, hv]; rfl
        · rw [if_neg h1]
          by_cases h0 : k * 4 = i
          · subst h0
            rw [if_pos rfl, if_pos (by omega)]
            unfold icell
            have e1 : (k * 4) % 4 = 0 := by omega
            have e2 : (k * 4) / 4 = k := by omega
            rw [e1, e2, hv]; rfl
          · rw [if_neg h0]
            by_cases hl : i < k * 4
            · rw [if_pos hl, if_pos (by omega)]
              unfold icell
              rw [hH (i / 4) (by omega)]
            · rw [if_neg hl, if_neg (by omega)]
  · have e1 : (insRow N (k + 1) H)[i]? = none := by simp [insRow]; omega
    rw [e1]
    simp only [Array.getElem?_eq_none_iff, Array.size_setIfInBounds, hs]
    omega
/-- The whole row, as an own one. -/
theorem ins_own {W : World} {b N : Nat} {G : Nat → IV} (h : RowAt W b (insRow N N G) 27) (hN : N ≤ 4096) : OwnC W b 27 4 (some ⟨b, 0, none⟩) N N (icell G) := by
  refine ⟨by simp, .inr ⟨b, N, _, rfl, Nat.le_refl _, h, Nat.le_refl _, by unfold maxLen; omega, by simp [insRow], ?_⟩⟩
  rw [List.take_of_length_le (by simp [insRow])]
  unfold insRow
  exact List.map_congr_left fun i hi => by rw [if_pos (List.mem_range.1 hi)]
theorem mk_ins0 (m : Nat) (hm : m ≤ 4096) (W : World) : ∃ W', (Instr.makeSlice 23 (.int .i64 0) (.int .i64 (m : Int))).run Try.prog W = .ok (.slice (some ⟨W.heap.size, 0, none⟩) 0 m) W' ∧
    RowAt W' W.heap.size (insRow m 0 fun _ => ⟨0, 0, 0, 0⟩) 27 ∧ Below W.heap.size W W' ∧ W'.heap.size = W.heap.size + 1 := by
  obtain ⟨i0, hi0, hz0, hz1, hz2⟩ := info_parts infoI
  have hr := run_make (P := Try.prog) W 23 27 i0 _ Try.underlying23 hi0 hz0 .i64 .i64 0 m (by omega) (by omega) (by rw [hz2]; omega) (by omega)
  rw [hz1] at hr
  simp only [Int.toNat_natCast] at hr
  have e : madeCells (Value.agg #[.int .u16 0, .int .u8 0, .int .u8 0, .int .u32 0]).cells (m * 4) = insRow m 0 fun _ => ⟨0, 0, 0, 0⟩ := by
    apply Array.ext_getElem?
    intro i
    by_cases hi : i < m * 4
    · have h4 : i % 4 = 0 ∨ i % 4 = 1 ∨ i % 4 = 2 ∨ i % 4 = 3 := by omega
      rcases h4 with h | h | h | h <;> simp [madeCells, insRow, Value.cells, hi, h, icell]
    · simp [madeCells, insRow, hi]
  rw [e] at hr
  exact ⟨_, hr, heap_alloc_last W _, (Below.refl _ _).alloc (Nat.le_refl _) _, by simp⟩
theorem ownC_kept {W W' : World} {row : Option Nat} {base z n c : Nat} {E : TypeId} {A : Option Addr} {F : Nat → Value} (h : OwnC W base E z A n c F) (hg : W.grownBy W' row) (hrow : ∀ r, row = some r → ∃ o : Obj, W.heap[r]? = some o ∧ o.isCells = false) : OwnC W' base E z A n c F := by
  obtain ⟨h1, h2⟩ := h
  refine ⟨h1, ?_⟩
  rcases h2 with h2 | ⟨gg, cap, cur, hv, hgb, hh, r⟩
  · exact .inl h2
  · exact .inr ⟨gg, cap, cur, hv, hgb, (grownBy_keeps_cells hg hrow hh rfl).trans hh, r⟩
/-- A store into a row of another type leaves an own row as it was. -/
theorem ownC_set_row {W : World} {base z n c b : Nat} {E T : TypeId} {A : Option Addr} {F : Nat → Value} {D : Array Value} (h : OwnC W base E z A n c F) (hb : RowAt W b D T) (hne : T ≠ E) (i : Nat) (v : Value) : OwnC (W.setCell ⟨b, i, none⟩ v) base E z A n c F := by
  obtain ⟨h1, h2⟩ := h
  refine ⟨h1, ?_⟩
  rcases h2 with h2 | ⟨gg, cap, cur, hv, hgb, hh, r⟩
  · exact .inl h2
  · refine .inr ⟨gg, cap, cur, hv, hgb, (Below.heap_setCell _ _ _ _ ?_).trans hh, r⟩
    intro e
    subst e
    rw [show W.heap[gg]? = _ from hb] at hh
    injection hh with hh
    injection hh with _ h3
    exact hne h3

theorem row_grown {W W' : World} {base z k c b : Nat} {E T : TypeId} {A : Option Addr} {F : Nat → Value} {D : Array Value} (h : OwnC W base E z A k c F) (hb : RowAt W b D T) (hne : T ≠ E) (hg : W.grownBy W' (Value.slice A k c).ownBlock) : RowAt W' b D T := by
  refine (hg.block b hb.lt ?_).trans hb
  obtain ⟨_, h2⟩ := h
  rcases h2 with ⟨hv, _⟩ | ⟨gg, cap, cur, hv, _, hh, _⟩
  · injection hv with e1; subst e1; simp [Value.ownBlock]
  · injection hv with e1; subst e1
    intro e
    have e' : b = gg := by simpa [Value.ownBlock] using e
    subst e'
    rw [show W.heap[b]? = _ from hb] at hh
    injection hh with hh
    injection hh with _ h3
    exact hne h3
theorem own_cells {W : World} {base z k c : Nat} {E : TypeId} {A : Option Addr} {F : Nat → Value} (h : OwnC W base E z A k c F) (j : Nat) (o : Obj) (hj : (Value.slice A k c).ownBlock = some j) (ho : W.heap[j]? = some o) : o.isCells = true := by
  obtain ⟨_, h2⟩ := h
  rcases h2 with ⟨hv, _⟩ | ⟨gg, cap, cur, hv, _, hh, _⟩
  · injection hv with e1; subst e1; simp [Value.ownBlock] at hj
  · injection hv with e1; subst e1
    have e' : gg = j := by simpa [Value.ownBlock] using hj
    subst e'
    rw [hh] at ho
    injection ho with ho
    rw [← ho]; rfl

/-- Memory behind one instruction more. -/
theorem app_world {V w7 : World} {WS N L : Nat} {G H : Nat → IV} {v : IV} (hV : WS + 1 < V.heap.size) (hB7 : Below V.drew.heap.size V.drew w7) (qp8 : RowAt (w7.alloc (.cells #[.int .u16 v.c, .int .u8 v.t, .int .u8 v.f, .int .u32 v.k] 27)) (WS + 1) #[.slice (some ⟨WS, 0, none⟩) L N] 23)
    (qo8 : RowAt (w7.alloc (.cells #[.int .u16 v.c, .int .u8 v.t, .int .u8 v.f, .int .u32 v.k] 27)) WS (insRow N L G) 27) (hL : L < N) (hv : H L = v) (hH : ∀ j, j < L → H j = G j) :
    KeepsOthers V ((((((w7.alloc (.cells #[.int .u16 v.c, .int .u8 v.t, .int .u8 v.f, .int .u32 v.k] 27)).setCell ⟨WS, L * 4, none⟩ (.int .u16 v.c)).setCell ⟨WS, L * 4 + 1, none⟩ (.int .u8 v.t)).setCell ⟨WS, L * 4 + 2, none⟩ (.int .u8 v.f)).setCell ⟨WS, L * 4 + 3, none⟩ (.int .u32 v.k)).setCell ⟨WS + 1, 0, none⟩ (.slice (some ⟨WS, 0, none⟩) (L + 1) N)) ∧ (∀ b', b' < WS → (((((((w7.alloc (.cells #[.int .u16 v.c, .int .u8 v.t, .int .u8 v.f, .int .u32 v.k] 27)).setCell ⟨WS, L * 4, none⟩ (.int .u16 v.c)).setCell ⟨WS, L * 4 + 1, none⟩ (.int .u8 v.t)).setCell ⟨WS, L * 4 + 2, none⟩ (.int .u8 v.f)).setCell ⟨WS, L * 4 + 3, none⟩ (.int .u32 v.k)).setCell ⟨WS + 1, 0, none⟩ (.slice (some ⟨WS, 0, none⟩) (L + 1) N))).heap[b']? = V.heap[b']?) ∧ RowAt ((((((w7.alloc (.cells #[.int .u16 v.c, .int .u8 v.t, .int .u8 v.f, .int .u32 v.k] 27)).setCell ⟨WS, L * 4, none⟩ (.int .u16 v.c)).setCell ⟨WS, L * 4 + 1, none⟩ (.int .u8 v.t)).setCell ⟨WS, L * 4 + 2, none⟩ (.int .u8 v.f)).setCell ⟨WS, L * 4 + 3, none⟩ (.int .u32 v.k)).setCell ⟨WS + 1, 0, none⟩ (.slice (some ⟨WS, 0, none⟩) (L + 1) N)) (WS + 1) #[.slice (some ⟨WS, 0, none⟩) (L + 1) N] 23 ∧ RowAt ((((((w7.alloc (.cells #[.int .u16 v.c, .int .u8 v.t, .int .u8 v.f, .int .u32 v.k] 27)).setCell ⟨WS, L * 4, none⟩ (.int .u16 v.c)).setCell ⟨WS, L * 4 + 1, none⟩ (.int .u8 v.t)).setCell ⟨WS, L * 4 + 2, none⟩ (.int .u8 v.f)).setCell ⟨WS, L * 4 + 3, none⟩ (.int .u32 v.k)).setCell ⟨WS + 1, 0, none⟩ (.slice (some ⟨WS, 0, none⟩) (L + 1) N)) WS (insRow N (L + 1) H) 27 ∧ Below WS V ((((((w7.alloc (.cells #[.int .u16 v.c, .int .u8 v.t, .int .u8 v.f, .int .u32 v.k] 27)).setCell ⟨WS, L * 4, none⟩ (.int .u16 v.c)).setCell ⟨WS, L * 4 + 1, none⟩ (.int .u8 v.t)).setCell ⟨WS, L * 4 + 2, none⟩ (.int .u8 v.f)).setCell ⟨WS, L * 4 + 3, none⟩ (.int .u32 v.k)).setCell ⟨WS + 1, 0, none⟩ (.slice (some ⟨WS, 0, none⟩) (L + 1) N)) := by
  have hle : WS ≤ V.drew.heap.size := by show WS ≤ V.heap.size; omega
  have hbW : Below WS V w7 := (Below.refl WS V).drew.trans (hB7.mono hle)
  have hb8 := hbW.alloc (Nat.le_trans hle hB7.size) (.cells #[.int .u16 v.c, .int .u8 v.t, .int .u8 v.f, .int .u32 v.k] 27)
  have hb9 : Below WS V ((((((w7.alloc (.cells #[.int .u16 v.c, .int .u8 v.t, .int .u8 v.f, .int .u32 v.k] 27)).setCell ⟨WS, L * 4, none⟩ (.int .u16 v.c)).setCell ⟨WS, L * 4 + 1, none⟩ (.int .u8 v.t)).setCell ⟨WS, L * 4 + 2, none⟩ (.int .u8 v.f)).setCell ⟨WS, L * 4 + 3, none⟩ (.int .u32 v.k)).setCell ⟨WS + 1, 0, none⟩ (.slice (some ⟨WS, 0, none⟩) (L + 1) N)) := ((((hb8.setCell (p := ⟨WS, L * 4, none⟩) (Nat.le_refl _) _).setCell (p := ⟨WS, L * 4 + 1, none⟩) (Nat.le_refl _) _).setCell (p := ⟨WS, L * 4 + 2, none⟩) (Nat.le_refl _) _).setCell (p := ⟨WS, L * 4 + 3, none⟩) (Nat.le_refl _) _).setCell (p := ⟨WS + 1, 0, none⟩) (Nat.le_succ _) _
  have r1 := (((qo8.set (L * 4) (.int .u16 v.c)).set (L * 4 + 1) (.int .u8 v.t)).set (L * 4 + 2) (.int .u8 v.f)).set (L * 4 + 3) (.int .u32 v.k)
  rw [ins_step N L G H v hL hv hH] at r1
  have ne : ∀ (X : World) (i : Nat) (u : Value), (X.setCell ⟨WS, i, none⟩ u).heap[WS + 1]? = X.heap[WS + 1]? := fun X i u => Below.heap_setCell _ _ _ _ (show WS + 1 ≠ WS by omega)
  have r2 : RowAt (((((w7.alloc (.cells #[.int .u16 v.c, .int .u8 v.t, .int .u8 v.f, .int .u32 v.k] 27)).setCell ⟨WS, L * 4, none⟩ (.int .u16 v.c)).setCell ⟨WS, L * 4 + 1, none⟩ (.int .u8 v.t)).setCell ⟨WS, L * 4 + 2, none⟩ (.int .u8 v.f)).setCell ⟨WS, L * 4 + 3, none⟩ (.int .u32 v.k)) (WS + 1) #[.slice (some ⟨WS, 0, none⟩) L N] 23 :=
    (ne _ _ _).trans ((ne _ _ _).trans ((ne _ _ _).trans ((ne _ _ _).trans qp8)))
  refine ⟨((((((((KeepsOthers.drew V).trans (others_below hB7)).trans (KeepsOthers.alloc _ _)).trans (KeepsOthers.setCell _ _ _)).trans (KeepsOthers.setCell _ _ _)).trans (KeepsOthers.setCell _ _ _)).trans (KeepsOthers.setCell _ _ _)).trans (KeepsOthers.setCell _ _ _)), fun b' h => hb9.block b' h, r2.set 0 _, (Below.heap_setCell _ _ _ _ (show WS ≠ WS + 1 by omega)).trans r1, hb9⟩

set_option maxRecDepth 100000 in
set_option maxHeartbeats 8000000 in
theorem prune_ok (A : Option Addr) (n c : Nat) (g : Nat → IV) (w : World) (hr : Ins w w.heap.size A n c g) (he : (checkF g n).2 = 0) :
    Calls Try.prog 13 #[.slice A n c] w fun e w' => ∃ A' c', e = .returned (.slice A' (cnt g n n) c') ∧ OwnC w' w.heap.size 27 4 A' (cnt g n n) c' (icell (prn g n)) ∧ Below w.heap.size w w' := by
  have HF := Lib.hid (fmd_of he)
  have HOK := Lib.hid hr.2
  have HP := Lib.hid (places_ok A n c g w hr he)
  have hmk := mk_ints n HF.out.le
  clear hr he
  refine (callsIn_wide (n := 8)).1 ?_
  have hro : (Fence.wide).round = none := rfl
  refine callsIn_of_wp_marks Try.func13 rfl trivial ?_ hro
  simp only [Try.ntmps13, List.size_toArray, List.length_cons, List.length_nil, Nat.reduceAdd, Nat.reduceSub, Array.replicate_succ, Array.replicate_zero, List.push_toArray, List.append_toArray, List.nil_append, List.cons_append]
  gi_wp2_with (first
    | (refine ⟨trivial, ?_⟩; gi_at_call 40; refine (callsIn_wide.2 HP.out).mono ?_; rintro e w1 ⟨pb, rfl, hown, hB1⟩
       have hplc : Plc w1 (some ⟨pb, 0, none⟩) n g ∧ pb < w1.heap.size ∧ w.heap.size ≤ pb := by
         obtain ⟨pb', epb, hpb0, hpb1, hpc⟩ := hown.at_ HF.out.pos
         obtain rfl : pb = pb' := by injection epb with e; injection e
         exact ⟨⟨pb, 0, rfl, hpb1, fun i hi => by rw [Nat.zero_add]; exact (hpc i (by omega)).1⟩, hpb1, hpb0⟩
       have HPL := Lib.hid hplc
       have HB1 := Lib.hid hB1
       clear hplc hown hB1)
    | (refine ⟨trivial, ?_⟩; gi_at_call 43; refine (callsIn_wide.2 (seen_any _ n n g _ HPL.out.1 HF.out HOK.out)).mono ?_; rintro e w2 ⟨mb, Mx, rfl, hm1, hm2, hr1, hr2, hr3, hB2⟩))
  obtain ⟨⟨pb', off', epb, hpb1, hpc⟩, hpb2, hpb0⟩ := HPL.out
  obtain ⟨rfl, rfl⟩ : pb = pb' ∧ off' = 0 := by injection epb with e; injection e with e1 e2; exact ⟨e1, e2.symm⟩
  obtain ⟨opb, hopb⟩ : ∃ o, w1.heap[pb]? = some o := ⟨_, Array.getElem?_eq_getElem hpb2⟩
  have hw12 := hB2.size
  have hw01 := HB1.out.size
  have hbw : Below w.heap.size w (((w2.alloc (.cells (intRow n fun _ => 0) 3)).alloc (.cells #[.slice (some ⟨w2.heap.size, 0, none⟩) n n] 40)).alloc (.cells #[.int .i64 0] 3)) := (((HB1.out.trans (hB2.mono hw01)).alloc (by omega) _).alloc (by simp; omega) _).alloc (by simp; omega) _
  have k1 : RowAt (((w2.alloc (.cells (intRow n fun _ => 0) 3)).alloc (.cells #[.slice (some ⟨w2.heap.size, 0, none⟩) n n] 40)).alloc (.cells #[.int .i64 0] 3)) w2.heap.size (intRow n fun _ => 0) 3 := h_old _ _ _ _ (h_old _ _ _ _ (h_last _ _ _ rfl))
  have k2 : RowAt (((w2.alloc (.cells (intRow n fun _ => 0) 3)).alloc (.cells #[.slice (some ⟨w2.heap.size, 0, none⟩) n n] 40)).alloc (.cells #[.int .i64 0] 3)) (w2.heap.size + 1) #[.slice (some ⟨w2.heap.size, 0, none⟩) n n] 40 := h_old _ _ _ _ (h_last _ _ _ (by simp))
  have k3 : RowAt (((w2.alloc (.cells (intRow n fun _ => 0) 3)).alloc (.cells #[.slice (some ⟨w2.heap.size, 0, none⟩) n n] 40)).alloc (.cells #[.int .i64 0] 3)) (w2.heap.size + 1 + 1) #[.int .i64 0] 3 := h_last _ _ _ (by simp)
  have k4 : RowAt (((w2.alloc (.cells (intRow n fun _ => 0) 3)).alloc (.cells #[.slice (some ⟨w2.heap.size, 0, none⟩) n n] 40)).alloc (.cells #[.int .i64 0] 3)) w1.heap.size #[.slice (some ⟨pb, 0, none⟩) n n] 78 := h_old _ _ _ _ (h_old _ _ _ _ (h_old _ _ _ _ hr1))
  have k5 : RowAt (((w2.alloc (.cells (intRow n fun _ => 0) 3)).alloc (.cells #[.slice (some ⟨w2.heap.size, 0, none⟩) n n] 40)).alloc (.cells #[.int .i64 0] 3)) Mx #[.slice (some ⟨mb, 0, none⟩) n n] 22 := h_old _ _ _ _ (h_old _ _ _ _ (h_old _ _ _ _ hr2))
  have k6 : RowAt (((w2.alloc (.cells (intRow n fun _ => 0) 3)).alloc (.cells #[.slice (some ⟨w2.heap.size, 0, none⟩) n n] 40)).alloc (.cells #[.int .i64 0] 3)) mb (boolRow n (way g n)) 4 := h_old _ _ _ _ (h_old _ _ _ _ (h_old _ _ _ _ hr3))
  have k7 : ((((w2.alloc (.cells (intRow n fun _ => 0) 3)).alloc (.cells #[.slice (some ⟨w2.heap.size, 0, none⟩) n n] 40)).alloc (.cells #[.int .i64 0] 3))).heap[pb]? = some opb := h_old _ _ _ _ (h_old _ _ _ _ (h_old _ _ _ _ ((hB2.block pb hpb2).trans hopb)))
  have hMx := hr2.lt
  have hcl : ∀ W : World, W.heap[pb]? = some opb → ∀ i, i < n * 6 → W.cell? ⟨pb, 0 + i, none⟩ = some (fcell g i) := fun W hW i hi => (World.cell?_of_block (w := w1) (a := ⟨pb, 0 + i, none⟩) (hW.trans hopb.symm)).trans (hpc i hi)
  have HCL := Lib.hid hcl
  have hoc : opb.isCells = true := by
    obtain ⟨o, ho, hc⟩ := cells_of_cell (hpc 0 (by have := HF.out.pos; omega))
    have ho' : w1.heap[pb]? = some o := ho
    rw [hopb] at ho'
    injection ho' with e
    rw [e]; exact hc
  have hsz : ((((w2.alloc (.cells (intRow n fun _ => 0) 3)).alloc (.cells #[.slice (some ⟨w2.heap.size, 0, none⟩) n n] 40)).alloc (.cells #[.int .i64 0] 3))).heap.size = w2.heap.size + 3 := by simp
  generalize (((w2.alloc (.cells (intRow n fun _ => 0) 3)).alloc (.cells #[.slice (some ⟨w2.heap.size, 0, none⟩) n n] 40)).alloc (.cells #[.int .i64 0] 3)) = w3 at *
  clear hmk hpc epb hopb hcl hr1 hr2 hr3 hB2
  refine wpIn_rangeFunc_ownH hro (by decide) (gf := 73) (lb := #[.pointer (some ⟨w1.heap.size, 0, none⟩), .pointer (some ⟨Mx, 0, none⟩)]) rfl trivial (enters_of Try.func73 (by kernel_rfl) rfl)
    (seen_stops Fence.wide (8 - 1) trivial hro (by decide) g n n w1.heap.size Mx pb 0 mb HF.out.le w3 (by omega) (by omega) (by omega) (k4.cell 0 _ rfl) (HCL.out w3 k7) (k5.cell 0 _ rfl) k6) (fun h k => K4.trans h k) (K4.book (by omega) (by omega) (by omega) (by omega)) (Below.refl _ _) (fun _ => rfl)
    (fun pre W => ((RowAt W w2.heap.size (intRow n (nowP pre).1) 3 ∧ RowAt W (w2.heap.size + 1) #[.slice (some ⟨w2.heap.size, 0, none⟩) n n] 40 ∧ RowAt W (w2.heap.size + 1 + 1) #[.int .i64 ((nowP pre).2 : Nat)] 3) ∧
      (RowAt W w1.heap.size #[.slice (some ⟨pb, 0, none⟩) n n] 78 ∧ RowAt W Mx #[.slice (some ⟨mb, 0, none⟩) n n] 22 ∧ RowAt W mb (boolRow n (way g n)) 4 ∧ W.heap[pb]? = some opb)) ∧ Below w.heap.size w W)
    (fun _ _ _ => False)
    (OwnFrom.and (Own.from (fun s A B row hs hg hr => ⟨⟨row_kept hs.1.1 hg hr, row_kept hs.1.2.1 hg hr, row_kept hs.1.2.2 hg hr⟩, row_kept hs.2.1 hg hr, row_kept hs.2.2.1 hg hr, row_kept hs.2.2.2.1 hg hr, obj_kept hs.2.2.2.2 hoc hg hr⟩) _) (ownFrom_below (Nat.le_refl _) (by omega)))
    (fun _ _ _ _ _ hs _ _ => hs)
    ⟨⟨⟨k1, k2, k3⟩, k4, k5, k6, k7⟩, hbw⟩
    (fun x a' W => ∃ Px, w3.heap.size ≤ Px ∧ RowAt W Px #[.int .u16 (g x.1).c, .int .u8 (g x.1).t, .int .u8 (g x.1).f, .int .u32 (g x.1).k, .int .i64 (kd (g x.1)), .int .i64 (x.1 : Int)] 85 ∧ a' = { tmps := #[.slice A n c, undef, .slice none 0 0, .slice (some ⟨pb, 0, none⟩) n n, .func (.func 73) #[] #[.pointer (some ⟨w1.heap.size, 0, none⟩), .pointer (some ⟨Mx, 0, none⟩)], .pointer (some ⟨w2.heap.size + 1, 0, none⟩), .pointer (some ⟨w2.heap.size + 1 + 1, 0, none⟩), .pointer (some ⟨Px, 0, none⟩), undef, undef, .slice A n c, .slice (some ⟨pb, 0, none⟩) n n, .slice (some ⟨pb, 0, none⟩) n n, .func (.func 73) #[] #[.pointer (some ⟨w1.heap.size, 0, none⟩), .pointer (some ⟨Mx, 0, none⟩)], .slice (some ⟨pb, 0, none⟩) n n, .int .i64 n, .slice (some ⟨w2.heap.size, 0, none⟩) n n, .func (.func 73) #[] #[.pointer (some ⟨w1.heap.size, 0, none⟩), .pointer (some ⟨Mx, 0, none⟩)], flV (g x.1) x.1, undef, undef, undef, undef, undef, undef, undef, undef, undef, undef, undef, undef, undef, undef, undef, undef, undef, undef], defers := [] })
    (fun x a' => Own.from (fun s A B row hs hg hr => by
      obtain ⟨Px, h1, h2, h3⟩ := hs
      exact ⟨Px, h1, row_kept h2 hg hr, h3⟩) _) ?assign ?body ?done ?stop
  case assign =>
    rintro l pre x W K ⟨⟨⟨q1, q2, q3⟩, q4, q5, q6, q7⟩, hB⟩ hK
    have hWs : w3.heap.size ≤ W.heap.size := by have := q3.lt; omega
    gi_wp2
    exact hK _ _ ((KeepsOthers.alloc _ _).from _) ⟨⟨Below.heap_alloc _ _ _ (by omega), Below.heap_alloc _ _ _ (by omega)⟩, Below.heap_alloc _ _ _ (by omega), Below.heap_alloc _ _ _ (by omega)⟩ ⟨⟨⟨h_old _ _ _ _ q1, h_old _ _ _ _ q2, h_old _ _ _ _ q3⟩, h_old _ _ _ _ q4, h_old _ _ _ _ q5, h_old _ _ _ _ q6, h_old _ _ _ _ q7⟩, hB.alloc hB.size _⟩ ⟨W.heap.size, hWs, heap_alloc_last W _, rfl⟩
  case body =>
    rintro l pre x a' W hl ⟨r, hr⟩ ⟨⟨⟨q1, q2, q3⟩, q4, q5, q6, q7⟩, hB⟩ ⟨Px, hPx, hrx, rfl⟩ hlen
    have hWs : w3.heap.size ≤ W.heap.size := by have := q3.lt; omega
    have hxn := x.2.1
    have hplen := nowP_len pre
    have p5 := hrx.cell 5 _ rfl
    have c2 := q2.cell 0 _ rfl
    have c3 := q3.cell 0 _ rfl
    have z3 := q3.frozen 0
    have c1 := q1.cell x.1 _ (intRow_at n _ x.1 hxn)
    have z1 := q1.frozen x.1
    have i1 : (0 : Int) ≤ (x.1 : Int) := by omega
    have i2 : (x.1 : Int) < (n : Int) := by omega
    have hn4 := HF.out.le
    have hcl0 := cnt_le g n n
    have hw1 : IntKind.i64.wrap (((nowP pre).2 : Int) + 1) = ((nowP pre).2 : Int) + 1 := IntWalk.i64_in _ (by omega)
    have HQ := Lib.hid (And.intro q1 (And.intro q2 (And.intro q3 (And.intro q4 (And.intro q5 (And.intro q6 q7))))))
    clear q1 q2 q3 q4 q5 q6 q7 k1 k2 k3 k4 k5 k6 k7 hbw
    gi_wp2
    obtain ⟨q1, q2, q3, q4, q5, q6, q7⟩ := HQ.out
    have ne : ∀ b', b' ≠ w2.heap.size → b' ≠ w2.heap.size + 1 + 1 → ((W.setCell ⟨w2.heap.size, x.1, none⟩ (.int .i64 ((pre.length : Nat) : Int))).setCell ⟨w2.heap.size + 1 + 1, 0, none⟩ (.int .i64 ((pre.length : Int) + 1))).heap[b']? = W.heap[b']? := fun b' h1 h2 =>
      (Below.heap_setCell _ _ _ _ h2).trans (Below.heap_setCell _ _ _ _ h1)
    have s1 := q1.set x.1 (.int .i64 ((pre.length : Nat) : Int))
    rw [intRow_set] at s1
    have e1 : (nowP (pre ++ [x])).1 = fun i => if i = x.1 then pre.length else (nowP pre).1 i := by rw [nowP_snoc, nowP_len]
    have e2 : (nowP (pre ++ [x])).2 = pre.length + 1 := by rw [nowP_snoc, nowP_len]
    rw [← e1] at s1
    have s3 : RowAt ((W.setCell ⟨w2.heap.size, x.1, none⟩ (.int .i64 ((pre.length : Nat) : Int))).setCell ⟨w2.heap.size + 1 + 1, 0, none⟩ (.int .i64 ((pre.length : Int) + 1))) (w2.heap.size + 1 + 1) #[.int .i64 (((nowP (pre ++ [x])).2 : Nat) : Int)] 3 := by
      have h := (show RowAt (W.setCell ⟨w2.heap.size, x.1, none⟩ (.int .i64 ((pre.length : Nat) : Int))) (w2.heap.size + 1 + 1) _ _ from (Below.heap_setCell _ _ _ _ (show w2.heap.size + 1 + 1 ≠ w2.heap.size by omega)).trans q3).set 0 (.int .i64 ((pre.length : Int) + 1))
      rw [e2]
      exact h
    have hb' := HB1.out.size
    have hmb : mb ≠ w2.heap.size ∧ mb ≠ w2.heap.size + 1 + 1 ∧ Mx ≠ w2.heap.size ∧ Mx ≠ w2.heap.size + 1 + 1 := ⟨by omega, by omega, by omega, by omega⟩
    refine ⟨((KeepsOthers.setCell _ _ _).trans (KeepsOthers.setCell _ _ _)).from _, ⟨⟨ne _ (by omega) (by omega), ne _ (by omega) (by omega)⟩, ne _ hmb.2.2.1 hmb.2.2.2, ne _ hmb.1 hmb.2.1⟩,
      ⟨⟨⟨(Below.heap_setCell _ _ _ _ (show w2.heap.size ≠ w2.heap.size + 1 + 1 by omega)).trans s1, (ne _ (by omega) (by omega)).trans q2, s3⟩, (ne _ (by omega) (by omega)).trans q4, (ne _ hmb.2.2.1 hmb.2.2.2).trans q5, (ne _ hmb.1 hmb.2.1).trans q6, (ne _ (by omega) (by omega)).trans q7⟩,
        (hB.setCell (p := ⟨w2.heap.size, x.1, none⟩) (show w.heap.size ≤ w2.heap.size by omega) _).setCell (p := ⟨w2.heap.size + 1 + 1, 0, none⟩) (show w.heap.size ≤ w2.heap.size + 1 + 1 by omega) _⟩⟩
  case done =>
    rintro D ys W hD rfl ⟨⟨⟨q1, q2, q3⟩, q4, q5, q6, q7⟩, hB⟩ hK
    rw [nowP_all] at q1
    rw [nowP_len, rupto_length] at q3
    have c3 := q3.cell 0 _ rfl
    have hcn : cnt g n n ≤ 4096 := Nat.le_trans (cnt_le g n n) HF.out.le
    obtain ⟨W5, hmk5, hown5, hB5, hz5⟩ := mk_ins0 (cnt g n n) hcn W
    gi_wp2
    have hw6 : Below W.heap.size W (W5.alloc (.cells #[.slice (some ⟨W.heap.size, 0, none⟩) 0 (cnt g n n)] 23)) := hB5.alloc (by omega) _
    have t1 := q1.below hw6 q1.lt
    have t2 := q2.below hw6 q2.lt
    have t4 := q4.below hw6 q4.lt
    have t5 := q5.below hw6 q5.lt
    have t6 := q6.below hw6 q6.lt
    have t7 := (hw6.block pb (by have := q3.lt; omega)).trans q7
    have tD := (hw6.block D (Array.getElem?_eq_some_iff.1 hK).1).trans hK
    have tP : RowAt (W5.alloc (.cells #[.slice (some ⟨W.heap.size, 0, none⟩) 0 (cnt g n n)] 23)) (W.heap.size + 1) #[.slice (some ⟨W.heap.size, 0, none⟩) 0 (cnt g n n)] 23 := h_last _ _ _ hz5.symm
    have tO : RowAt (W5.alloc (.cells #[.slice (some ⟨W.heap.size, 0, none⟩) 0 (cnt g n n)] 23)) W.heap.size (insRow (cnt g n n) 0 (mvp ([] : List (Rch g n)))) 27 := h_old _ _ _ _ hown5
    have hDW := (Array.getElem?_eq_some_iff.1 hK).1
    have hq3 := q3.lt
    have tB := hB.trans (hw6.mono (hB.size))
    have hz6 : (W5.alloc (.cells #[.slice (some ⟨W.heap.size, 0, none⟩) 0 (cnt g n n)] 23)).heap.size = W.heap.size + 2 := by simp [hz5]
    generalize (W5.alloc (.cells #[.slice (some ⟨W.heap.size, 0, none⟩) 0 (cnt g n n)] 23)) = w6 at *
    generalize W.heap.size = WS at *
    clear q1 q2 q3 q4 q5 q6 q7 c3 hK hB hmk5 hown5 hB5 hz5 hw6 k1 k2 k3 k4 k5 k6 k7 hbw
    refine wpIn_rangeFunc_ownH hro (by decide) (gf := 73) (lb := #[.pointer (some ⟨w1.heap.size, 0, none⟩), .pointer (some ⟨Mx, 0, none⟩)]) rfl trivial (enters_of Try.func73 (by kernel_rfl) rfl)
      (seen_stops Fence.wide (8 - 1) trivial hro (by decide) g n n w1.heap.size Mx pb 0 mb HF.out.le w6 (by omega) (by omega) (by omega) (t4.cell 0 _ rfl) (HCL.out w6 t7) (t5.cell 0 _ rfl) t6) (fun h k => K4.trans h k) (K4.book (by omega) (by omega) (by omega) (by omega)) (Below.refl _ _) (fun _ => rfl)
      (fun pre V => ((RowAt V (WS + 1) #[.slice (some ⟨WS, 0, none⟩) pre.length (cnt g n n)] 23 ∧ RowAt V WS (insRow (cnt g n n) pre.length (mvp pre)) 27) ∧ (RowAt V w2.heap.size (intRow n (nowF g n)) 3 ∧ RowAt V (w2.heap.size + 1) #[.slice (some ⟨w2.heap.size, 0, none⟩) n n] 40)) ∧ (V.heap[D]? = some (.deferred (some [])) ∧ Below w.heap.size w V))
      (fun _ _ _ => False)
      (OwnFrom.and (Own.from (fun s A B row hs hg hr => by
        obtain ⟨⟨h1, h2⟩, h3, h4⟩ := hs
        exact ⟨⟨row_kept h1 hg hr, row_kept h2 hg hr⟩, row_kept h3 hg hr, row_kept h4 hg hr⟩) _) (OwnFrom.and (fun s A B row hs hg hr => (hg.block D (Array.getElem?_eq_some_iff.1 hs).1 (fun e => by have := (hr D e.symm).1; omega)).trans hs) (ownFrom_below (Nat.le_refl _) (by omega))))
      (fun _ _ _ _ _ hs _ _ => hs)
      ⟨⟨⟨tP, tO⟩, t1, t2⟩, tD, tB⟩
      (fun x a' V => ∃ Px, w6.heap.size ≤ Px ∧ RowAt V Px #[.int .u16 (g x.1).c, .int .u8 (g x.1).t, .int .u8 (g x.1).f, .int .u32 (g x.1).k, .int .i64 (kd (g x.1)), .int .i64 (x.1 : Int)] 85 ∧ a' = { tmps := #[.slice A n c, undef, .slice none 0 0, .slice (some ⟨pb, 0, none⟩) n n, .func (.func 73) #[] #[.pointer (some ⟨w1.heap.size, 0, none⟩), .pointer (some ⟨Mx, 0, none⟩)], .pointer (some ⟨w2.heap.size + 1, 0, none⟩), .pointer (some ⟨w2.heap.size + 1 + 1, 0, none⟩), undef, .pointer (some ⟨WS + 1, 0, none⟩), .pointer (some ⟨Px, 0, none⟩), .slice A n c, .slice (some ⟨pb, 0, none⟩) n n, .slice (some ⟨pb, 0, none⟩) n n, .func (.func 73) #[] #[.pointer (some ⟨w1.heap.size, 0, none⟩), .pointer (some ⟨Mx, 0, none⟩)], .slice (some ⟨pb, 0, none⟩) n n, .int .i64 n, .slice (some ⟨w2.heap.size, 0, none⟩) n n, .func (.func 73) #[] #[.pointer (some ⟨w1.heap.size, 0, none⟩), .pointer (some ⟨Mx, 0, none⟩)], undef, undef, undef, undef, undef, undef, undef, undef, .int .i64 (cnt g n n), .slice (some ⟨WS, 0, none⟩) 0 (cnt g n n), .func (.func 73) #[] #[.pointer (some ⟨w1.heap.size, 0, none⟩), .pointer (some ⟨Mx, 0, none⟩)], flV (g x.1) x.1, undef, undef, undef, undef, undef, undef, undef], defers := [] })
      (fun x a' => Own.from (fun s A B row hs hg hr => by
        obtain ⟨Px, h1, h2, h3⟩ := hs
        exact ⟨Px, h1, row_kept h2 hg hr, h3⟩) _) ?assign2 ?body2 ?done2 ?stop2
    case assign2 =>
      rintro l pre x V K ⟨⟨⟨qp, qo⟩, q1, q2⟩, qD, hB⟩ hK
      have hVs : w6.heap.size ≤ V.heap.size := by have := qp.lt; omega
      gi_wp2
      exact hK _ _ ((KeepsOthers.alloc _ _).from _) ⟨⟨Below.heap_alloc _ _ _ (by omega), Below.heap_alloc _ _ _ (by omega)⟩, Below.heap_alloc _ _ _ (by omega), Below.heap_alloc _ _ _ (by omega)⟩ ⟨⟨⟨h_old _ _ _ _ qp, h_old _ _ _ _ qo⟩, h_old _ _ _ _ q1, h_old _ _ _ _ q2⟩, h_old _ _ _ _ qD, hB.alloc hB.size _⟩ ⟨V.heap.size, hVs, heap_alloc_last V _, rfl⟩
    case body2 =>
      rintro l pre x a' V hl ⟨r, hr⟩ ⟨⟨⟨qp, qo⟩, q1, q2⟩, qD, hB⟩ ⟨Px, hPx, hrx, rfl⟩ hlen
      have hVs : w6.heap.size ≤ V.heap.size := by have := qp.lt; omega
      have hmx : Try.prog.follows .mixedOrders = true := by kernel_rfl
      obtain ⟨v, hv⟩ : ∃ v, mv g n x.1 = v := ⟨_, rfl⟩
      have hmo : ∀ Z, Z = V.drew → Calls Try.prog 44 #[flV (g x.1) x.1, .slice (some ⟨w2.heap.size, 0, none⟩) n n] Z fun e w' => e = .returned (.agg #[.int .u16 v.c, .int .u8 v.t, .int .u8 v.f, .int .u32 v.k]) ∧ Below Z.heap.size Z w' := fun Z hZ => by
        have h := moved_rch g n x.1 n w2.heap.size Z HF.out x.2.1 x.2.2 (HOK.out _ x.2.1) (by rw [hZ]; exact q1)
        rw [hv] at h
        exact h
      have HMO := Lib.hid hmo
      have HMV : Hid (mvp (pre ++ [x]) pre.length = v ∧ ∀ j, j < pre.length → mvp (pre ++ [x]) j = mvp pre j) := Lib.hid ⟨by rw [← hv]; unfold mvp; simp, fun j hj => by unfold mvp; rw [List.getElem?_append_left hj]⟩
      have HLN : Hid ((pre ++ [x]).length = pre.length + 1) := Lib.hid (by simp)
      have p0 := hrx.cell 0 _ rfl
      have p1 := hrx.cell 1 _ rfl
      have p2 := hrx.cell 2 _ rfl
      have p3 := hrx.cell 3 _ rfl
      have p4 := hrx.cell 4 _ rfl
      have p5 := hrx.cell 5 _ rfl
      have c8 := qp.cell 0 _ rfl
      have c5n := q2.cell 0 _ rfl
      have HQ := Lib.hid (And.intro qp (And.intro qo (And.intro q1 (And.intro q2 (And.intro qD hB)))))
      have hn4 := HF.out.le
      have HVS := Lib.hid hVs
      have hlt1 : pre.length + 1 ≤ cnt g n n := by omega
      clear hmo hv q1 q2 qD hB hr
      gi_wp2
      gi_region_with_o (first
        | (refine ⟨trivial, ?_⟩
           gi_at_call 44
           refine (CallsIn.inRound l (callsIn_wide.2 (HMO.out _ rfl))).mono ?_
           rintro e w7 ⟨rfl, hB7⟩
           have HB7 := Lib.hid hB7
           have qp7 := (show RowAt V.drew (WS + 1) _ _ from qp).below hB7 qp.lt
           have qo7 := (show RowAt V.drew WS _ _ from qo).below hB7 qo.lt
           have c87 := qp7.cell 0 _ rfl
           have qp8 : RowAt (w7.alloc (.cells #[.int .u16 v.c, .int .u8 v.t, .int .u8 v.f, .int .u32 v.k] 27)) (WS + 1) #[.slice (some ⟨WS, 0, none⟩) pre.length (cnt g n n)] 23 := h_old _ _ _ _ qp7
           have qo8 : RowAt (w7.alloc (.cells #[.int .u16 v.c, .int .u8 v.t, .int .u8 v.f, .int .u32 v.k] 27)) WS (insRow (cnt g n n) pre.length (mvp pre)) 27 := h_old _ _ _ _ qo7
           have c88 := qp8.cell 0 _ rfl
           have f88 := qp8.frozen 0
           have d0 := qo8.cell (pre.length * 4) _ (ins_get _ _ _ _ (by omega))
           have d1 := qo8.cell (pre.length * 4 + 1) _ (ins_get _ _ _ _ (by omega))
           have d2 := qo8.cell (pre.length * 4 + 2) _ (ins_get _ _ _ _ (by omega))
           have d3 := qo8.cell (pre.length * 4 + 3) _ (ins_get _ _ _ _ (by omega))
           have y0 := qo8.frozen (pre.length * 4)
           have y1 := qo8.frozen (pre.length * 4 + 1)
           have y2 := qo8.frozen (pre.length * 4 + 2)
           have y3 := qo8.frozen (pre.length * 4 + 3)
           have HW8 := Lib.hid (And.intro hB7 (And.intro qp8 qo8))
           clear hB7 qp7 qo7 qp8 qo8)
        | fail)
      all_goals
        gi_wp2
        obtain ⟨hB7, qp8, qo8⟩ := HW8.out
        obtain ⟨qp, qo, q1, q2, qD, hB⟩ := HQ.out
        obtain ⟨z1, z2, z3, z4, z5⟩ := app_world (H := mvp (pre ++ [x])) qp.lt hB7 qp8 qo8 (by omega) HMV.out.1 HMV.out.2
        refine ⟨z1.from _, ⟨⟨z2 _ (by omega), z2 _ (by omega)⟩, z2 _ (by omega), z2 _ (by omega)⟩, ⟨⟨⟨by rw [HLN.out]; exact z3, by rw [HLN.out]; exact z4⟩, (z2 _ (by omega)).trans q1, (z2 _ (by omega)).trans q2⟩, (z2 _ (by omega)).trans qD, hB.trans (z5.mono (by omega))⟩⟩
    case done2 =>
      rintro D2 ys V hD2 rfl ⟨⟨⟨qp, qo⟩, q1, q2⟩, qD, hB⟩ hK
      rw [rupto_length] at qp qo
      rw [mvp_all] at qo
      have c8 := qp.cell 0 _ rfl
      gi_wp2
      have hne : D ≠ D2 := by omega
      have hD1 : (V.putObj D2 (.deferred none)).heap[D]? = some (.deferred (some [])) := (World.putObj_heap_other hne).trans qD
      refine ⟨by simp, .inl ⟨_, _, rfl, run_takeDeferred hK, ⟨by simp, .inl ⟨_, _, rfl, run_takeDeferred hD1, ?_⟩⟩⟩⟩
      have o1 := ownC_kept (ins_own qo (Nat.le_trans (cnt_le g n n) HF.out.le)) (grownBy_putObj' _ D2 (.deferred none)) (fun r e => by cases e; exact ⟨_, hK, rfl⟩)
      have o2 := ownC_kept o1 (grownBy_putObj' _ D (.deferred none)) (fun r e => by cases e; exact ⟨_, hD1, rfl⟩)
      exact ⟨_, results_tmp rfl _ _ _, _, _, rfl, o2.lower (by omega), (hB.trans (belowK_b (w := w) (Nat.le_refl _) V D2 _ _ (by omega) hK rfl rfl)).trans (belowK_b (w := w) (Nat.le_refl _) _ D _ _ (by omega) hD1 rfl rfl)⟩
    case stop2 =>
      rintro D2 c pre V _ _ h _
      exact h.elim
  case stop =>
    rintro D c pre W _ _ h _
    exact h.elim
end Go.Proofs.Ytjblkkffdhaiiab
