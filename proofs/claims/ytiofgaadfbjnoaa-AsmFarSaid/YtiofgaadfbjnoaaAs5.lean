/-
  Layer 21: asm.reached: the items that some way leads to.
-/
import Derived.Test.YtiofgaadfbjnoaaAs4
namespace Go.Proofs.Ytiofgaadfbjnoaa
open Go.RowKit Go.Shelf
set_option linter.unusedVariables false

/-- No block but b has turned. -/
def ButN (b : Nat) (w w' : World) : Prop := Below b w w' ∧ ∀ g, g < w.heap.size → g ≠ b → w'.heap[g]? = w.heap[g]?
theorem ButN.refl (b : Nat) (w : World) : ButN b w w := ⟨Below.refl _ _, fun _ _ _ => rfl⟩
theorem ButN.trans {b : Nat} {w w' w'' : World} (h : ButN b w w') (h' : ButN b w' w'') : ButN b w w'' := ⟨h.1.trans h'.1, fun g hg hn => (h'.2 g (Nat.lt_of_lt_of_le hg h.1.size) hn).trans (h.2 g hg hn)⟩
theorem ButN.of_grown {b : Nat} {w w' : World} (h : w.grownBy w' (some b)) (hb : b < w.heap.size) : ButN b w w' :=
  ⟨(Below.refl _ _).grown h (by omega) (fun j hj => by injection hj with hj; omega), fun g hg hn => h.block g hg (fun e => hn (by injection e))⟩
theorem ButN.of_below {b B : Nat} {w w' : World} (h : Below B w w') (hb : b < B) (hB : w.heap.size ≤ B) : ButN b w w' := ⟨h.mono (by omega), fun g hg _ => h.block g (by omega)⟩
theorem ButN.row {b X : Nat} {w w' : World} {cs : Array Value} {T : TypeId} (h : ButN b w w') (hx : RowC w X cs T) (hn : X ≠ b) : RowC w' X cs T := (h.2 X hx.lt hn).trans hx
theorem ButN.cell {b : Nat} {w w' : World} (h : ButN b w w') {p : Addr} (h1 : p.block < w.heap.size) (h2 : p.block ≠ b) : w'.cell? p = w.cell? p := World.cell?_of_block (h.2 _ h1 h2)
theorem ButN.own {b base z n c : Nat} {w w' : World} {E : TypeId} {A : Option Addr} {F : Nat → Value} (h : ButN b w w') (hb : b < base) (ho : OwnC w base E z A n c F) : OwnC w' base E z A n c F := by
  obtain ⟨q1, q2⟩ := ho
  refine ⟨q1, ?_⟩
  rcases q2 with q2 | ⟨g, cap, cs, e, hg, hr, rest⟩
  · exact .inl q2
  · exact .inr ⟨g, cap, cs, e, hg, (h.2 g (Array.getElem?_eq_some_iff.1 hr).1 (by omega)).trans hr, rest⟩
theorem infoSt : (Try.prog.info? 84).map (fun i => (i.zero, i.size, i.bytes)) = some (some (.agg #[.int .i64 0, .int .u16 0, .int .u32 0, .int .i64 0, .int .i64 0, .int .i64 0]), 6, 40) := by kernel_rfl
theorem take_snoc (l : List IT) (k : Nat) (h : k < l.length) : l.take (k + 1) = l.take k ++ [l[k]!] := by
  rw [List.take_add_one, List.getElem?_eq_getElem h, getElem!_pos l k h]
  rfl
theorem snoc_get (R : List IT) (x : IT) : (fun i => (R ++ [x])[i]!) R.length = x := by
  simp
theorem stcell_snoc (R : List IT) (x : IT) : ∀ i, i < (R.length + 1) * 6 → catC (R.length * 6) (stcell fun i => R[i]!) (stcell fun _ => x) i = stcell (fun i => (R ++ [x])[i]!) i := fun i hi => by
  rw [← stcell_cat (fun i => (R ++ [x])[i]!) R.length x (snoc_get R x) i hi]
  unfold catC
  split
  · unfold stcell
    simp only
    rw [getElem!_pos R (i / 6) (by omega), getElem!_pos (R ++ [x]) (i / 6) (by simp; omega), List.getElem_append_left (by omega)]
  · rfl
/-- An append, with what of memory has grown. -/
theorem app_cellsG {P : Program} (w : World) {ops : Array Oper} {rest : List Oper} {o : Oper} {a : Act} {Q : Exit → Act → World → Prop} (hgd : o.guard = none) (s x : Operand) (t E : TypeId)
    (ho : o.op = .call { callee := .builtin .append, args := #[s, x], argTypes := #[t, t] })
    (ht : P.underlying t = some (.slice E)) {zv : Value} {z by_ : Nat} (hinfo : (P.info? E).map (fun i => (i.zero, i.size, i.bytes)) = some (some zv, z, by_)) (hzs : zv.cells.size = z) (hz : 0 < z)
    {base n c m d : Nat} {A C : Option Addr} {F G : Nat → Value} (hs : a.eval s = .slice A n c) (hown : OwnC w base E z A n c F) (hx : a.eval x = .slice C m d) {B : Nat} (hr : Cel w B z C m d G) (h1c : ∀ i, i < m * z → (G i).oneCell' = true)
    (hn : n + m ≤ maxLen) (hby : (n + m) * by_ ≤ 140737488355328) (hbase : base ≤ w.heap.size) (N : Nat) (hN : n + m = N) (H : Nat → Value) (hH : ∀ i, i < N * z → catC (n * z) F G i = H i)
    (h : ∀ A' c' w', OwnC w' base E z A' N c' H → w.grownBy w' (Value.slice A n c).ownBlock → Below base w w' → wpList P ops Q rest (a.put o.dst (.slice A' N c')) w') : wpList P ops Q (o :: rest) a w := by
  subst hN
  exact wpList_plain hgd fun _ hK => wp_cells w s x t E ho ht hinfo hzs hz hs hown hx hr h1c hn hby hbase fun A' c' w' h1 h2 h3 => hK _ _ (h A' c' w' (h1.congr hH) h2 h3)
theorem wpList_drop {P : Program} {w w' : World} {ops : Array Oper} {rest : List Oper} {o : Oper} {a : Act} {Q : Exit → Act → World → Prop} (hg : o.guard = none) (m x : Operand) (T I : TypeId) (hop : o.op = Op.call { callee := Callee.builtin Builtin.delete, args := #[m, x], argTypes := #[T, I] })
    (hrun : (Builtin.delete_ #[T, I] o.type #[a.eval m, a.eval x]).run P w = .ok (.tuple #[]) w') (hK : wpList P ops Q rest (a.put o.dst (.tuple #[])) w') : wpList P ops Q (o :: rest) a w := by
  refine wpList_plain hg fun K' hK' => ?_
  unfold Oper.wp
  simp [execOp, hop, resolve, invoke, builtin, hrun, Result.andThen]
  exact hK' _ _ hK
theorem own_row_lt {w : World} {base z n c g : Nat} {E : TypeId} {A : Option Addr} {F : Nat → Value} (h : OwnC w base E z A n c F) (hg : (Value.slice A n c).ownBlock = some g) : g < w.heap.size := (World.ownsRow.lt h g hg).2
theorem rowc_grownB {w w' : World} {row : Option Nat} {b : Nat} {cs : Array Value} {T : TypeId} (hg : w.grownBy w' row) (h : RowC w b cs T) (hne : some b ≠ row) : RowC w' b cs T := (hg.block b h.lt hne).trans h
def addS (S : Int → Bool) (L : List Int) (q : Nat) : Int → Bool := fun k => (decide (k ≠ 0) && S k) || (L.take q).contains k
theorem addS_zero (S : Int → Bool) (L : List Int) (k : Int) : (decide (k ≠ 0) && S k) = addS S L 0 k := by simp [addS]
theorem addS_succ (S : Int → Bool) (L : List Int) (q : Nat) (h : q < L.length) (k : Int) : (addS S L q k || decide (k = L.getD q 0)) = addS S L (q + 1) k := by
  unfold addS
  rw [List.take_add_one, List.getElem?_eq_getElem h, List.getD_eq_getElem?_getD, List.getElem?_eq_getElem h]
  simp only [Option.toList_some, Option.getD_some, List.contains_eq_mem, List.mem_append, List.mem_singleton, Bool.or_assoc]
  by_cases h1 : k ∈ List.take q L <;> by_cases h2 : k = L[q] <;> simp [h1, h2]
theorem addS_all (S : Int → Bool) (x : IT) (k : Int) : addS S (leadsI x) (leadsI x).length k = ledS S x k := by
  unfold addS ledS
  rw [List.take_of_length_le (Nat.le_refl _)]
theorem leadsI_len (x : IT) : (leadsI x).length ≤ 2 := by
  unfold leadsI
  repeat' split
  all_goals simp
theorem leadsI_wf (x : IT) (h : x.ok) : ∀ k ∈ leadsI x, (Lit.int .i64 k).wf = true := fun k hk => by
  obtain ⟨_, _, _, h4, h5⟩ := h
  unfold leadsI at hk
  split at hk
  · cases hk
  · split at hk
    · rw [List.mem_singleton] at hk; subst hk; exact h4
    · split at hk
      · simp only [List.mem_cons, List.not_mem_nil, or_false] at hk
        rcases hk with rfl | rfl
        · exact h4
        · exact h5
      · rw [List.mem_singleton] at hk; subst hk; decide
set_option maxRecDepth 100000 in
set_option maxHeartbeats 8000000 in
theorem reached_any (A : Option Addr) (n c : Nat) (l : List IT) (w : World) (hn : l.length = n) (hn1 : n ≤ 1000000) (hr : Cel w w.heap.size 5 A n c (itcell fun i => l[i]!)) (hok : ∀ x ∈ l, x.ok) :
    Calls Try.prog 33 #[.slice A n c] w fun e w' => ∃ A' c', e = .returned (.slice A' (rchI l).length c') ∧ OwnC w' w.heap.size 84 6 A' (rchI l).length c' (stcell fun i => (rchI l)[i]!) ∧ Below w.heap.size w w' := by
  have hmm := @run_makeMap Try.prog
  obtain ⟨B, hBs⟩ : ∃ B, w.heap.size = B := ⟨_, rfl⟩
  obtain ⟨w1, hrun, hS1, hg1⟩ := (SetI.new w).put (k := 0) (by decide) (by decide)
  have hB0 : Below B w (w.alloc (.map #[] 0)) := by rw [← hBs]; exact (Below.refl _ _).alloc (Nat.le_refl _) _
  have hs0 : (w.alloc (.map #[] 0)).heap.size = B + 1 := by simp [hBs]
  have HI1 := Lib.hid (show SetI w1 B 1 (fun k => decide (k = 0)) ∧ Below B w w1 ∧ B + 1 ≤ w1.heap.size by
    rw [hBs] at hS1 hg1
    exact ⟨hS1.congr fun k => by simp, hB0.trans ((Below.refl _ _).grown hg1 (by omega) (fun j hj => by injection hj with hj; omega)), by have := hg1.size; omega⟩)
  rw [hBs] at hrun
  have HBS := Lib.hid hBs
  have HR := Lib.hid hr
  have HOK := Lib.hid hok
  have HN := Lib.hid hn
  clear hr hok hn hS1 hg1 hB0 hs0
  go_enter Try.func33, Try.ntmps33
  go_upto_region 3 with fail
  clear hBs hrun
  go_wp2
  go_loopw [3, 22] (fun sv i wr => ∃ (k : Nat) (A' : Option Addr) (c' : Nat), k ≤ n ∧ i = .int .i64 k ∧ sv = .slice A' (rSt (l.take k)).2.length c' ∧ Hid (SetI wr B (2 * k + 1) (rSt (l.take k)).1 ∧ OwnC wr (B + 1) 84 6 A' (rSt (l.take k)).2.length c' (stcell fun i => (rSt (l.take k)).2[i]!) ∧ Below B w wr ∧ B + 1 ≤ wr.heap.size))
    (fun _ i _ => n - (intOf i).toNat)
  case atStart => exact ⟨0, none, 0, Nat.zero_le _, rfl, rfl, Lib.hid ⟨HI1.out.1, OwnC.nil_, HI1.out.2.1, HI1.out.2.2⟩⟩
  case round =>
    obtain ⟨k, A', c', hk, rfl, rfl, HI⟩ := hrel
    by_cases hlt : k < n
    · have hkl : k < l.length := by rw [HN.out]; exact hlt
      obtain ⟨x, hx⟩ : ∃ x, l[k]! = x := ⟨_, rfl⟩
      have hxo : x.ok := HOK.out x (by rw [← hx, getElem!_pos l k hkl]; exact List.getElem_mem _)
      have hst := rSt_snoc (l.take k) x
      rw [← hx, ← take_snoc l k hkl, hx] at hst
      have hml := rSt_len (l.take k)
      rw [List.length_take] at hml
      obtain ⟨⟨S, R⟩, hSR⟩ : ∃ st, rSt (l.take k) = st := ⟨_, rfl⟩
      rw [hSR] at hst HI hml ⊢
      simp only at HI hml ⊢
      have HST := Lib.hid hst
      obtain ⟨m, hm⟩ : ∃ m, R.length = m := ⟨_, rfl⟩
      rw [hm] at HI hml ⊢
      have HM := Lib.hid hm
      obtain ⟨b, off, rfl, hb, q0, q1, q2, q3, q4⟩ := it_at (HR.out.below (by rw [HBS.out]; exact HI.out.2.2.1)) hlt hx
      have HXO := Lib.hid hxo
      have i1 : (0 : Int) ≤ (k : Int) := by omega
      have i2 : (k : Int) < (n : Int) := by omega
      obtain ⟨W2, hW2⟩ : ∃ W, wr.alloc (.cells #[.int .i64 x.m, .int .u16 x.c, .int .u32 x.k, .int .i64 x.t, .int .i64 x.f] 27) = W := ⟨_, rfl⟩
      obtain ⟨E, hE⟩ : ∃ E, wr.heap.size = E := ⟨_, rfl⟩
      have hE2 : B + 1 ≤ E := by rw [← hE]; exact HI.out.2.2.2
      have hb2 : Below E wr W2 := by rw [← hW2, ← hE]; exact (Below.refl _ _).alloc (Nat.le_refl _) _
      have hr2 : RowC W2 E #[.int .i64 x.m, .int .u16 x.c, .int .u32 x.k, .int .i64 x.t, .int .i64 x.f] 27 := by rw [← hW2, ← hE]; exact RowC.new _ _ _ _ rfl
      have hs2 : W2.heap.size = E + 1 := by rw [← hW2, ← hE]; simp
      have HFX : Hid (∀ W, Below (E + 1) W2 W → SetI W B (2 * k + 1) S ∧ OwnC W (B + 1) 84 6 A' m c' (stcell fun i => R[i]!) ∧ Below B w W ∧ E + 1 ≤ W.heap.size ∧ RowC W E #[.int .i64 x.m, .int .u16 x.c, .int .u32 x.k, .int .i64 x.t, .int .i64 x.f] 27) := Lib.hid fun W hW => by
        have hbW : Below E wr W := hb2.trans (hW.mono (by omega))
        exact ⟨HI.out.1.below hbW (by omega), HI.out.2.1.below hbW (by omega), HI.out.2.2.1.trans (hbW.mono (by omega)), by have := hW.size; omega, hr2.below hW (by omega)⟩
      have HW2 := Lib.hid hW2
      have HS2 := Lib.hid hs2
      have HE := Lib.hid hE2
      clear hst hSR hm hxo hx hW2 hb2 hr2 hs2 hE2
      go_upto_region 6 with fail
      (try rw [hE])
      (try rw [HW2.out])
      clear hE q0 q1 q2 q3 q4
      have hl0 := (HFX.out W2 (Below.refl _ _)).1.look (k := 0) (by decide)
      obtain ⟨b0, hb0⟩ : ∃ z, S 0 = z := ⟨_, rfl⟩
      rw [hb0] at hl0
      have HB0 := Lib.hid hb0
      clear hb0
      have h3 : ∀ W, Below (E + 1) W2 W → ∀ o : Obj, Below (E + 1) W2 (W.alloc o) := fun W hW o => hW.alloc (by have := hW.size; have := HS2.out; omega) o
      obtain ⟨W3, hW3⟩ : ∃ W, W2.alloc (.cells #[] 106) = W := ⟨_, rfl⟩
      have hB3 : Below (E + 1) W2 W3 := by rw [← hW3]; exact h3 _ (Below.refl _ _) _
      have HW3 := Lib.hid hW3
      have HB3 := Lib.hid hB3
      have H3 := Lib.hid h3
      have hlm := (HFX.out W3 hB3).1.look (k := x.m) HXO.out.2.2.1
      obtain ⟨bm, hbm⟩ : ∃ z, S x.m = z := ⟨_, rfl⟩
      rw [hbm] at hlm
      have HBM := Lib.hid hbm
      have p0 := (HFX.out W3 hB3).2.2.2.2.cell 0 _ rfl
      clear hbm hW3 hB3 h3
      go_upto_region 7 with fail
      rw [HW3.out]
      go_upto_region 8 with fail
      obtain ⟨W4, hW4⟩ : ∃ W, W3.alloc (.cells #[] 106) = W := ⟨_, rfl⟩
      have hB4 : Below (E + 1) W2 W4 := by rw [← hW4]; exact H3.out _ HB3.out _
      (try rw [hW4])
      have HB4 := Lib.hid hB4
      clear hW4 hB4 hl0 hlm p0 HB3 HW3
      by_cases hgo : (b0 || bm) = false
      · obtain ⟨rfl, rfl⟩ : b0 = false ∧ bm = false := by simpa using hgo
        have HE1 : Hid (rSt (l.take (k + 1)) = (S, R)) := Lib.hid (by
          rw [HST.out]
          unfold rStep
          simp only
          rw [HB0.out, HBM.out]
          rfl)
        have hf := HFX.out W4 HB4.out
        have HF4 := Lib.hid hf
        clear hf hgo
        go_wp2
        refine ⟨⟨k + 1, A', c', by omega, by go_num, ?_, ?_⟩, by simp [intOf]; omega⟩
        · rw [HE1.out]
          simp only
          rw [HM.out]
        · rw [HE1.out]
          simp only
          rw [HM.out]
          exact Lib.hid ⟨HF4.out.1.mono (by omega), HF4.out.2.1, HF4.out.2.2.1, by have := HF4.out.2.2.2.1; have := HE.out; omega⟩
      · have HE1 : Hid (rSt (l.take (k + 1)) = (ledS S x, R ++ [x])) := Lib.hid (by
          rw [HST.out]
          unfold rStep
          simp only
          rw [HB0.out, HBM.out, if_pos (by cases b0 <;> cases bm <;> simp_all)])
        obtain ⟨K, hK⟩ : ∃ K, ik x = K := ⟨_, rfl⟩
        have hOf : Calls Try.prog 28 #[.int .u16 (x.c : Int)] W4 fun e w' => (∃ b1 b2, e = .returned (.tuple #[.int .i64 K, .bool b1, .bool b2])) ∧ Below W4.heap.size W4 w' := by
          refine (of_any (x.c : Int) W4 (by omega) (by have := HXO.out.1; omega)).mono ?_
          rintro e w' ⟨rfl, hb'⟩
          exact ⟨⟨_, _, by rw [← hK]; rfl⟩, hb'⟩
        have HOF := Lib.hid hOf
        have HK := Lib.hid hK
        have p1 := (HFX.out W4 HB4.out).2.2.2.2.cell 1 _ rfl
        have hcases : b0 = true ∨ (b0 = false ∧ bm = true) := by cases b0 <;> cases bm <;> simp_all
        clear hOf hK hgo
        go_cut [43] from 38 to 42 (fun s wx => s = .bool false ∧ wx = W4)
        case first =>
          rcases hcases with rfl | ⟨rfl, rfl⟩
          all_goals go_wp2_with fail
          all_goals go_meet
          all_goals exact ⟨rfl, rfl⟩
        case rest =>
          obtain ⟨rfl, hwc⟩ := hcut
          obtain rfl : W4 = wc := hwc.symm
          go_wp2_with fail
          refine HOF.out.mono ?_
          rintro e W5 ⟨⟨b1, b2, rfl⟩, hB5⟩
          have HB5 := Lib.hid (HB4.out.trans (hB5.mono (HFX.out _ HB4.out).2.2.2.1))
          have r5 := (HFX.out W5 HB5.out).2.2.2.2
          have u0 := r5.cell 0 _ rfl
          have u1 := r5.cell 1 _ rfl
          have u2 := r5.cell 2 _ rfl
          have u3 := r5.cell 3 _ rfl
          have u4 := r5.cell 4 _ rfl
          obtain ⟨G, hG⟩ : ∃ G, W5.heap.size = G := ⟨_, rfl⟩
          obtain ⟨W6, hW6⟩ : ∃ W, W5.alloc (.cells #[.int .i64 x.m, .int .u16 x.c, .int .u32 x.k, .int .i64 x.t, .int .i64 x.f, .int .i64 K] 84) = W := ⟨_, rfl⟩
          have hEG : E + 1 ≤ G := by rw [← hG]; exact (HFX.out W5 HB5.out).2.2.2.1
          have hr6 : RowC W6 G #[.int .i64 x.m, .int .u16 x.c, .int .u32 x.k, .int .i64 x.t, .int .i64 x.f, .int .i64 K] 84 := by rw [← hW6, ← hG]; exact RowC.new _ _ _ _ rfl
          have hB6 : Below (E + 1) W2 W6 := by rw [← hW6]; exact H3.out _ HB5.out _
          have hs6 : W6.heap.size = G + 1 := by rw [← hW6, ← hG]; simp
          have HW6 := Lib.hid hW6
          have HR6 := Lib.hid hr6
          have HB6 := Lib.hid hB6
          have HS6 := Lib.hid hs6
          have HEG := Lib.hid hEG
          clear hW6 hr6 hB6 hs6 r5 hB5 p1
          go_upto_region 11 with fail
          (try rw [hG])
          rw [HW6.out]
          clear hG u0 u1 u2 u3 u4
          have v0 := HR6.out.cell 0 _ rfl
          have v1 := HR6.out.cell 1 _ rfl
          have v2 := HR6.out.cell 2 _ rfl
          have v3 := HR6.out.cell 3 _ rfl
          have v4 := HR6.out.cell 4 _ rfl
          have v5 := HR6.out.cell 5 _ rfl
          have HONE : Hid (Cel (W6.alloc (.cells #[.int .i64 x.m, .int .u16 x.c, .int .u32 x.k, .int .i64 x.t, .int .i64 x.f, .int .i64 K] 84)) (W6.heap.size + 1) 6 (some ⟨W6.heap.size, 0, none⟩) 1 1 (stcell fun _ => x)) := Lib.hid (by
            have h := one_step W6 x 84
            rw [HK.out] at h
            exact h)
          have HCAT : Hid (∀ i, i < (m + 1) * 6 → catC (m * 6) (stcell fun i => R[i]!) (stcell fun _ => x) i = stcell (fun i => (R ++ [x])[i]!) i) := Lib.hid (by
            have h := stcell_snoc R x
            rw [HM.out] at h
            exact h)
          have HF6 := Lib.hid (HFX.out W6 HB6.out)
          have HNE : Hid (∀ g, (Value.slice A' m c').ownBlock = some g → g < G) := Lib.hid fun g hg => by
            have h1 : OwnC W5 (B + 1) 84 6 A' m c' (stcell fun i => R[i]!) := (HFX.out W5 HB5.out).2.1
            have h2 := own_row_lt h1 hg
            have h3 := HS6.out
            have h4 : W6.heap.size = W5.heap.size + 1 := by rw [← HW6.out]; simp
            omega
          go_upto_region 12 with (first
            | (at_builtin
               refine app_cellsG (zv := .agg #[.int .i64 0, .int .u16 0, .int .u32 0, .int .i64 0, .int .i64 0, .int .i64 0]) (z := 6) (by_ := 40) _ rfl _ _ 82 84 rfl Try.underlying82 infoSt rfl (by omega) (base := B + 1) rfl (HF6.out.2.1.alloc _) rfl HONE.out (fun i _ => stcell_one _ i) (by unfold maxLen; omega) (by omega) (by have := HF6.out.2.2.2.1; have := HE.out; simp; omega) (m + 1) rfl (stcell fun i => (R ++ [x])[i]!) HCAT.out ?_
               intro A7 c7 W7 hown7 hg7 hB7
               have hsE : B + 1 ≤ W6.heap.size := by have := HF6.out.2.2.2.1; have := HE.out; omega
               have hB67 : Below (B + 1) W6 W7 := ((Below.refl _ W6).alloc hsE _).trans hB7
               have hr7 : RowC W7 G #[.int .i64 x.m, .int .u16 x.c, .int .u32 x.k, .int .i64 x.t, .int .i64 x.f, .int .i64 K] 84 := rowc_grownB hg7 (HR6.out.below ((Below.refl W6.heap.size W6).alloc (Nat.le_refl _) _) HR6.out.lt) (fun e => by have := HNE.out G e.symm; omega)
               have HF7 := Lib.hid (And.intro hown7 (And.intro (HF6.out.1.below hB67 (Nat.lt_succ_self _)) (And.intro (HF6.out.2.2.1.trans (hB67.mono (Nat.le_succ _))) (And.intro (Nat.le_trans hsE hB67.size) hr7))))
               clear hown7 hg7 hB7 hsE hB67 hr7 v0 v1 v2 v3 v4 v5))
          obtain ⟨W8, hrun8, hS8, hg8⟩ := HF7.out.2.1.drop (k := 0) (by decide) 0
          have hbn8 := ButN.of_grown hg8 HF7.out.2.1.lt
          have HF8 := Lib.hid (And.intro (hbn8.own (Nat.lt_succ_self B) HF7.out.1) (And.intro hS8 (And.intro (HF7.out.2.2.1.trans hbn8.1) (And.intro (Nat.le_trans HF7.out.2.2.2.1 hbn8.1.size) (hbn8.row HF7.out.2.2.2.2 (by have := HE.out; have := HEG.out; omega))))))
          clear hS8 hg8 hbn8
          have HRUN8 := Lib.hid hrun8
          clear hrun8
          have KL : Hid (Calls Try.prog 48 #[.agg #[.int .i64 x.m, .int .u16 x.c, .int .u32 x.k, .int .i64 x.t, .int .i64 x.f, .int .i64 K]] W8 fun e w' => ∃ A n c, e = .returned (.slice A n c) ∧ n = (leadsI x).length ∧ Cel w' w'.heap.size 1 A n c (icl (leadsI x)) ∧ (∀ ad, A = some ad → W8.heap.size ≤ ad.block) ∧ Below W8.heap.size W8 w') := Lib.hid (by
            have h := stLeads_any x W8
            unfold stA at h
            rw [HK.out] at h
            exact h)
          have v0 := HF8.out.2.2.2.2.cell 0 _ rfl
          have v1 := HF8.out.2.2.2.2.cell 1 _ rfl
          have v2 := HF8.out.2.2.2.2.cell 2 _ rfl
          have v3 := HF8.out.2.2.2.2.cell 3 _ rfl
          have v4 := HF8.out.2.2.2.2.cell 4 _ rfl
          have v5 := HF8.out.2.2.2.2.cell 5 _ rfl
          go_wp2_with (first
            | (at_delete; refine wpList_drop rfl _ _ 107 3 rfl (by exact HRUN8.out) ?_)
            | fail)
          refine KL.out.mono ?_
          rintro e W9 ⟨lA, ln, lc, rfl, hln, hcel, hge, hB9⟩
          have hbn9 : ButN B W8 W9 := ButN.of_below hB9 HF8.out.2.1.lt (Nat.le_refl _)
          have HF9 : Hid (OwnC W9 (B + 1) 84 6 A7 (m + 1) c7 (stcell fun i => (R ++ [x])[i]!) ∧ SetI W9 B (2 * k + 1) (addS S (leadsI x) 0) ∧ Below B w W9 ∧ B + 1 ≤ W9.heap.size) :=
            Lib.hid ⟨hbn9.own (Nat.lt_succ_self B) HF8.out.1, (HF8.out.2.1.below hB9 HF8.out.2.1.lt).congr (addS_zero S (leadsI x)), HF8.out.2.2.1.trans hbn9.1, Nat.le_trans HF8.out.2.2.2.1 hB9.size⟩
          have HLN := Lib.hid hln
          have hl2 : ln ≤ 2 := by rw [hln]; exact leadsI_len x
          have HLD : Hid (∀ q, q < ln → ∃ lb lo, lA = some ⟨lb, lo, none⟩ ∧ lb < W9.heap.size ∧ lb ≠ B ∧ W9.cell? ⟨lb, lo + q, none⟩ = some (.int .i64 ((leadsI x).getD q 0)) ∧ (Lit.int .i64 ((leadsI x).getD q 0)).wf = true) := Lib.hid fun q hq => by
            obtain ⟨lb, lo, he, hlb, hc⟩ := hcel.at_ (by omega)
            have h1 := hge _ he
            have h2 := HF8.out.2.1.lt
            have h3 := hc q (by omega)
            unfold icl at h3
            refine ⟨lb, lo, he, hlb, by show lb ≠ B; have h4 : W8.heap.size ≤ lb := h1; omega, h3, ?_⟩
            refine leadsI_wf x HXO.out _ ?_
            rw [List.getD_eq_getElem?_getD, List.getElem?_eq_getElem (by omega)]
            exact List.getElem_mem _
          clear hln hcel hge hB9 hbn9 v0 v1 v2 v3 v4 v5
          obtain ⟨wo, hwo⟩ : ∃ z, z = W9 := ⟨_, rfl⟩
          go_wp2
          go_loopw [62] (fun i wy => ∃ q : Nat, q ≤ ln ∧ i = .int .i64 q ∧ Hid (SetI wy B (2 * k + 1 + q) (addS S (leadsI x) q) ∧ ButN B W9 wy))
            (fun i _ => ln - (intOf i).toNat)
          case atStart => exact ⟨0, Nat.zero_le _, rfl, Lib.hid ⟨HF9.out.2.1, ButN.refl _ _⟩⟩
          case round =>
            obtain ⟨q, hq, rfl, HJ⟩ := hrel
            by_cases hlq : q < ln
            · obtain ⟨lb, lo, rfl, hlb, hne, hlc, hwf⟩ := HLD.out q hlq
              have d0 : wr.cell? ⟨lb, lo + q, none⟩ = some (.int .i64 ((leadsI x).getD q 0)) := (HJ.out.2.cell (p := ⟨lb, lo + q, none⟩) hlb hne).trans hlc
              obtain ⟨w9, hrun9, hS9, hg9⟩ := HJ.out.1.put hwf (by unfold maxLen; omega)
              have HJ9 : Hid (SetI w9 B (2 * k + 1 + (q + 1)) (addS S (leadsI x) (q + 1)) ∧ ButN B W9 w9) := Lib.hid ⟨hS9.congr (addS_succ S (leadsI x) q (by rw [← HLN.out]; exact hlq)), HJ.out.2.trans (ButN.of_grown hg9 HJ.out.1.lt)⟩
              have j1 : (0 : Int) ≤ (q : Int) := by omega
              have j2 : (q : Int) < (ln : Int) := by omega
              generalize (leadsI x).getD q 0 = tq at *
              clear hS9 hg9 hlc hlb hne hwf
              go_wp2
              exact ⟨⟨q + 1, by omega, by go_num, HJ9⟩, by simp [intOf]; omega⟩
            · obtain rfl : ln = q := by omega
              have j2 : ¬ (ln : Int) < (ln : Int) := by omega
              go_wp2
              refine ⟨⟨k + 1, A7, c7, by omega, by go_num, ?_, ?_⟩, by simp [intOf]; omega⟩
              · rw [HE1.out]
                simp only
                rw [List.length_append, HM.out]
                rfl
              · rw [HE1.out]
                simp only
                rw [List.length_append, HM.out]
                refine Lib.hid ⟨?_, HJ.out.2.own (Nat.lt_succ_self B) HF9.out.1, HF9.out.2.2.1.trans HJ.out.2.1, Nat.le_trans HF9.out.2.2.2 HJ.out.2.1.size⟩
                have h := HJ.out.1
                rw [HLN.out] at h
                exact (h.congr (addS_all S x)).mono (by have := leadsI_len x; omega)
    · obtain rfl : n = k := by omega
      have HE2 : Hid (l.take n = l) := Lib.hid (by rw [← HN.out]; exact List.take_length)
      rw [HE2.out] at HI ⊢
      have HII := HI
      have i2 : ¬ (n : Int) < (n : Int) := by omega
      go_wp2
      go_ret
      have h := HI.out.2.1.lower (Nat.le_succ B)
      simp only [List.getElem!_eq_getElem?_getD] at h
      exact ⟨A', c', rfl, by rw [HBS.out]; exact h, by rw [HBS.out]; exact HI.out.2.2.1⟩
end Go.Proofs.Ytiofgaadfbjnoaa
