/-
  Layer 16: the laws' own of: a document's policy as the program's.
-/
import Derived.Test.YtcembcicpmhpkaaGreatDoorRd
import Derived.Deep.RegionHeld3
namespace Go.Proofs.YtcembcicpmhpkaaGreatDoor
open Go.RowKit Go.Shelf
set_option linter.unusedVariables false

theorem RowL.alloc {w : World} {base : Nat} {A : Option Addr} {l : List RL} {c : Nat} (h : RowL w base A l c) (o : Obj) : RowL (w.alloc o) base A l c := h.below ((Below.refl w.heap.size w).alloc (Nat.le_refl _) o) (Nat.le_refl _)
theorem RowL.drew {w : World} {base : Nat} {A : Option Addr} {l : List RL} {c : Nat} (h : RowL w base A l c) : RowL w.drew base A l c := h.below (B := w.heap.size) (Below.refl _ w).drew (Nat.le_refl _)
/-- A rule appended, as a step of a region that draws its order. -/
theorem step_rule {w : World} {ops : Array Oper} {o : Oper} {a : Act} {K : Act → World → Prop} {Q : Exit → Act → World → Prop} {R : Prop} (hgd : o.guard = none) (s x : Operand)
    (ho : o.op = .call { callee := .builtin .append, args := #[s, x], argTypes := #[29, 29] })
    {base c d g1 : Nat} {A : Option Addr} {l : List RL} (hs : a.eval s = .slice A l.length c) (hown : RowL w base A l c) {r : RL} (hx : a.eval x = .slice (some ⟨g1, 0, none⟩) 1 d) (hg1 : RowC w g1 (rrow r).toArray 52) (hr : RuT w r)
    (hn : l.length ≤ 100000) (hbase : base ≤ w.heap.size)
    (h : ∀ g c' w', RowL w' base (some ⟨g, 0, none⟩) (l ++ [r]) c' → w.grownBy w' (Value.slice A l.length c).ownBlock → ((Value.slice A l.length c).ownBlock = some g ∨ g = w.heap.size) → KeepC w w' → Below base w w' → K (a.put o.dst (.slice (some ⟨g, 0, none⟩) (l.length + 1) c')) w') :
    if Region.wanted o (yielded ops a.tmps) = true then Oper.wp Tryz.prog o a w K Q else R := by
  obtain ⟨i, hi, hz, hsz, hby⟩ := info_parts infoRu2
  refine step_append_lies w hgd s x 29 ho base 52 i _ 4 56 Tryz.underlying29 hi hz hsz hby (by rfl) (by decide) _ l.length _ hs hown.1 ⟨g1, 0, none⟩ 1 d (rrow r) hx (by rfl) (World.news_of_block hg1) (rrow_one r) (by decide) (by unfold maxLen; omega) (by omega) hbase _ rfl ?_
  intro g cap w' h1 h2 h3 h4
  have hk : KeepC w w' := KeepC.grown h2 fun b hb => ⟨_, hown.ty b hb, by decide⟩
  have hB : Below base w w' := (Below.refl _ _).grown h2 hbase (fun k hk => (hown.1.lt k hk).1)
  refine h g cap w' ⟨?_, fun q hq => ?_⟩ h2 h3 hk hB
  · rw [flat_snoc] at h1
    simpa using h1
  · rcases List.mem_append.1 hq with hq | hq
    · exact (hown.2 q hq).keep hk
    · rw [List.mem_singleton] at hq
      subst hq
      exact hr.keep hk
abbrev zPol : Array Value := polA 0 0 false none 0 0
theorem infoPol : (Tryz.prog.info? 31).map (·.size) = some 4 := by kernel_rfl
set_option maxRecDepth 100000 in
set_option maxHeartbeats 8000000 in
theorem of16_any (k u : Int) (x : Bool) (A : Option Addr) (n c : Nat) (R : Nat → RL) (w : World) (hn : n ≤ 40) (hl : ∀ i, i < n → (R i).n ≤ 12) (hR : RlA w A n R) :
    Calls Tryz.prog 19 #[.agg (polA k u x A n c)] w fun e w' => ∃ A' c' l, e = .returned (.agg (polA k u x A' n c')) ∧ l.length = n ∧ RowL w' w.heap.size A' l c' ∧ l.map RL.val = (List.range n).map (fun i => (R i).val) ∧ Below w.heap.size w w' := by
  obtain ⟨B, hBs⟩ : ∃ B, w.heap.size = B := ⟨_, rfl⟩
  obtain ⟨W0, hW0⟩ : ∃ W, (w.alloc (.cells (polA k u x A n c) 26)).alloc (.cells zPol 31) = W := ⟨_, rfl⟩
  obtain ⟨W1, hW1⟩ : ∃ W, W0.alloc (.cells (polA k u x none 0 0) 31) = W := ⟨_, rfl⟩
  have hs0 : W0.heap.size = B + 2 := by rw [← hW0, ← hBs]; simp
  have hs1 : W1.heap.size = B + 3 := by rw [← hW1]; simp; omega
  have HB := Lib.hid (show Below B w W1 by rw [← hW1, ← hW0, ← hBs]; exact (((Below.refl _ _).alloc (Nat.le_refl _) _).alloc (by simp) _).alloc (by simp; omega) _)
  have HP := Lib.hid (show RowC W1 B (polA k u x A n c) 26 by rw [← hW1, ← hW0, ← hBs]; exact ((RowC.new _ _ _ _ rfl).alloc _).alloc _)
  have HP0 := Lib.hid (show RowC W0 B (polA k u x A n c) 26 by rw [← hW0, ← hBs]; exact (RowC.new _ _ _ _ rfl).alloc _)
  have HZ := Lib.hid (show RowC W1 (B + 1) zPol 31 by rw [← hW1, ← hW0, ← hBs]; exact (RowC.new _ _ _ _ (by simp)).alloc _)
  have HX := Lib.hid (show RowC W1 (B + 2) (polA k u x none 0 0) 31 by rw [← hW1]; exact RowC.new _ _ _ _ hs0.symm)
  have HR := Lib.hid hR
  have HL := Lib.hid hl
  have HW0 := Lib.hid hW0
  have HW1 := Lib.hid hW1
  have HS := Lib.hid (And.intro hs0 hs1)
  have HBS := Lib.hid hBs
  clear hW0 hW1 hR hl
  have z0 := HP0.out.cell 0 (.int .i64 k) rfl
  have z1 := HP0.out.cell 1 (.int .i64 u) rfl
  have z2 := HP0.out.cell 2 (.bool x) rfl
  have z3 := HP0.out.cell 3 (.slice A n c) rfl
  clear hs1
  go_enter Tryz.func19, Tryz.ntmps19
  go_upto_region 1 with fail
  rw [HW0.out]
  go_upto_region 2 with fail
  rw [HW1.out]
  clear z0 z1 z2 z3
  go_wp2
  go_loopw [4] (fun i wr => ∃ (q : Nat) (A' : Option Addr) (c' : Nat) (l : List RL), q ≤ n ∧ i = .int .i64 q ∧ Hid (l.length = q ∧ RowL wr (B + 3) A' l c' ∧ l.map RL.val = (List.range q).map (fun i => (R i).val) ∧ RowC wr (B + 2) (polA k u x A' q c') 31 ∧ RowC wr B (polA k u x A n c) 26 ∧ RowC wr (B + 1) zPol 31 ∧ Below B w wr ∧ B + 3 ≤ wr.heap.size))
    (fun i _ => n - (intOf i).toNat)
  case atStart => exact ⟨0, none, 0, [], Nat.zero_le _, rfl, Lib.hid ⟨rfl, RowL.nil_ _ _, rfl, HX.out, HP.out, HZ.out, HB.out, by rw [HS.out.2]; exact Nat.le_refl _⟩⟩
  case round =>
    obtain ⟨q, A', c', l, hq, rfl, HI⟩ := hrel
    by_cases hlt : q < n
    · have hRr := HR.out.below HI.out.2.2.2.2.2.2.1 (by rw [HBS.out]; exact Nat.le_refl _)
      rcases HR.out with h0 | ⟨bb, o, rfl, hbl, _⟩
      · omega
      rcases hRr with h0 | ⟨bb', o', he, hbl', hcs⟩
      · omega
      obtain ⟨rfl, rfl⟩ : bb = bb' ∧ o = o' := by simpa using he
      obtain ⟨q0, q1, q2, q3, v1, v2, v3, v4, v5, v6⟩ := hcs q hlt
      obtain ⟨r, hr⟩ : ∃ r, R q = r := ⟨_, rfl⟩
      have h12 : r.n ≤ 12 := by rw [← hr]; exact HL.out q hlt
      have HVal := Lib.hid (show r.val = (R q).val by rw [hr])
      rw [hr] at q0 q1 q2 q3 v1 v2 v3 v4 v5 v6
      rw [Nat.add_zero] at q0
      have i1 : (0 : Int) ≤ (q : Int) := by omega
      have i2 : (q : Int) < (n : Int) := by omega
      have x3 := HI.out.2.2.2.1.cell 3 (.slice A' q c') rfl
      have p3 := HI.out.2.2.2.2.1.cell 3 (.slice (some ⟨bb, o, none⟩) n c) rfl
      have hk0 : Below wr.heap.size wr wr.drew := (Below.refl _ wr).drew
      have hbb : bb < B := by rw [← HBS.out]; exact hbl
      have HS0 : Hid (∀ X, Below (B + 3) wr X → X.cell? ⟨B + 2, 3, none⟩ = some (.slice A' q c') ∧ X.cell? ⟨B, 3, none⟩ = some (.slice (some ⟨bb, o, none⟩) n c) ∧ X.cell? ⟨bb, o + q * 4, none⟩ = some (.string r.nm) ∧ X.cell? ⟨bb, o + q * 4 + 1, none⟩ = some (.int .i64 r.k) ∧ X.cell? ⟨bb, o + q * 4 + 2, none⟩ = some (.int .i64 r.u) ∧ X.cell? ⟨bb, o + q * 4 + 3, none⟩ = some (.slice r.A r.n r.c)) :=
        Lib.hid fun X hX => ⟨(HI.out.2.2.2.1.below hX (by omega)).cell 3 _ rfl, (HI.out.2.2.2.2.1.below hX (by omega)).cell 3 _ rfl, (hX.cell (p := ⟨bb, o + q * 4, none⟩) (Nat.lt_of_lt_of_le hbb (by omega))).trans q0, (hX.cell (p := ⟨bb, o + q * 4 + 1, none⟩) (Nat.lt_of_lt_of_le hbb (by omega))).trans q1, (hX.cell (p := ⟨bb, o + q * 4 + 2, none⟩) (Nat.lt_of_lt_of_le hbb (by omega))).trans q2, (hX.cell (p := ⟨bb, o + q * 4 + 3, none⟩) (Nat.lt_of_lt_of_le hbb (by omega))).trans q3⟩
      have HCL : Hid (∀ X, Below wr.heap.size wr X → Calls Tryz.prog 23 #[.agg (rulA r.nm r.k r.u r.A r.n r.c)] X fun e w' => ∃ A' c', e = .returned (.agg (rulA r.nm r.k r.u A' r.n c')) ∧ RuT w' ⟨r.nm, r.k, r.u, A', r.n, c', r.C⟩ ∧ Below X.heap.size X w') := by
        refine Lib.hid fun X hX => (rule16_any r.nm r.k r.u r.A r.n r.c r.C X h12 (v6.below hX (Nat.le_refl _))).mono ?_
        rintro e w7 ⟨A7, c7, rfl, hown, hB7⟩
        have hbd : ∀ i, i < r.n → (r.C i).m ≤ 18446744073709551615 ∧ (r.C i).v ≤ 18446744073709551615 := fun i hi => by
          rcases v6 with h0 | ⟨b9, o9, _, _, hc9⟩
          · omega
          · exact ⟨(hc9 i hi).2.2.2.2.1, (hc9 i hi).2.2.2.2.2⟩
        have := ConT.of_own hown hbd
        exact ⟨A7, c7, rfl, ⟨v1, v2, v3, this.2.1, this.2.2, this.1⟩, hB7⟩
      have hlen := HI.out.1
      have HLN := Lib.hid hlen
      clear hcs hr he q0 q1 q2 q3 hs0 hBs v1 v2 v3 v4 v5 v6 hlen
      go_wp2_with fail
      obtain ⟨d0, d1, d2, d3, d4, d5⟩ := HS0.out wr (Below.refl _ _)
      clear HP0 HW0 HW1 HP HR HX HZ
      go_region_law
        (first
          | (go_simp
             refine (HCL.out _ (by first | exact hk0 | exact Below.refl _ _)).mono ?_
             rintro e w7 ⟨A7, c7, rfl, hru7, hB7⟩
             have hk1 : Below wr.heap.size wr w7 := by first | exact hB7 | exact bTr hk0 hB7
             have hk11 := hk1.mono HI.out.2.2.2.2.2.2.2
             have d0 := (HS0.out w7 hk11).1
             have d1 := (HS0.out w7 hk11).2.1
             have d0' : ∀ ob, (w7.alloc ob).cell? ⟨B + 2, 3, none⟩ = some (.slice A' q c') := fun ob => ((HI.out.2.2.2.1.below hk11 (by omega)).alloc ob).cell 3 _ rfl)
          | (refine step_rule (by rfl) _ _ (by rfl) (l := l) (by rw [HLN.out]; rfl) ((HI.out.2.1.below hk1 (Nat.le_refl _)).alloc _) (r := ⟨r.nm, r.k, r.u, A7, r.n, c7, r.C⟩) (by rfl) (RowC.new _ _ _ _ (by rfl)) (hru7.keep ((KeepC.refl _).alloc _)) (by rw [HLN.out]; omega) (by have := hk1.size; have := HI.out.2.2.2.2.2.2.2; simp; omega) ?_
             rintro g2 c2 w2 hown2 _ _ _ hB2
             have hk2 : Below (B + 3) wr w2 := (hk1.mono HI.out.2.2.2.2.2.2.2).trans (((Below.refl _ w7).alloc (by have := hk1.size; have := HI.out.2.2.2.2.2.2.2; omega) _).trans hB2)
             have hx2 := HI.out.2.2.2.1.below hk2 (by omega)
             have x3 := hx2.cell 3 (.slice A' q c') rfl
             have y3 := hx2.frozen 3
             skip)
          | (refine step_rule (by rfl) _ _ (by rfl) (l := l) (by rw [HLN.out]; rfl) (((HI.out.2.1.below hk1 (Nat.le_refl _)).alloc _).drew) (r := ⟨r.nm, r.k, r.u, A7, r.n, c7, r.C⟩) (by rfl) (RowC.new _ _ _ _ (by rfl)) (hru7.keep (((KeepC.refl _).alloc _).drew)) (by rw [HLN.out]; omega) (by have := hk1.size; have := HI.out.2.2.2.2.2.2.2; simp; omega) ?_
             rintro g2 c2 w2 hown2 _ _ _ hB2
             have hk2 : Below (B + 3) wr w2 := (hk1.mono HI.out.2.2.2.2.2.2.2).trans (((Below.refl _ w7).alloc (by have := hk1.size; have := HI.out.2.2.2.2.2.2.2; omega) _).trans hB2)
             have hx2 := HI.out.2.2.2.1.below hk2 (by omega)
             have x3 := hx2.cell 3 (.slice A' q c') rfl
             have y3 := hx2.frozen 3))
      all_goals go_wp2
      all_goals exact ⟨⟨q + 1, some ⟨g2, 0, none⟩, c2, l ++ [⟨r.nm, r.k, r.u, A7, r.n, c7, r.C⟩], by omega, by go_num, Lib.hid ⟨by simp [HLN.out], hown2.setLow hx2.ty (by decide) (by decide) 3 _, by rw [List.map_append, List.range_succ, List.map_append, HI.out.2.2.1]; show _ ++ [r.val] = _ ++ [(R q).val]; rw [HVal.out], by rw [← HLN.out]; exact hx2.set 3 (.slice (some ⟨g2, 0, none⟩) (l.length + 1) c2), (HI.out.2.2.2.2.1.below hk2 (by omega)).setOther 3 _ (by omega), (HI.out.2.2.2.2.2.1.below hk2 (by omega)).setOther 3 _ (by omega), (HI.out.2.2.2.2.2.2.1.trans (hk2.mono (by omega))).setCell (by show B ≤ B + 2; omega) _, by have := hk2.size; have := HI.out.2.2.2.2.2.2.2; simp; omega⟩⟩, by simp [intOf]; omega⟩
    · obtain rfl : q = n := by omega
      have x0 := HI.out.2.2.2.1.cell 0 (.int .i64 k) rfl
      have x1 := HI.out.2.2.2.1.cell 1 (.int .i64 u) rfl
      have x2 := HI.out.2.2.2.1.cell 2 (.bool x) rfl
      have x3 := HI.out.2.2.2.1.cell 3 (.slice A' q c') rfl
      have p3 := HI.out.2.2.2.2.1.cell 3 (.slice A q c) rfl
      have z0 := HI.out.2.2.2.2.2.1.cell 0 (.int .i64 0) rfl
      have z1 := HI.out.2.2.2.2.2.1.cell 1 (.int .i64 0) rfl
      have z2 := HI.out.2.2.2.2.2.1.cell 2 (.bool false) rfl
      have z3 := HI.out.2.2.2.2.2.1.cell 3 (.slice none 0 0) rfl
      have y0 := HI.out.2.2.2.2.2.1.frozen 0
      have y1 := HI.out.2.2.2.2.2.1.frozen 1
      have y2 := HI.out.2.2.2.2.2.1.frozen 2
      have y3 := HI.out.2.2.2.2.2.1.frozen 3
      go_wp2
      have s0 := HI.out.2.2.2.2.2.1
      have s1 := s0.set 0 (.int .i64 k)
      have s2 := s1.set 1 (.int .i64 u)
      have s3 := s2.set 2 (.bool x)
      exact bodyPost_ret (results_cN Tryz.results19 _ _ (B + 1) _ (polA k u x A' q c') (0, 0) _ (by rfl) (set4U HI.out.2.2.2.2.2.1) Tryz.underlying31 (by rfl) infoPol) rfl
        ⟨A', c', l, rfl, HI.out.1, ((((HI.out.2.1.setLow s0.ty (by decide) (by decide) 0 _).setLow s1.ty (by decide) (by decide) 1 _).setLow s2.ty (by decide) (by decide) 2 _).setLow s3.ty (by decide) (by decide) 3 _).lower (by rw [HBS.out]; omega), HI.out.2.2.1, by rw [HBS.out]; exact below4N HI.out.2.2.2.2.2.2.1 (by omega) _ _ _ _⟩
end Go.Proofs.YtcembcicpmhpkaaGreatDoor
