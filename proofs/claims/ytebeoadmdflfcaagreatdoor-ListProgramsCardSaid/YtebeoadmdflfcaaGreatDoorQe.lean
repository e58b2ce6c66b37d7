/-
  The document's Read, at every line of 100 bytes.
-/
import Derived.Test.YtebeoadmdflfcaaGreatDoorQd
import Derived.Test.YtebeoadmdflfcaaGreatDoorPh
import Derived.Deep.RegionHeld3
namespace Go.Proofs.YtebeoadmdflfcaaGreatDoor
open Go.RowKit Go.Shelf
set_option linter.unusedVariables false

theorem refLine3 (c t f k : Nat) (hc : c < 65536) (ht : t < 256) (hf : f < 256) (hk : k < 4294967296) (W : World) : Calls Tryz.prog 19 #[.agg (instA c t f k)] W fun e w' => e = .returned (.string ⟨(lineL c t f k).toArray⟩) ∧ Below W.heap.size W w' := by
  obtain ⟨K, X, hK, h1, h2, h3⟩ := ofF_nat c hc t f k
  rw [h3]
  refine refLine_any K hK X c t f k hc ht hf hk (fun W => ?_) W
  have h := refOf_any (c : Int) W (by omega) (by omega)
  rw [h1, h2] at h
  exact h
theorem wdF_size : ∀ (l w : List UInt8) (out : List (List UInt8)), (wdF l w out).length ≤ out.length + l.length + w.length ∧ ∀ x ∈ wdF l w out, x ∈ out ∨ x.length ≤ w.length + l.length := by
  have hp : ∀ (out : List (List UInt8)) (w : List UInt8), (psh out w).length ≤ out.length + w.length ∧ ∀ x ∈ psh out w, x ∈ out ∨ x.length ≤ w.length := fun out w => by
    by_cases h : w = []
    · subst h; exact ⟨by show out.length ≤ _; omega, fun x hx => .inl hx⟩
    · have := List.length_pos_iff.2 h
      rw [psh_ne _ h]
      refine ⟨by rw [List.length_append, List.length_singleton]; omega, fun x hx => ?_⟩
      rw [List.mem_append, List.mem_singleton] at hx
      rcases hx with hx | rfl
      · exact .inl hx
      · exact .inr (Nat.le_refl _)
  intro l
  induction l with
  | nil => intro w out; have := hp out w; exact ⟨by show (psh out w).length ≤ _; simp; omega, fun x hx => by have := this.2 x hx; simpa using this⟩
  | cons b t ih =>
    intro w out
    rw [wdF]
    by_cases hb : blk b = true
    · rw [if_pos hb]
      obtain ⟨i1, i2⟩ := ih [] (psh out w)
      obtain ⟨j1, j2⟩ := hp out w
      refine ⟨by simp only [List.length_nil, List.length_cons] at i1 ⊢; omega, fun x hx => ?_⟩
      rcases i2 x hx with h | h
      · rcases j2 x h with h | h
        · exact .inl h
        · exact .inr (by rw [List.length_cons]; omega)
      · exact .inr (by simp only [List.length_nil, List.length_cons] at h ⊢; omega)
    · rw [if_neg hb]
      obtain ⟨i1, i2⟩ := ih (w ++ [b]) out
      refine ⟨by simp only [List.length_append, List.length_cons, List.length_nil] at i1 ⊢; omega, fun x hx => ?_⟩
      rcases i2 x hx with h | h
      · exact .inl h
      · exact .inr (by simp only [List.length_append, List.length_cons, List.length_nil] at h ⊢; omega)
theorem wsOf_size (l : List UInt8) : (wsOf l).length ≤ l.length ∧ ∀ i, (wsN l i).length ≤ l.length := by
  obtain ⟨R, h, _, _⟩ := cut_part l
  have hle : (Lib.cut l [59]).1.length ≤ l.length := by
    have := congrArg List.length h
    rw [List.length_append] at this
    omega
  obtain ⟨h1, h2⟩ := wdF_size (Lib.cut l [59]).1 [] []
  refine ⟨by show (wds _).length ≤ _; unfold wds; simp only [List.length_nil] at h1; omega, fun i => ?_⟩
  unfold wsN
  rw [List.getD_eq_getElem?_getD]
  cases hx : (wsOf l)[i]? with
  | none => simp
  | some x =>
    rcases h2 x (List.mem_of_getElem? hx) with h | h
    · cases h
    · simp only [List.length_nil, Option.getD_some] at h ⊢; omega
theorem eqL_true (x : List UInt8) : ((⟨x.toArray⟩ : ByteArray).toList == (⟨x.toArray⟩ : ByteArray).toList) = true := by simp
theorem eqL_false {x y : List UInt8} (h : x ≠ y) : ((⟨x.toArray⟩ : ByteArray).toList == (⟨y.toArray⟩ : ByteArray).toList) = false := by
  rw [beq_eq_false_iff_ne]
  intro e
  rw [Lib.toList_data, Lib.toList_data] at e
  simp at e
  exact h e
abbrev RInst (w : World) (b c t f k : Nat) : Prop := RowC w b (instA c t f k) 29
/-- The end of a read that fails. -/
theorem ref_zero {w W : World} {c t f k : Nat} (hr : RInst W w.heap.size c t f k) : RInst ((((W.setCell ⟨w.heap.size, 0, none⟩ (.int .u16 0)).setCell ⟨w.heap.size, 1, none⟩ (.int .u8 0)).setCell ⟨w.heap.size, 2, none⟩ (.int .u8 0)).setCell ⟨w.heap.size, 3, none⟩ (.int .u32 0)) w.heap.size 0 0 0 0 := (((hr.set 0 (.int .u16 0)).set 1 (.int .u8 0)).set 2 (.int .u8 0)).set 3 (.int .u32 0)
theorem ref_four {w W : World} {c t f k : Nat} {c' t' f' k' : Nat} (hr : RInst W w.heap.size c t f k) : RInst ((((W.setCell ⟨w.heap.size, 0, none⟩ (.int .u16 c')).setCell ⟨w.heap.size, 1, none⟩ (.int .u8 t')).setCell ⟨w.heap.size, 2, none⟩ (.int .u8 f')).setCell ⟨w.heap.size, 3, none⟩ (.int .u32 k')) w.heap.size c' t' f' k' := (((hr.set 0 (.int .u16 c')).set 1 (.int .u8 t')).set 2 (.int .u8 f')).set 3 (.int .u32 k')
theorem below4 {w W : World} (hb : Below w.heap.size w W) (a b c d : Value) : Below w.heap.size w ((((W.setCell ⟨w.heap.size, 0, none⟩ a).setCell ⟨w.heap.size, 1, none⟩ b).setCell ⟨w.heap.size, 2, none⟩ c).setCell ⟨w.heap.size, 3, none⟩ d) := (((hb.setCell (Nat.le_refl _) _).setCell (Nat.le_refl _) _).setCell (Nat.le_refl _) _).setCell (Nat.le_refl _) _
theorem ref_res {w W : World} {tmps : Array Value} {c t f k : Nat} {x : Int} (hr : RInst W w.heap.size c t f k) (hp : tmps.getD 2 undef = .pointer (some ⟨w.heap.size, 0, none⟩)) (hq : tmps.getD 3 undef = .int .i64 x) : (results Tryz.f7 tmps).run Tryz.prog W = .ok (.tuple #[.agg (instA c t f k), .int .i64 x]) W :=
  results_cell_row2L Tryz.results7 tmps W w.heap.size _ (instA c t f k) (0, 0) _ (.int .i64 x) hp hq hr Tryz.underlying29 (by rfl) (show _ = some 4 by kernel_rfl)
/-- The document's answer for a line. -/
def RefA (l : List UInt8) (e : Ending) : Prop := ∃ (c t f k : Nat) (x : Int), e = .returned (.tuple #[.agg (instA c t f k), .int .i64 x]) ∧ (((wsOf l).length = 0 ∧ c = 0 ∧ t = 0 ∧ f = 0 ∧ k = 0 ∧ x = 4) ∨ (0 < (wsOf l).length ∧ RefR l c t f k x))
set_option maxRecDepth 100000 in
set_option maxHeartbeats 32000000 in
theorem refRead_code (s : ByteArray) (hs : s.size ≤ 100) (h0 : 0 < (wsOf s.data.toList).length) (hcd : wsN s.data.toList 0 = codeT) (w : World) :
    Calls Tryz.prog 7 #[.string s] w fun e w' => RefA s.data.toList e ∧ Below w.heap.size w w' := by
  have hlen : s.data.toList.length = s.size := Array.length_toList
  have HWD := Lib.hid fun X => refWords_any s (by omega) X
  obtain ⟨l, hl⟩ : ∃ l, s.data.toList = l := ⟨_, rfl⟩
  rw [hl] at HWD hlen h0 hcd ⊢
  obtain ⟨z1, z2⟩ := wsOf_size l
  have HRA : Hid (∀ c t f k x, RefR l c t f k x → RefA l (.returned (.tuple #[.agg (instA c t f k), .int .i64 x]))) := Lib.hid fun c t f k x h => ⟨c, t, f, k, x, rfl, .inr ⟨h0, h⟩⟩
  have HN : Hid (∀ i wd, Wd wd → ∀ X, Calls Tryz.prog 17 #[.string ⟨(wsN l i).toArray⟩, .int .i64 ((2 ^ wd : Nat) : Int)] X fun e w' => (∃ x : Nat, e = .returned (.tuple #[.int .i64 x, .bool (numW wd (wsN l i)).isSome]) ∧ ∀ u, numW wd (wsN l i) = some u → x = u) ∧ w' = X) := Lib.hid fun i wd hw X => by
    have h := refNum_any ⟨(wsN l i).toArray⟩ (by show (wsN l i).toArray.size ≤ _; have := z2 i; simp; omega) wd hw X
    rw [show (⟨(wsN l i).toArray⟩ : ByteArray).data.toList = wsN l i by simp] at h
    exact h
  obtain ⟨n, hn⟩ : ∃ n, (wsOf l).length = n := ⟨_, rfl⟩
  have HC0 := Lib.hid hcd
  have HNE := Lib.hid hn
  rw [hn] at HWD h0 z1
  clear hl hlen z2
  obtain ⟨W0, hW0⟩ : ∃ W, w.alloc (.cells zI 29) = W := ⟨_, rfl⟩
  have hb0 : Below w.heap.size w W0 := by rw [← hW0]; exact (Below.refl _ _).alloc (Nat.le_refl _) _
  have r0 : RInst W0 w.heap.size 0 0 0 0 := by rw [← hW0]; exact RowC.new _ _ _ _ rfl
  have HB := Lib.hid hb0
  have HR := Lib.hid r0
  have HW := Lib.hid hW0
  clear hb0 r0 hW0 hcd hn
  have g0 : ((n : Int) == 0) = false := beq_eq_false_iff_ne.2 (by omega)
  go_enter Tryz.func7, Tryz.ntmps7
  go_upto_region 1 with fail
  rw [HW.out]
  go_wp2_with fail
  refine (HWD.out _).mono ?_
  rintro e w1 ⟨A, c1, rfl, hcl, hB1⟩
  obtain ⟨b, off, rfl, hb, hcc⟩ := hcl.at_ (by omega)
  have HB1 := Lib.hid (HB.out.trans (hB1.mono HB.out.size))
  have HR1 := Lib.hid (HR.out.below hB1 HR.out.lt)
  have p0 : w1.cell? ⟨b, off, none⟩ = some (.string ⟨#[46, 99, 111, 100, 101]⟩) := by
    have := hcc 0 (by omega)
    rw [Nat.add_zero] at this
    rw [this]
    show some (Value.string ⟨(wsN l 0).toArray⟩) = _
    rw [HC0.out]
    rfl
  have HP : Hid (∀ i, i < n → w1.cell? ⟨b, off + i, none⟩ = some (.string ⟨(wsN l i).toArray⟩)) := Lib.hid fun i hi => hcc i (by omega)
  clear hcl hB1 hcc HWD HB HR HW
  by_cases h5 : n = 5
  · subst h5
    have p1 := HP.out 1 (by omega)
    have p2 := HP.out 2 (by omega)
    have p3 := HP.out 3 (by omega)
    have p4 := HP.out 4 (by omega)
    have HN1 := Lib.hid (HN.out 1 16 (.inr (.inl rfl)))
    have HN2 := Lib.hid (HN.out 2 8 (.inl rfl))
    have HN3 := Lib.hid (HN.out 3 8 (.inl rfl))
    have HN4 := Lib.hid (HN.out 4 32 (.inr (.inr rfl)))
    obtain ⟨o1, ho1⟩ : ∃ o, numW 16 (wsN l 1) = o := ⟨_, rfl⟩
    obtain ⟨o2, ho2⟩ : ∃ o, numW 8 (wsN l 2) = o := ⟨_, rfl⟩
    obtain ⟨o3, ho3⟩ : ∃ o, numW 8 (wsN l 3) = o := ⟨_, rfl⟩
    obtain ⟨o4, ho4⟩ : ∃ o, numW 32 (wsN l 4) = o := ⟨_, rfl⟩
    have HBAD : Hid (o1.isSome = false ∨ o2.isSome = false ∨ o3.isSome = false ∨ o4.isSome = false → RefA l (.returned (.tuple #[.agg zI, .int .i64 13]))) := Lib.hid fun h => by
      refine HRA.out 0 0 0 0 13 (.inl ⟨HC0.out, .inr ⟨.inr ?_, rfl, rfl, rfl, rfl, rfl⟩⟩)
      rw [ho1, ho2, ho3, ho4]
      simpa using h
    have HGOOD : Hid (∀ u1 u2 u3 u4, o1 = some u1 → o2 = some u2 → o3 = some u3 → o4 = some u4 → RefA l (.returned (.tuple #[.agg (instA u1 u2 u3 u4), .int .i64 0])) ∧ u1 < 65536 ∧ u2 < 256 ∧ u3 < 256 ∧ u4 < 4294967296) := Lib.hid fun u1 u2 u3 u4 a1 a2 a3 a4 =>
      ⟨HRA.out u1 u2 u3 u4 0 (.inl ⟨HC0.out, .inl ⟨HNE.out, ho1.trans a1, ho2.trans a2, ho3.trans a3, ho4.trans a4, rfl⟩⟩), numW_lt (.inr (.inl rfl)) (ho1.trans a1), numW_lt (.inl rfl) (ho2.trans a2), numW_lt (.inl rfl) (ho3.trans a3), numW_lt (.inr (.inr rfl)) (ho4.trans a4)⟩
    rw [ho1] at HN1
    rw [ho2] at HN2
    rw [ho3] at HN3
    rw [ho4] at HN4
    generalize (⟨(wsN l 1).toArray⟩ : ByteArray) = S1 at HN1 p1
    generalize (⟨(wsN l 2).toArray⟩ : ByteArray) = S2 at HN2 p2
    generalize (⟨(wsN l 3).toArray⟩ : ByteArray) = S3 at HN3 p3
    generalize (⟨(wsN l 4).toArray⟩ : ByteArray) = S4 at HN4 p4
    obtain ⟨b1, hb1⟩ : ∃ x, o1.isSome = x := ⟨_, rfl⟩
    obtain ⟨b2, hb2⟩ : ∃ x, o2.isSome = x := ⟨_, rfl⟩
    obtain ⟨b3, hb3⟩ : ∃ x, o3.isSome = x := ⟨_, rfl⟩
    obtain ⟨b4, hb4⟩ : ∃ x, o4.isSome = x := ⟨_, rfl⟩
    rw [hb1] at HN1 HBAD
    rw [hb2] at HN2 HBAD
    rw [hb3] at HN3 HBAD
    rw [hb4] at HN4 HBAD
    have HBS := Lib.hid (And.intro hb1 (And.intro hb2 (And.intro hb3 hb4)))
    clear ho1 ho2 ho3 ho4 HN HP HRA hb1 hb2 hb3 hb4
    go_wp2_with fail
    refine (HN1.out _).mono ?_
    rintro e w2 ⟨⟨x1, rfl, hx1⟩, rfl⟩
    go_wp2_with fail
    refine (HN2.out _).mono ?_
    rintro e w3 ⟨⟨x2, rfl, hx2⟩, rfl⟩
    go_wp2_with fail
    refine (HN3.out _).mono ?_
    rintro e w4 ⟨⟨x3, rfl, hx3⟩, rfl⟩
    go_wp2_with fail
    refine (HN4.out _).mono ?_
    rintro e w5 ⟨⟨x4, rfl, hx4⟩, rfl⟩
    have HXS := Lib.hid (And.intro hx1 (And.intro hx2 (And.intro hx3 hx4)))
    clear hx1 hx2 hx3 hx4
    have z0 := HR1.out.cell 0 _ rfl
    have z1 := HR1.out.cell 1 _ rfl
    have z2 := HR1.out.cell 2 _ rfl
    have z3 := HR1.out.cell 3 _ rfl
    have y0 := HR1.out.frozen 0
    have y1 := HR1.out.frozen 1
    have y2 := HR1.out.frozen 2
    have y3 := HR1.out.frozen 3
    by_cases hall : b1 = true ∧ b2 = true ∧ b3 = true ∧ b4 = true
    · obtain ⟨rfl, rfl, rfl, rfl⟩ := hall
      obtain ⟨q1, q2, q3, q4⟩ := HBS.out
      obtain ⟨u1, v1⟩ := Option.isSome_iff_exists.1 q1
      obtain ⟨u2, v2⟩ := Option.isSome_iff_exists.1 q2
      obtain ⟨u3, v3⟩ := Option.isSome_iff_exists.1 q3
      obtain ⟨u4, v4⟩ := Option.isSome_iff_exists.1 q4
      obtain ⟨hx1, hx2, hx3, hx4⟩ := HXS.out
      obtain rfl := hx1 u1 v1
      obtain rfl := hx2 u2 v2
      obtain rfl := hx3 u3 v3
      obtain rfl := hx4 u4 v4
      obtain ⟨hA, e1, e2, e3, e4⟩ := HGOOD.out x1 x2 x3 x4 v1 v2 v3 v4
      have HA := Lib.hid hA
      have t1 : IntKind.u16.wrap (x1 : Int) = x1 := IntWalk.u16_in _ (by omega)
      have t2 : IntKind.u8.wrap (x2 : Int) = x2 := IntWalk.u8_in _ (by omega)
      have t3 : IntKind.u8.wrap (x3 : Int) = x3 := IntWalk.u8_in _ (by omega)
      have t4 : IntKind.u32.wrap (x4 : Int) = x4 := IntWalk.u32_in _ (by omega)
      clear hA q1 q2 q3 q4 v1 v2 v3 v4 hx1 hx2 hx3 hx4 HGOOD HBAD HXS HBS
      go_wp2
      exact bodyPost_ret (ref_res (ref_four HR1.out) (by rfl) (by rfl)) rfl ⟨HA.out, below4 HB1.out _ _ _ _⟩
    · have hsome : b1 = false ∨ (b1 = true ∧ b2 = false) ∨ (b1 = true ∧ b2 = true ∧ b3 = false) ∨ (b1 = true ∧ b2 = true ∧ b3 = true ∧ b4 = false) := by
        cases b1
        · exact .inl rfl
        · cases b2
          · exact .inr (.inl ⟨rfl, rfl⟩)
          · cases b3
            · exact .inr (.inr (.inl ⟨rfl, rfl, rfl⟩))
            · cases b4
              · exact .inr (.inr (.inr ⟨rfl, rfl, rfl, rfl⟩))
              · exact absurd ⟨rfl, rfl, rfl, rfl⟩ hall
      have HA : Hid (RefA l (.returned (.tuple #[.agg zI, .int .i64 13]))) := Lib.hid (HBAD.out (by
        rcases hsome with h | ⟨_, h⟩ | ⟨_, _, h⟩ | ⟨_, _, _, h⟩
        · exact .inl h
        · exact .inr (.inl h)
        · exact .inr (.inr (.inl h))
        · exact .inr (.inr (.inr h))))
      clear HGOOD HBAD HXS HBS hall
      rcases hsome with rfl | ⟨rfl, rfl⟩ | ⟨rfl, rfl, rfl⟩ | ⟨rfl, rfl, rfl, rfl⟩
      all_goals
        go_wp2
        exact bodyPost_ret (ref_res (ref_zero HR1.out) (by rfl) (by rfl)) rfl ⟨HA.out, below4 HB1.out _ _ _ _⟩
  · have g5 : ((n : Int) != 5) = true := bne_iff_ne.2 (by omega)
    have HA : Hid (RefA l (.returned (.tuple #[.agg zI, .int .i64 13]))) := Lib.hid (HRA.out 0 0 0 0 13 (.inl ⟨HC0.out, .inr ⟨.inl (by have := HNE.out; omega), rfl, rfl, rfl, rfl, rfl⟩⟩))
    have z0 := HR1.out.cell 0 _ rfl
    have z1 := HR1.out.cell 1 _ rfl
    have z2 := HR1.out.cell 2 _ rfl
    have z3 := HR1.out.cell 3 _ rfl
    have y0 := HR1.out.frozen 0
    have y1 := HR1.out.frozen 1
    have y2 := HR1.out.frozen 2
    have y3 := HR1.out.frozen 3
    clear HN HP HRA HC0 HNE
    go_wp2
    exact bodyPost_ret (ref_res (ref_zero HR1.out) (by rfl) (by rfl)) rfl ⟨HA.out, below4 HB1.out _ _ _ _⟩
set_option maxRecDepth 100000 in
set_option maxHeartbeats 8000000 in
theorem refRead_empty (s : ByteArray) (hs : s.size ≤ 100) (h0 : (wsOf s.data.toList).length = 0) (w : World) :
    Calls Tryz.prog 7 #[.string s] w fun e w' => RefA s.data.toList e ∧ Below w.heap.size w w' := by
  have HWD := Lib.hid fun X => refWords_any s (by omega) X
  have HA : Hid (RefA s.data.toList (.returned (.tuple #[.agg zI, .int .i64 4]))) := Lib.hid ⟨0, 0, 0, 0, 4, rfl, .inl ⟨h0, rfl, rfl, rfl, rfl, rfl⟩⟩
  rw [h0] at HWD
  clear h0
  obtain ⟨W0, hW0⟩ : ∃ W, w.alloc (.cells zI 29) = W := ⟨_, rfl⟩
  have hb0 : Below w.heap.size w W0 := by rw [← hW0]; exact (Below.refl _ _).alloc (Nat.le_refl _) _
  have r0 : RInst W0 w.heap.size 0 0 0 0 := by rw [← hW0]; exact RowC.new _ _ _ _ rfl
  have HB := Lib.hid hb0
  have HR := Lib.hid r0
  have HW := Lib.hid hW0
  clear hb0 r0 hW0
  go_enter Tryz.func7, Tryz.ntmps7
  go_upto_region 1 with fail
  rw [HW.out]
  go_wp2_with fail
  refine (HWD.out _).mono ?_
  rintro e w1 ⟨A, c1, rfl, _, hB1⟩
  have HB1 := Lib.hid (HB.out.trans (hB1.mono HB.out.size))
  have HR1 := Lib.hid (HR.out.below hB1 HR.out.lt)
  have z0 := HR1.out.cell 0 _ rfl
  have z1 := HR1.out.cell 1 _ rfl
  have z2 := HR1.out.cell 2 _ rfl
  have z3 := HR1.out.cell 3 _ rfl
  have y0 := HR1.out.frozen 0
  have y1 := HR1.out.frozen 1
  have y2 := HR1.out.frozen 2
  have y3 := HR1.out.frozen 3
  clear hB1 HWD HB HR HW
  go_wp2
  exact bodyPost_ret (ref_res (ref_zero HR1.out) (by rfl) (by rfl)) rfl ⟨HA.out, below4 HB1.out _ _ _ _⟩
end Go.Proofs.YtebeoadmdflfcaaGreatDoor
