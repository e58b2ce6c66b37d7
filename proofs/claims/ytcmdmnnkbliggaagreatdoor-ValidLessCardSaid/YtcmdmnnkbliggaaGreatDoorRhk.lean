/-
  Layer 16: slices.Equal at conditions; norm.unhidden.
-/
import Derived.Test.YtcmdmnnkbliggaaGreatDoorMk
namespace Go.Proofs.YtcmdmnnkbliggaaGreatDoor
open Go.RowKit Go.Shelf
set_option linter.unusedVariables false

theorem cd_cases (x y : CD) : x = y ∨ (x.a == y.a) = false ∨ (x.a = y.a ∧ (x.o == y.o) = false) ∨ (x.a = y.a ∧ x.o = y.o ∧ (((x.m : Nat) : Int) == ((y.m : Nat) : Int)) = false) ∨ (x.a = y.a ∧ x.o = y.o ∧ x.m = y.m ∧ (((x.v : Nat) : Int) == ((y.v : Nat) : Int)) = false) := by
  obtain ⟨a, o, m, v⟩ := x
  obtain ⟨a', o', m', v'⟩ := y
  simp only [beq_eq_false_iff_ne, ne_eq, Int.ofNat_inj, CD.mk.injEq]
  by_cases h1 : a = a'
  · by_cases h2 : o = o'
    · by_cases h3 : m = m'
      · by_cases h4 : v = v'
        · left; exact ⟨h1, h2, h3, h4⟩
        · exact .inr (.inr (.inr (.inr ⟨h1, h2, h3, h4⟩)))
      · exact .inr (.inr (.inr (.inl ⟨h1, h2, h3⟩)))
    · exact .inr (.inr (.inl ⟨h1, h2⟩))
  · exact .inr (.inl h1)
theorem ConA.four {w : World} {A : Option Addr} {n : Nat} {C : Nat → CD} (h : ConA w A n C) {i : Nat} (hi : i < n) {x : CD} (hx : C i = x) : ∃ b o, A = some ⟨b, o, none⟩ ∧
    w.cell? ⟨b, o + i * 4, none⟩ = some (.int .i64 x.a) ∧ w.cell? ⟨b, o + i * 4 + 1, none⟩ = some (.int .i64 x.o) ∧ w.cell? ⟨b, o + i * 4 + 2, none⟩ = some (.int .u64 x.m) ∧ w.cell? ⟨b, o + i * 4 + 3, none⟩ = some (.int .u64 x.v) := by
  subst hx
  rcases h with h0 | ⟨b, o, rfl, _, hc⟩
  · omega
  · obtain ⟨h0, h1, h2, h3, _⟩ := hc i hi
    rw [Nat.add_zero] at h0
    exact ⟨b, o, rfl, h0, h1, h2, h3⟩
theorem range_ne {C C' : Nat → CD} {n q : Nat} (hq : q < n) (h : C q ≠ C' q) : (List.range n).map C ≠ (List.range n).map C' := fun e => h (by
  have := congrArg (fun l : List CD => l[q]?) e
  simpa [hq] using this)
set_option maxRecDepth 100000 in
set_option maxHeartbeats 8000000 in
theorem eqConds_any (A A' : Option Addr) (n c m c' : Nat) (C C' : Nat → CD) (w : World) (hn : n ≤ 100000) (hA : ConA w A n C) (hA' : ConA w A' m C') :
    Calls Tryz.prog 95 #[.slice A n c, .slice A' m c'] w fun e w' => e = .returned (.bool (decide ((List.range n).map C = (List.range m).map C'))) ∧ Below w.heap.size w w' := by
  by_cases hnm : n = m
  · subst hnm
    have HA := Lib.hid hA
    have HA' := Lib.hid hA'
    clear hA hA'
    go_enter Tryz.func95, Tryz.ntmps95
    go_wp2
    go_loopw [13] (fun i wr => ∃ q : Nat, q ≤ n ∧ i = .int .i64 q ∧ Hid (Below w.heap.size w wr ∧ ∀ j, j < q → C j = C' j)) (fun i _ => n - (intOf i).toNat)
    case atStart => exact ⟨0, Nat.zero_le _, rfl, Lib.hid ⟨Below.refl _ _, fun j hj => absurd hj (Nat.not_lt_zero _)⟩⟩
    case round =>
      obtain ⟨q, hq, rfl, HI⟩ := hrel
      by_cases hlt : q < n
      · obtain ⟨x, hx⟩ : ∃ x, C q = x := ⟨_, rfl⟩
        obtain ⟨y, hy⟩ : ∃ y, C' q = y := ⟨_, rfl⟩
        obtain ⟨b, o, rfl, c0, c1, c2, c3⟩ := (HA.out.below HI.out.1 (Nat.le_refl _)).four hlt hx
        obtain ⟨b', o', rfl, d0, d1, d2, d3⟩ := (HA'.out.below HI.out.1 (Nat.le_refl _)).four hlt hy
        have HXY := Lib.hid (And.intro hx hy)
        clear hx hy
        have i1 : (0 : Int) ≤ (q : Int) := by omega
        have i2 : (q : Int) < (n : Int) := by omega
        by_cases he : x = y
        · subst he
          obtain ⟨a1, o1, m1, v1⟩ := x
          simp only at c0 c1 c2 c3 d0 d1 d2 d3
          go_wp2_with fail
          go_quiet (fail)
          go_wp2
          exact ⟨⟨q + 1, by omega, by go_num, Lib.hid ⟨bdn HI.out.1 nq, fun j hj => by
            by_cases e : j = q
            · subst e; rw [HXY.out.1, HXY.out.2]
            · exact HI.out.2 j (by omega)⟩⟩, by simp [intOf]; omega⟩
        · have hcs := cd_cases x y
          have HNE := Lib.hid he
          rcases hcs with h | h | ⟨h', h⟩ | ⟨h', h'', h⟩ | ⟨h', h'', h''', h⟩
          · exact absurd h he
          all_goals
            obtain ⟨a1, o1, m1, v1⟩ := x
            obtain ⟨a2, o2, m2, v2⟩ := y
            simp only at c0 c1 c2 c3 d0 d1 d2 d3
            simp only at h
            (try simp only at h')
            (try simp only at h'')
            (try simp only at h''')
            (try subst h')
            (try subst h'')
            (try subst h''')
            clear he
            go_wp2_with fail
            go_quiet (fail)
            go_wp2
            go_ret
            refine ⟨?_, bdn HI.out.1 nq⟩
            rw [decide_eq_false (range_ne hlt (by rw [HXY.out.1, HXY.out.2]; exact HNE.out))]
            rfl
      · obtain rfl : q = n := by omega
        go_wp2
        go_ret
        refine ⟨?_, HI.out.1⟩
        rw [decide_eq_true (List.map_congr_left fun j hj => HI.out.2 j (List.mem_range.1 hj))]
        rfl
  · have hne : ¬ (n : Int) = (m : Int) := by omega
    have hd : ¬ (List.range n).map C = (List.range m).map C' := fun e => hnm (by simpa using congrArg List.length e)
    have HD := Lib.hid hd
    clear hd hA hA'
    go_enter Tryz.func95, Tryz.ntmps95
    go_wp2
    go_ret
    refine ⟨?_, Below.refl _ _⟩
    rw [decide_eq_false HD.out]
    rfl
theorem hides_val (r e : RL) : hides r.val e.val = (decide (e.n = 0) || decide ((List.range e.n).map e.C = (List.range r.n).map r.C)) := by
  unfold hides RL.val
  simp only
  congr 1
  by_cases h : e.n = 0
  · simp [h]
  · simp [h]
set_option maxRecDepth 100000 in
set_option maxHeartbeats 8000000 in
theorem hides_any (r e : RL) (cb : Nat) (w : World) (hn : e.n ≤ 100000) (he : ConA w e.A e.n e.C) (hr : ConA w r.A r.n r.C) (hb : RowC w cb (rulA r.nm r.k r.u r.A r.n r.c) 57) :
    Calls Tryz.prog 122 #[.agg (rulA e.nm e.k e.u e.A e.n e.c), .pointer (some ⟨cb, 0, none⟩)] w fun x w' => x = .returned (.bool (hides r.val e.val)) ∧ Below w.heap.size w w' := by
  obtain ⟨W0, hW0⟩ : ∃ W, w.alloc (.cells (rulA e.nm e.k e.u e.A e.n e.c) 57) = W := ⟨_, rfl⟩
  have hB0 : Below w.heap.size w W0 := by rw [← hW0]; exact (Below.refl _ _).alloc (Nat.le_refl _) _
  have hP0 : RowC W0 w.heap.size (rulA e.nm e.k e.u e.A e.n e.c) 57 := by rw [← hW0]; exact RowC.new _ _ _ _ rfl
  have hb0 := hb.below hB0 hb.lt
  have HEQ := Lib.hid (eqConds_any e.A r.A e.n e.c r.n r.c e.C r.C W0 hn (he.below hB0 (Nat.le_refl _)) (hr.below hB0 (Nat.le_refl _)))
  have HV := Lib.hid (hides_val r e)
  have p2 := hP0.cell 3 (.slice e.A e.n e.c) rfl
  have r2 := hb0.cell 3 (.slice r.A r.n r.c) rfl
  have HB0 := Lib.hid hB0
  have HW := Lib.hid hW0
  clear he hr hb hW0 hB0 hP0 hb0
  by_cases h0 : e.n = 0
  · have q0 : ((e.n : Int) == 0) = true := by simp [h0]
    have HZ := Lib.hid h0
    clear h0
    go_enter Tryz.func122, Tryz.ntmps122
    go_upto_region 1 with fail
    rw [HW.out]
    go_wp2
    go_ret
    refine ⟨?_, HB0.out⟩
    rw [HV.out, decide_eq_true HZ.out]
    rfl
  · have q0 : ((e.n : Int) == 0) = false := by simp [h0]
    have HZ := Lib.hid h0
    clear h0
    go_enter Tryz.func122, Tryz.ntmps122
    go_upto_region 1 with fail
    rw [HW.out]
    go_wp2_with fail
    refine HEQ.out.mono ?_
    rintro x w2 ⟨rfl, hB2⟩
    go_wp2
    go_ret
    refine ⟨?_, HB0.out.trans (hB2.mono HB0.out.size)⟩
    rw [HV.out, decide_eq_false HZ.out]
    rfl
set_option maxRecDepth 100000 in
set_option maxHeartbeats 8000000 in
theorem idxRules_any (A : Option Addr) (l : List RL) (c cb : Nat) (r : RL) (w : World) (hl : RlL w A l) (hn : l.length ≤ 1000) (h12 : ∀ e ∈ l, e.n ≤ 100000) (hr : ConA w r.A r.n r.C) (hb : RowC w cb (rulA r.nm r.k r.u r.A r.n r.c) 57) :
    Calls Tryz.prog 66 #[.slice A l.length c, .func (.func 122) #[] #[.pointer (some ⟨cb, 0, none⟩)]] w fun e w' => (∃ i : Int, e = .returned (.int .i64 i) ∧ decide (i ≥ 0) = l.any fun e => hides r.val e.val) ∧ Below w.heap.size w w' := by
  obtain ⟨n, hnl⟩ : ∃ n, l.length = n := ⟨_, rfl⟩
  have HNL := Lib.hid hnl
  have HL := Lib.hid hl
  have HH := Lib.hid fun (e : RL) (he : e ∈ l) X (hX : Below w.heap.size w X) => hides_any r e cb X (h12 e he) (((hl.2 e he).2.2.2.2.2.keep (KeepC.of_below hX (Nat.le_refl _))).conA) (hr.below hX (Nat.le_refl _)) (hb.below hX hb.lt)
  rw [hnl] at hn ⊢
  clear hnl hl hr hb h12
  go_enter Tryz.func66, Tryz.ntmps66
  go_wp2
  go_loopw [8] (fun i wr => ∃ q : Nat, q ≤ n ∧ i = .int .i64 q ∧ Hid (Below w.heap.size w wr ∧ ∀ e ∈ l.take q, hides r.val e.val = false)) (fun i _ => n - (intOf i).toNat)
  case atStart => exact ⟨0, Nat.zero_le _, rfl, Lib.hid ⟨Below.refl _ _, fun e he => by cases he⟩⟩
  case round =>
    obtain ⟨q, hq, rfl, HI⟩ := hrel
    by_cases hlt : q < n
    · have hlq : q < l.length := by rw [HNL.out]; exact hlt
      have hmem : l[q]! ∈ l := by rw [getElem!_pos l q hlq]; exact List.getElem_mem hlq
      rcases (HL.out.below HI.out.1 (Nat.le_refl _)).1 with h0 | ⟨bb, o, rfl, hbl, hcs⟩
      · rw [h0] at hlq; exact absurd hlq (Nat.not_lt_zero _)
      obtain ⟨q0, q1, q2, q3⟩ := hcs q hlq
      obtain ⟨e, he⟩ : ∃ e, l[q]! = e := ⟨_, rfl⟩
      rw [he] at q0 q1 q2 q3 hmem
      rw [Nat.add_zero] at q0
      have HTK := Lib.hid (show l.take (q + 1) = l.take q ++ [e] by rw [List.take_add_one, List.getElem?_eq_getElem hlq, ← he, getElem!_pos l q hlq]; rfl)
      have HHE := Lib.hid fun X hX => HH.out e hmem X hX
      have i1 : (0 : Int) ≤ (q : Int) := by omega
      have i2 : (q : Int) < (n : Int) := by omega
      have HM := Lib.hid hmem
      obtain ⟨bv0, hbv⟩ : ∃ bv0, hides r.val e.val = bv0 := ⟨_, rfl⟩
      rw [hbv] at HHE
      clear hcs he hmem hlq
      cases bv0 with
      | false =>
        go_wp2_with (go_at_call 122; refine (HHE.out _ HI.out.1).mono ?_; rintro x w2 ⟨rfl, hB2⟩)
        exact ⟨⟨q + 1, by omega, by go_num, Lib.hid ⟨HI.out.1.trans (hB2.mono HI.out.1.size), fun e9 he9 => by
          rw [HTK.out] at he9
          rcases List.mem_append.1 he9 with h | h
          · exact HI.out.2 e9 h
          · rw [List.mem_singleton] at h; subst h; exact hbv⟩⟩, by simp [intOf]; omega⟩
      | true =>
        go_wp2_with (go_at_call 122; refine (HHE.out _ HI.out.1).mono ?_; rintro x w2 ⟨rfl, hB2⟩)
        go_ret
        refine ⟨⟨q, rfl, ?_⟩, HI.out.1.trans (hB2.mono HI.out.1.size)⟩
        rw [decide_eq_true (by omega)]
        exact (List.any_eq_true.2 ⟨e, HM.out, hbv⟩).symm
    · obtain rfl : q = n := by omega
      have htk : l.take q = l := List.take_of_length_le (by rw [HNL.out]; exact Nat.le_refl _)
      have HTK := Lib.hid htk
      clear htk
      go_wp2
      go_ret
      refine ⟨⟨-1, rfl, ?_⟩, HI.out.1⟩
      have h2 := HI.out.2
      rw [HTK.out] at h2
      rw [decide_eq_false (by omega)]
      exact (List.any_eq_false.2 fun e he => by rw [h2 e he]; simp).symm
set_option maxRecDepth 100000 in
set_option maxHeartbeats 8000000 in
theorem hasRule_any (A : Option Addr) (l : List RL) (c cb : Nat) (r : RL) (w : World) (hl : RlL w A l) (hn : l.length ≤ 1000) (h12 : ∀ e ∈ l, e.n ≤ 100000) (hr : ConA w r.A r.n r.C) (hb : RowC w cb (rulA r.nm r.k r.u r.A r.n r.c) 57) :
    Calls Tryz.prog 123 #[.slice A l.length c, .func (.func 122) #[] #[.pointer (some ⟨cb, 0, none⟩)]] w fun e w' => e = .returned (.bool (l.any fun e => hides r.val e.val)) ∧ Below w.heap.size w w' := by
  have HX := Lib.hid (idxRules_any A l c cb r w hl hn h12 hr hb)
  clear hl hr hb h12
  go_enter Tryz.func123, Tryz.ntmps123
  go_wp2_with fail
  refine HX.out.mono ?_
  rintro e w2 ⟨⟨i, rfl, hi⟩, hB⟩
  go_wp2
  go_ret
  exact ⟨by rw [← hi]; rfl, hB⟩
set_option maxRecDepth 100000 in
set_option maxHeartbeats 8000000 in
theorem unhidden_any (A : Option Addr) (l : List RL) (c : Nat) (w : World) (hl : RlL w A l) (hn : l.length ≤ 1000) (h12 : ∀ e ∈ l, e.n ≤ 100000) :
    Calls Tryz.prog 79 #[.slice A l.length c] w fun e w' => ∃ A' c' ks, e = .returned (.slice A' (ks : List RL).length c') ∧ RowL w' w.heap.size A' ks c' ∧ ks.map RL.val = unh (l.map RL.val) ∧ (∀ e ∈ ks, e ∈ l) ∧ ks.length ≤ l.length ∧ Below w.heap.size w w' := by
  obtain ⟨n, hnl⟩ : ∃ n, l.length = n := ⟨_, rfl⟩
  have HNL := Lib.hid hnl
  have HL := Lib.hid hl
  have H12 := Lib.hid h12
  rw [hnl] at hn ⊢
  clear hnl hl h12
  go_enter Tryz.func79, Tryz.ntmps79
  go_wp2
  go_loopw [3, 9] (fun s i wr => ∃ (q : Nat) (A' : Option Addr) (c' : Nat) (ks : List RL), q ≤ n ∧ s = .slice A' ks.length c' ∧ i = .int .i64 q ∧ Hid (RowL wr w.heap.size A' ks c' ∧ ks.map RL.val = unh ((l.take q).map RL.val) ∧ ks.length ≤ q ∧ Below w.heap.size w wr ∧ ∀ e ∈ ks, e ∈ l)) (fun _ i _ => n - (intOf i).toNat)
  case atStart => exact ⟨0, none, 0, [], Nat.zero_le _, rfl, rfl, Lib.hid ⟨RowL.nil_ _ _, rfl, Nat.le_refl _, Below.refl _ _, fun e h => by cases h⟩⟩
  case round =>
    obtain ⟨q, A', c', ks, hq, rfl, rfl, HI⟩ := hrel
    by_cases hlt : q < n
    · have hlq : q < l.length := by rw [HNL.out]; exact hlt
      have hws := HI.out.2.2.2.1.size
      have hRr := HL.out.below HI.out.2.2.2.1 (Nat.le_refl _)
      have hmem : l[q]! ∈ l := by rw [getElem!_pos l q hlq]; exact List.getElem_mem hlq
      have hru := hRr.2 _ hmem
      rcases hRr.1 with h0 | ⟨bb, o, rfl, hbl, hcs⟩
      · rw [h0] at hlq; exact absurd hlq (Nat.not_lt_zero _)
      obtain ⟨q0, q1, q2, q3⟩ := hcs q hlq
      obtain ⟨r, hr⟩ : ∃ r, l[q]! = r := ⟨_, rfl⟩
      rw [hr] at q0 q1 q2 q3 hru
      rw [Nat.add_zero] at q0
      have HTK := Lib.hid (show (l.take (q + 1)).map RL.val = (l.take q).map RL.val ++ [r.val] by rw [List.take_add_one, List.getElem?_eq_getElem hlq, List.map_append, ← hr, getElem!_pos l q hlq]; rfl)
      obtain ⟨W1, hW1⟩ : ∃ W, wr.alloc (.cells (rulA r.nm r.k r.u r.A r.n r.c) 57) = W := ⟨_, rfl⟩
      have hB1 : Below wr.heap.size wr W1 := by rw [← hW1]; exact (Below.refl _ _).alloc (Nat.le_refl _) _
      have hP1 : RowC W1 wr.heap.size (rulA r.nm r.k r.u r.A r.n r.c) 57 := by rw [← hW1]; exact RowC.new _ _ _ _ rfl
      have hru1 := hru.keep (KeepC.of_below hB1 (Nat.le_refl _))
      have hks1 := HI.out.1.below hB1 (Nat.le_refl _)
      have HHAS := Lib.hid (hasRule_any A' ks c' wr.heap.size r W1 hks1.rl (by have := HI.out.2.2.1; omega) (fun e he => H12.out e (HI.out.2.2.2.2 e he)) hru1.2.2.2.2.2.conA hP1)
      have hany : (ks.any fun e => hides r.val e.val) = (unh ((l.take q).map RL.val)).any (hides r.val) := by rw [← HI.out.2.1, List.any_map]; rfl
      have HM := Lib.hid (show r ∈ l by rw [← hr]; exact hmem)
      have HUS := Lib.hid (unh_snoc ((l.take q).map RL.val) r.val)
      have HANY := Lib.hid hany
      have HRU1 := Lib.hid hru1
      have HKS1 := Lib.hid hks1
      have HP1 := Lib.hid hP1
      have HB1 := Lib.hid hB1
      have i1 : (0 : Int) ≤ (q : Int) := by omega
      have i2 : (q : Int) < (n : Int) := by omega
      obtain ⟨bv0, hbv⟩ : ∃ bv0, (ks.any fun e => hides r.val e.val) = bv0 := ⟨_, rfl⟩
      rw [hbv] at HHAS
      have HBV := Lib.hid hbv
      have HW1 := Lib.hid hW1
      clear hcs hr hmem hlq hru hRr hW1 hB1 hP1 hru1 hks1 hany hbv
      go_wp2_with fail
      rw [HW1.out]
      refine HHAS.out.mono ?_
      rintro e w2 ⟨rfl, hB2⟩
      have HB2 := Lib.hid hB2
      have hs2 := hB2.size
      have hs1 := HB1.out.size
      have hP2 := HP1.out.below hB2 HP1.out.lt
      have p0 := hP2.cell 0 (.string r.nm) rfl
      have p1 := hP2.cell 1 (.int .i64 r.k) rfl
      have p2 := hP2.cell 2 (.int .i64 r.u) rfl
      have p3 := hP2.cell 3 (.slice r.A r.n r.c) rfl
      clear hB2 hP2
      cases bv0 with
      | true =>
        go_wp2
        exact ⟨⟨q + 1, A', c', ks, by omega, rfl, by go_num, Lib.hid ⟨HKS1.out.below HB2.out (Nat.le_refl _), by rw [HTK.out, HUS.out]; unfold unhF; rw [← HANY.out, HBV.out]; exact HI.out.2.1, by have := HI.out.2.2.1; omega, HI.out.2.2.2.1.trans ((HB1.out.trans (HB2.out.mono hs1)).mono hws), HI.out.2.2.2.2⟩⟩, by simp [intOf]; omega⟩
      | false =>
        go_wp2_with (refine app_rule rfl _ _ rfl (by rfl) ((HKS1.out.below HB2.out (Nat.le_refl _)).alloc _) (r := r) (by rfl) (RowC.new _ _ _ _ (by rfl)) ((HRU1.out.keep (KeepC.of_below HB2.out (Nat.le_refl _))).keep ((KeepC.refl _).alloc _)) (by have := HI.out.2.2.1; omega) (by simp; omega) ?_; intro g2 c2 w3 hown3 _ _ _ hB3)
        exact ⟨⟨q + 1, some ⟨g2, 0, none⟩, c2, ks ++ [r], by omega, by simp, by go_num, Lib.hid ⟨hown3, by rw [List.map_append, HTK.out, HUS.out]; unfold unhF; rw [← HANY.out, HBV.out, HI.out.2.1]; rfl, by have := HI.out.2.2.1; simp; omega, HI.out.2.2.2.1.trans ((((HB1.out.trans (HB2.out.mono hs1)).mono hws).alloc (by omega) _).trans hB3), fun e he => by
          rcases List.mem_append.1 he with h | h
          · exact HI.out.2.2.2.2 e h
          · rw [List.mem_singleton] at h; subst h; exact HM.out⟩⟩, by simp [intOf]; omega⟩
    · obtain rfl : q = n := by omega
      have htk : l.take q = l := List.take_of_length_le (by rw [HNL.out]; exact Nat.le_refl _)
      have HTK := Lib.hid htk
      clear htk
      go_wp2
      go_ret
      exact ⟨A', c', ks, rfl, HI.out.1, by rw [HI.out.2.1, HTK.out], HI.out.2.2.2.2, HI.out.2.2.1, HI.out.2.2.2.1⟩
end Go.Proofs.YtcmdmnnkbliggaaGreatDoor
