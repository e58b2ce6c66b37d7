/-
  Layer 16: slices.Equal at conditions; norm.unhidden.
-/
import Derived.Test.YtcmdmnnkbliggaaGreatDoorP7
import Derived.Test.YtcmdmnnkbliggaaGreatDoorRgp
import Derived.Test.YtcmdmnnkbliggaaGreatDoorRskp
import Derived.Maps.AppendAt
namespace Go.Proofs.YtcmdmnnkbliggaaGreatDoor
open Go.RowKit Go.Shelf
set_option linter.unusedVariables false

theorem cd_cases (x y : CD) : x = y ∨ (x.a == y.a) = false ∨ (x.a = y.a ∧ (x.o == y.o) = false) ∨ (x.a = y.a ∧ x.o = y.o ∧ (((x.m : Nat) : Int) == ((y.m : Nat) : Int)) = false) ∨ (x.a = y.a ∧ x.o = y.o ∧ x.m = y.m ∧ (((x.v : Nat) : Int) == ((y.v : Nat) : Int)) = false) := by
  obtain ⟨a, o, m, v⟩ := x
  obtain ⟨a', o', m', v'⟩ := y
  simp only [beq_eq_false_iff_ne, ne_eq, Int.ofNat_inj, CD.mk.injEq]
  by_cases h1 : a = a'
  · by_cases h2 : o = o'
    · by_cases h3 : m = m'
      · by_cases h4 : v = v'
        · left; exact ⟨h1, h2, h3, h4⟩
        · exact .inr (.inr (.inr (.inr ⟨h1, h2, h3, h4⟩)))
      · exact .inr (.inr (.inr (.inl ⟨h1, h2, h3⟩)))
    · exact .inr (.inr (.inl ⟨h1, h2⟩))
  · exact .inr (.inl h1)
theorem ConA.four {w : World} {A : Option Addr} {n : Nat} {C : Nat → CD} (h : ConA w A n C) {i : Nat} (hi : i < n) {x : CD} (hx : C i = x) : ∃ b o, A = some ⟨b, o, none⟩ ∧
    w.cell? ⟨b, o + i * 4, none⟩ = some (.int .i64 x.a) ∧ w.cell? ⟨b, o + i * 4 + 1, none⟩ = some (.int .i64 x.o) ∧ w.cell? ⟨b, o + i * 4 + 2, none⟩ = some (.int .u64 x.m) ∧ w.cell? ⟨b, o + i * 4 + 3, none⟩ = some (.int .u64 x.v) := by
  subst hx
  rcases h with h0 | ⟨b, o, rfl, _, hc⟩
  · omega
  · obtain ⟨h0, h1, h2, h3, _⟩ := hc i hi
    rw [Nat.add_zero] at h0
    exact ⟨b, o, rfl, h0, h1, h2, h3⟩
theorem range_ne {C C' : Nat → CD} {n q : Nat} (hq : q < n) (h : C q ≠ C' q) : (List.range n).map C ≠ (List.range n).map C' := fun e => h (by
  have := congrArg (fun l : List CD => l[q]?) e
  simpa [hq] using this)
set_option maxRecDepth 100000 in
set_option maxHeartbeats 8000000 in
theorem eqConds_any (A A' : Option Addr) (n c m c' : Nat) (C C' : Nat → CD) (w : World) (hn : n ≤ 100000) (hA : ConA w A n C) (hA' : ConA w A' m C') :
    Calls Tryz.prog 95 #[.slice A n c, .slice A' m c'] w fun e w' => e = .returned (.bool (decide ((List.range n).map C = (List.range m).map C'))) ∧ Below w.heap.size w w' := by
  by_cases hnm : n = m
  · subst hnm
    have HA := Lib.hid hA
    have HA' := Lib.hid hA'
    clear hA hA'
    go_enter Tryz.func95, Tryz.ntmps95
    go_wp2
    go_loopw [13] (fun i wr => ∃ q : Nat, q ≤ n ∧ i = .int .i64 q ∧ Hid (Below w.heap.size w wr ∧ ∀ j, j < q → C j = C' j)) (fun i _ => n - (intOf i).toNat)
    case atStart => exact ⟨0, Nat.zero_le _, rfl, Lib.hid ⟨Below.refl _ _, fun j hj => absurd hj (Nat.not_lt_zero _)⟩⟩
    case round =>
      obtain ⟨q, hq, rfl, HI⟩ := hrel
      by_cases hlt : q < n
      · obtain ⟨x, hx⟩ : ∃ x, C q = x := ⟨_, rfl⟩
        obtain ⟨y, hy⟩ : ∃ y, C' q = y := ⟨_, rfl⟩
        obtain ⟨b, o, rfl, c0, c1, c2, c3⟩ := (HA.out.below HI.out.1 (Nat.le_refl _)).four hlt hx
        obtain ⟨b', o', rfl, d0, d1, d2, d3⟩ := (HA'.out.below HI.out.1 (Nat.le_refl _)).four hlt hy
        have HXY := Lib.hid (And.intro hx hy)
        clear hx hy
        have i1 : (0 : Int) ≤ (q : Int) := by omega
        have i2 : (q : Int) < (n : Int) := by omega
        by_cases he : x = y
        · subst he
          obtain ⟨a1, o1, m1, v1⟩ := x
          simp only at c0 c1 c2 c3 d0 d1 d2 d3
          go_wp2_with fail
          go_quiet (fail)
          go_wp2
          exact ⟨⟨q + 1, by omega, by go_num, Lib.hid ⟨bdn HI.out.1 nq, fun j hj => by
            by_cases e : j = q
            · subst e; rw [HXY.out.1, HXY.out.2]
            · exact HI.out.2 j (by omega)⟩⟩, by simp [intOf]; omega⟩
        · have hcs := cd_cases x y
          have HNE := Lib.hid he
          rcases hcs with h | h | ⟨h', h⟩ | ⟨h', h'', h⟩ | ⟨h', h'', h''', h⟩
          · exact absurd h he
          all_goals
            obtain ⟨a1, o1, m1, v1⟩ := x
            obtain ⟨a2, o2, m2, v2⟩ := y
            simp only at c0 c1 c2 c3 d0 d1 d2 d3
            simp only at h
            (try simp only at h')
            (try simp only at h'')
            (try simp only at h''')
            (try subst h')
            (try subst h'')
            (try subst h''')
            clear he
            go_wp2_with fail
            go_quiet (fail)
            go_wp2
            go_ret
            refine ⟨?_, bdn HI.out.1 nq⟩
            rw [decide_eq_false (range_ne hlt (by rw [HXY.out.1, HXY.out.2]; exact HNE.out))]
            rfl
      · obtain rfl : q = n := by omega
        go_wp2
        go_ret
        refine ⟨?_, HI.out.1⟩
        rw [decide_eq_true (List.map_congr_left fun j hj => HI.out.2 j (List.mem_range.1 hj))]
        rfl
  · have hne : ¬ (n : Int) = (m : Int) := by omega
    have hd : ¬ (List.range n).map C = (List.range m).map C' := fun e => hnm (by simpa using congrArg List.length e)
    have HD := Lib.hid hd
    clear hd hA hA'
    go_enter Tryz.func95, Tryz.ntmps95
    go_wp2
    go_ret
    refine ⟨?_, Below.refl _ _⟩
    rw [decide_eq_false HD.out]
    rfl
theorem hides_val (r e : RL) : hides r.val e.val = (decide (e.n = 0) || decide ((List.range e.n).map e.C = (List.range r.n).map r.C)) := by
  unfold hides RL.val
  simp only
  congr 1
  by_cases h : e.n = 0
  · simp [h]
  · simp [h]
set_option maxRecDepth 100000 in
set_option maxHeartbeats 8000000 in
theorem hides_any (r e : RL) (cb : Nat) (w : World) (hn : e.n ≤ 100000) (he : ConA w e.A e.n e.C) (hr : ConA w r.A r.n r.C) (hb : RowC w cb (rulA r.nm r.k r.u r.A r.n r.c) 57) :
    Calls Tryz.prog 122 #[.agg (rulA e.nm e.k e.u e.A e.n e.c), .pointer (some ⟨cb, 0, none⟩)] w fun x w' => x = .returned (.bool (hides r.val e.val)) ∧ Below w.heap.size w w' := by
  obtain ⟨W0, hW0⟩ : ∃ W, w.alloc (.cells (rulA e.nm e.k e.u e.A e.n e.c) 57) = W := ⟨_, rfl⟩
  have hB0 : Below w.heap.size w W0 := by rw [← hW0]; exact (Below.refl _ _).alloc (Nat.le_refl _) _
  have hP0 : RowC W0 w.heap.size (rulA e.nm e.k e.u e.A e.n e.c) 57 := by rw [← hW0]; exact RowC.new _ _ _ _ rfl
  have hb0 := hb.below hB0 hb.lt
  have HEQ := Lib.hid (eqConds_any e.A r.A e.n e.c r.n r.c e.C r.C W0 hn (he.below hB0 (Nat.le_refl _)) (hr.below hB0 (Nat.le_refl _)))
  have HV := Lib.hid (hides_val r e)
  have p2 := hP0.cell 3 (.slice e.A e.n e.c) rfl
  have r2 := hb0.cell 3 (.slice r.A r.n r.c) rfl
  have HB0 := Lib.hid hB0
  have HW := Lib.hid hW0
  clear he hr hb hW0 hB0 hP0 hb0
  by_cases h0 : e.n = 0
  · have q0 : ((e.n : Int) == 0) = true := by simp [h0]
    have HZ := Lib.hid h0
    clear h0
    go_enter Tryz.func122, Tryz.ntmps122
    go_upto_region 1 with fail
    rw [HW.out]
    go_wp2
    go_ret
    refine ⟨?_, HB0.out⟩
    rw [HV.out, decide_eq_true HZ.out]
    rfl
  · have q0 : ((e.n : Int) == 0) = false := by simp [h0]
    have HZ := Lib.hid h0
    clear h0
    go_enter Tryz.func122, Tryz.ntmps122
    go_upto_region 1 with fail
    rw [HW.out]
    go_wp2_with fail
    refine HEQ.out.mono ?_
    rintro x w2 ⟨rfl, hB2⟩
    go_wp2
    go_ret
    refine ⟨?_, HB0.out.trans (hB2.mono HB0.out.size)⟩
    rw [HV.out, decide_eq_false HZ.out]
    rfl
set_option maxRecDepth 100000 in
set_option maxHeartbeats 8000000 in
theorem idxRules_any (A : Option Addr) (l : List RL) (c cb : Nat) (r : RL) (w : World) (hl : RlL w A l) (hn : l.length ≤ 1000) (h12 : ∀ e ∈ l, e.n ≤ 100000) (hr : ConA w r.A r.n r.C) (hb : RowC w cb (rulA r.nm r.k r.u r.A r.n r.c) 57) :
    Calls Tryz.prog 66 #[.slice A l.length c, .func (.func 122) #[] #[.pointer (some ⟨cb, 0, none⟩)]] w fun e w' => (∃ i : Int, e = .returned (.int .i64 i) ∧ decide (i ≥ 0) = l.any fun e => hides r.val e.val) ∧ Below w.heap.size w w' := by
  obtain ⟨n, hnl⟩ : ∃ n, l.length = n := ⟨_, rfl⟩
  have HNL := Lib.hid hnl
  have HL := Lib.hid hl
  have HH := Lib.hid fun (e : RL) (he : e ∈ l) X (hX : Below w.heap.size w X) => hides_any r e cb X (h12 e he) (((hl.2 e he).2.2.2.2.2.keep (KeepC.of_below hX (Nat.le_refl _))).conA) (hr.below hX (Nat.le_refl _)) (hb.below hX hb.lt)
  rw [hnl] at hn ⊢
  clear hnl hl hr hb h12
  go_enter Tryz.func66, Tryz.ntmps66
  go_wp2
  go_loopw [8] (fun i wr => ∃ q : Nat, q ≤ n ∧ i = .int .i64 q ∧ Hid (Below w.heap.size w wr ∧ ∀ e ∈ l.take q, hides r.val e.val = false)) (fun i _ => n - (intOf i).toNat)
  case atStart => exact ⟨0, Nat.zero_le _, rfl, Lib.hid ⟨Below.refl _ _, fun e he => by cases he⟩⟩
  case round =>
    obtain ⟨q, hq, rfl, HI⟩ := hrel
    by_cases hlt : q < n
    · have hlq : q < l.length := by rw [HNL.out]; exact hlt
      have hmem : l[q]! ∈ l := by rw [getElem!_pos l q hlq]; exact List.getElem_mem hlq
      rcases (HL.out.below HI.out.1 (Nat.le_refl _)).1 with h0 | ⟨bb, o, rfl, hbl, hcs⟩
      · rw [h0] at hlq; exact absurd hlq (Nat.not_lt_zero _)
      obtain ⟨q0, q1, q2, q3⟩ := hcs q hlq
      obtain ⟨e, he⟩ : ∃ e, l[q]! = e := ⟨_, rfl⟩
      rw [he] at q0 q1 q2 q3 hmem
      rw [Nat.add_zero] at q0
      have HTK := Lib.hid (show l.take (q + 1) = l.take q ++ [e] by rw [List.take_add_one, List.getElem?_eq_getElem hlq, ← he, getElem!_pos l q hlq]; rfl)
      have HHE := Lib.hid fun X hX => HH.out e hmem X hX
      have i1 : (0 : Int) ≤ (q : Int) := by omega
      have i2 : (q : Int) < (n : Int) := by omega
      have HM := Lib.hid hmem
      obtain ⟨bv0, hbv⟩ : ∃ bv0, hides r.val e.val = bv0 := ⟨_, rfl⟩
      rw [hbv] at HHE
      clear hcs he hmem hlq
      cases bv0 with
      | false =>
        go_wp2_with (go_at_call 122; refine (HHE.out _ HI.out.1).mono ?_; rintro x w2 ⟨rfl, hB2⟩)
        exact ⟨⟨q + 1, by omega, by go_num, Lib.hid ⟨HI.out.1.trans (hB2.mono HI.out.1.size), fun e9 he9 => by
          rw [HTK.out] at he9
          rcases List.mem_append.1 he9 with h | h
          · exact HI.out.2 e9 h
          · rw [List.mem_singleton] at h; subst h; exact hbv⟩⟩, by simp [intOf]; omega⟩
      | true =>
        go_wp2_with (go_at_call 122; refine (HHE.out _ HI.out.1).mono ?_; rintro x w2 ⟨rfl, hB2⟩)
        go_ret
        refine ⟨⟨q, rfl, ?_⟩, HI.out.1.trans (hB2.mono HI.out.1.size)⟩
        rw [decide_eq_true (by omega)]
        exact (List.any_eq_true.2 ⟨e, HM.out, hbv⟩).symm
    · obtain rfl : q = n := by omega
      have htk : l.take q = l := List.take_of_length_le (by rw [HNL.out]; exact Nat.le_refl _)
      have HTK := Lib.hid htk
      clear htk
      go_wp2
      go_ret
      refine ⟨⟨-1, rfl, ?_⟩, HI.out.1⟩
      have h2 := HI.out.2
      rw [HTK.out] at h2
      rw [decide_eq_false (by omega)]
      exact (List.any_eq_false.2 fun e he => by rw [h2 e he]; simp).symm
set_option maxRecDepth 100000 in
set_option maxHeartbeats 8000000 in
theorem hasRule_any (A : Option Addr) (l : List RL) (c cb : Nat) (r : RL) (w : World) (hl : RlL w A l) (hn : l.length ≤ 1000) (h12 : ∀ e ∈ l, e.n ≤ 100000) (hr : ConA w r.A r.n r.C) (hb : RowC w cb (rulA r.nm r.k r.u r.A r.n r.c) 57) :
    Calls Tryz.prog 123 #[.slice A l.length c, .func (.func 122) #[] #[.pointer (some ⟨cb, 0, none⟩)]] w fun e w' => e = .returned (.bool (l.any fun e => hides r.val e.val)) ∧ Below w.heap.size w w' := by
  have HX := Lib.hid (idxRules_any A l c cb r w hl hn h12 hr hb)
  clear hl hr hb h12
  go_enter Tryz.func123, Tryz.ntmps123
  go_wp2_with fail
  refine HX.out.mono ?_
  rintro e w2 ⟨⟨i, rfl, hi⟩, hB⟩
  go_wp2
  go_ret
  exact ⟨by rw [← hi]; rfl, hB⟩
set_option maxRecDepth 100000 in
set_option maxHeartbeats 8000000 in
theorem unhidden_any (A : Option Addr) (l : List RL) (c : Nat) (w : World) (hl : RlL w A l) (hn : l.length ≤ 1000) (h12 : ∀ e ∈ l, e.n ≤ 100000) :
    Calls Tryz.prog 79 #[.slice A l.length c] w fun e w' => ∃ A' c' ks, e = .returned (.slice A' (ks : List RL).length c') ∧ RowL w' w.heap.size A' ks c' ∧ ks.map RL.val = unh (l.map RL.val) ∧ (∀ e ∈ ks, e ∈ l) ∧ ks.length ≤ l.length ∧ Below w.heap.size w w' := by
  obtain ⟨n, hnl⟩ : ∃ n, l.length = n := ⟨_, rfl⟩
  have HNL := Lib.hid hnl
  have HL := Lib.hid hl
  have H12 := Lib.hid h12
  rw [hnl] at hn ⊢
  clear hnl hl h12
  go_enter Tryz.func79, Tryz.ntmps79
  go_wp2
  go_loopw [3, 9] (fun s i wr => ∃ (q : Nat) (A' : Option Addr) (c' : Nat) (ks : List RL), q ≤ n ∧ s = .slice A' ks.length c' ∧ i = .int .i64 q ∧ Hid (RowL wr w.heap.size A' ks c' ∧ ks.map RL.val = unh ((l.take q).map RL.val) ∧ ks.length ≤ q ∧ Below w.heap.size w wr ∧ ∀ e ∈ ks, e ∈ l)) (fun _ i _ => n - (intOf i).toNat)
  case atStart => exact ⟨0, none, 0, [], Nat.zero_le _, rfl, rfl, Lib.hid ⟨RowL.nil_ _ _, rfl, Nat.le_refl _, Below.refl _ _, fun e h => by cases h⟩⟩
  case round =>
    obtain ⟨q, A', c', ks, hq, rfl, rfl, HI⟩ := hrel
    by_cases hlt : q < n
    · have hlq : q < l.length := by rw [HNL.out]; exact hlt
      have hws := HI.out.2.2.2.1.size
      have hRr := HL.out.below HI.out.2.2.2.1 (Nat.le_refl _)
      have hmem : l[q]! ∈ l := by rw [getElem!_pos l q hlq]; exact List.getElem_mem hlq
      have hru := hRr.2 _ hmem
      rcases hRr.1 with h0 | ⟨bb, o, rfl, hbl, hcs⟩
      · rw [h0] at hlq; exact absurd hlq (Nat.not_lt_zero _)
      obtain ⟨q0, q1, q2, q3⟩ := hcs q hlq
      obtain ⟨r, hr⟩ : ∃ r, l[q]! = r := ⟨_, rfl⟩
      rw [hr] at q0 q1 q2 q3 hru
      rw [Nat.add_zero] at q0
      have HTK := Lib.hid (show (l.take (q + 1)).map RL.val = (l.take q).map RL.val ++ [r.val] by rw [List.take_add_one, List.getElem?_eq_getElem hlq, List.map_append, ← hr, getElem!_pos l q hlq]; rfl)
      obtain ⟨W1, hW1⟩ : ∃ W, wr.alloc (.cells (rulA r.nm r.k r.u r.A r.n r.c) 57) = W := ⟨_, rfl⟩
      have hB1 : Below wr.heap.size wr W1 := by rw [← hW1]; exact (Below.refl _ _).alloc (Nat.le_refl _) _
      have hP1 : RowC W1 wr.heap.size (rulA r.nm r.k r.u r.A r.n r.c) 57 := by rw [← hW1]; exact RowC.new _ _ _ _ rfl
      have hru1 := hru.keep (KeepC.of_below hB1 (Nat.le_refl _))
      have hks1 := HI.out.1.below hB1 (Nat.le_refl _)
      have HHAS := Lib.hid (hasRule_any A' ks c' wr.heap.size r W1 hks1.rl (by have := HI.out.2.2.1; omega) (fun e he => H12.out e (HI.out.2.2.2.2 e he)) hru1.2.2.2.2.2.conA hP1)
      have hany : (ks.any fun e => hides r.val e.val) = (unh ((l.take q).map RL.val)).any (hides r.val) := by rw [← HI.out.2.1, List.any_map]; rfl
      have HM := Lib.hid (show r ∈ l by rw [← hr]; exact hmem)
      have HUS := Lib.hid (unh_snoc ((l.take q).map RL.val) r.val)
      have HANY := Lib.hid hany
      have HRU1 := Lib.hid hru1
      have HKS1 := Lib.hid hks1
      have HP1 := Lib.hid hP1
      have HB1 := Lib.hid hB1
      have i1 : (0 : Int) ≤ (q : Int) := by omega
      have i2 : (q : Int) < (n : Int) := by omega
      obtain ⟨bv0, hbv⟩ : ∃ bv0, (ks.any fun e => hides r.val e.val) = bv0 := ⟨_, rfl⟩
      rw [hbv] at HHAS
      have HBV := Lib.hid hbv
      have HW1 := Lib.hid hW1
      clear hcs hr hmem hlq hru hRr hW1 hB1 hP1 hru1 hks1 hany hbv
      go_wp2_with fail
      rw [HW1.out]
      refine HHAS.out.mono ?_
      rintro e w2 ⟨rfl, hB2⟩
      have HB2 := Lib.hid hB2
      have hs2 := hB2.size
      have hs1 := HB1.out.size
      have hP2 := HP1.out.below hB2 HP1.out.lt
      have p0 := hP2.cell 0 (.string r.nm) rfl
      have p1 := hP2.cell 1 (.int .i64 r.k) rfl
      have p2 := hP2.cell 2 (.int .i64 r.u) rfl
      have p3 := hP2.cell 3 (.slice r.A r.n r.c) rfl
      clear hB2 hP2
      cases bv0 with
      | true =>
        go_wp2
        exact ⟨⟨q + 1, A', c', ks, by omega, rfl, by go_num, Lib.hid ⟨HKS1.out.below HB2.out (Nat.le_refl _), by rw [HTK.out, HUS.out]; unfold unhF; rw [← HANY.out, HBV.out]; exact HI.out.2.1, by have := HI.out.2.2.1; omega, HI.out.2.2.2.1.trans ((HB1.out.trans (HB2.out.mono hs1)).mono hws), HI.out.2.2.2.2⟩⟩, by simp [intOf]; omega⟩
      | false =>
        go_wp2_with (refine app_rule rfl _ _ rfl (by rfl) ((HKS1.out.below HB2.out (Nat.le_refl _)).alloc _) (r := r) (by rfl) (RowC.new _ _ _ _ (by rfl)) ((HRU1.out.keep (KeepC.of_below HB2.out (Nat.le_refl _))).keep ((KeepC.refl _).alloc _)) (by have := HI.out.2.2.1; omega) (by simp; omega) ?_; intro g2 c2 w3 hown3 _ _ _ hB3)
        exact ⟨⟨q + 1, some ⟨g2, 0, none⟩, c2, ks ++ [r], by omega, by simp, by go_num, Lib.hid ⟨hown3, by rw [List.map_append, HTK.out, HUS.out]; unfold unhF; rw [← HANY.out, HBV.out, HI.out.2.1]; rfl, by have := HI.out.2.2.1; simp; omega, HI.out.2.2.2.1.trans ((((HB1.out.trans (HB2.out.mono hs1)).mono hws).alloc (by omega) _).trans hB3), fun e he => by
          rcases List.mem_append.1 he with h | h
          · exact HI.out.2.2.2.2 e h
          · rw [List.mem_singleton] at h; subst h; exact HM.out⟩⟩, by simp [intOf]; omega⟩
    · obtain rfl : q = n := by omega
      have htk : l.take q = l := List.take_of_length_le (by rw [HNL.out]; exact Nat.le_refl _)
      have HTK := Lib.hid htk
      clear htk
      go_wp2
      go_ret
      exact ⟨A', c', ks, rfl, HI.out.1, by rw [HI.out.2.1, HTK.out], HI.out.2.2.2.2, HI.out.2.2.1, HI.out.2.2.2.1⟩
end Go.Proofs.YtcmdmnnkbliggaaGreatDoor

/-
  Layer 16: norm.upToLast; several rules appended; the names of a map, sorted.
-/
namespace Go.Proofs.YtcmdmnnkbliggaaGreatDoor
open Go.RowKit Go.Shelf Go.Maps Go.Sort
set_option linter.unusedVariables false

theorem RlL.take {w : World} {A : Option Addr} {l : List RL} (h : RlL w A l) (m : Nat) : RlL w A (l.take m) := by
  refine ⟨?_, fun r hr => h.2 r (List.mem_of_mem_take hr)⟩
  rcases h.1 with h0 | ⟨b, o, rfl, hl, hc⟩
  · exact .inl (by rw [h0]; simp)
  · refine .inr ⟨b, o, rfl, hl, fun i hi => ?_⟩
    have hi' : i < l.length := by rw [List.length_take] at hi; omega
    have e : (l.take m)[i]! = l[i]! := by
      rw [getElem!_pos (l.take m) i hi, getElem!_pos l i hi', List.getElem_take]
    rw [e]
    exact hc i hi'
theorem act_cases (k u k' u' : Int) : (k = k' ∧ u = u') ∨ (k == k') = false ∨ (k = k' ∧ (u == u') = false) := by
  simp only [beq_eq_false_iff_ne]
  by_cases h1 : k = k'
  · by_cases h2 : u = u'
    · exact .inl ⟨h1, h2⟩
    · exact .inr (.inr ⟨h1, h2⟩)
  · exact .inr (.inl h1)
theorem isAct_no {k u : Int} {r : RV} (h : ¬ (r.k = k ∧ r.u = u)) : isAct k u r = false := by
  unfold isAct
  by_cases h1 : r.k = k
  · by_cases h2 : r.u = u
    · exact absurd ⟨h1, h2⟩ h
    · simp [h2]
  · simp [h1]
set_option maxRecDepth 100000 in
set_option maxHeartbeats 8000000 in
theorem upToLast_any (A : Option Addr) (l : List RL) (c : Nat) (k u : Int) (w : World) (hl : RlL w A l) (hn : l.length ≤ 1000) (hc : l.length ≤ c) :
    Calls Tryz.prog 78 #[.slice A l.length c, .agg #[.int .i64 k, .int .i64 u]] w fun e w' => ∃ m, e = .returned (.slice A m c) ∧ m ≤ l.length ∧ (l.take m).map RL.val = utl k u (l.map RL.val) ∧ Below w.heap.size w w' := by
  obtain ⟨n, hnl⟩ : ∃ n, l.length = n := ⟨_, rfl⟩
  have HNL := Lib.hid hnl
  have HL := Lib.hid hl
  obtain ⟨W0, hW0⟩ : ∃ W, w.alloc (.cells #[.int .i64 k, .int .i64 u] 23) = W := ⟨_, rfl⟩
  have HB0 := Lib.hid (show Below w.heap.size w W0 by rw [← hW0]; exact (Below.refl _ _).alloc (Nat.le_refl _) _)
  have HP0 := Lib.hid (show RowC W0 w.heap.size #[.int .i64 k, .int .i64 u] 23 by rw [← hW0]; exact RowC.new _ _ _ _ rfl)
  have HW := Lib.hid hW0
  have htk : l.take n = l := List.take_of_length_le (by rw [hnl]; exact Nat.le_refl _)
  have HTK := Lib.hid htk
  rw [hnl] at hn hc ⊢
  clear hnl hl hW0 htk
  go_enter Tryz.func78, Tryz.ntmps78
  go_upto_region 1 with fail
  rw [HW.out]
  go_loopw [0] (fun s wr => ∃ m : Nat, m ≤ n ∧ s = .slice A m c ∧ Hid (Below W0.heap.size W0 wr ∧ utl k u ((l.take m).map RL.val) = utl k u (l.map RL.val))) (fun s _ => match s with | .slice _ m _ => m | _ => 0)
  case atStart => exact ⟨n, Nat.le_refl _, rfl, Lib.hid ⟨Below.refl _ _, by rw [HTK.out]⟩⟩
  case round =>
    obtain ⟨m, hm, rfl, HI⟩ := hrel
    by_cases hm0 : m = 0
    · subst hm0
      go_wp2_with fail
      go_quiet (fail)
      go_wp2
      go_ret
      exact ⟨0, rfl, Nat.zero_le _, by have := HI.out.2; rw [List.take_zero] at this ⊢; exact this, bdn (HB0.out.trans (HI.out.1.mono HB0.out.size)) nq⟩
    · have hlq : m - 1 < l.length := by rw [HNL.out]; omega
      rcases (HL.out.below (HB0.out.trans (HI.out.1.mono HB0.out.size)) (Nat.le_refl _)).1 with h0 | ⟨bb, o, rfl, hbl, hcs⟩
      · rw [h0] at hlq; exact absurd hlq (Nat.not_lt_zero _)
      obtain ⟨_, q1, q2, _⟩ := hcs (m - 1) hlq
      obtain ⟨r, hr⟩ : ∃ r, l[m - 1]! = r := ⟨_, rfl⟩
      rw [hr] at q1 q2
      have HSN := Lib.hid (show (l.take m).map RL.val = (l.take (m - 1)).map RL.val ++ [r.val] by
        have e : m = m - 1 + 1 := by omega
        rw [e, List.take_add_one, List.getElem?_eq_getElem hlq, List.map_append, ← hr, getElem!_pos l (m - 1) hlq]
        simp)
      have hP := HP0.out.below HI.out.1 HP0.out.lt
      have p0 := hP.cell 0 (.int .i64 k) rfl
      have p1 := hP.cell 1 (.int .i64 u) rfl
      have HRV := Lib.hid (show r.val.k = r.k ∧ r.val.u = r.u from ⟨rfl, rfl⟩)
      have hac := act_cases r.k r.u k u
      obtain ⟨r0, rk, ru, r3, r4, r5, r6⟩ := r
      have i1 : (0 : Int) < (m : Int) := by omega
      have i0 : decide ((m : Int) > 0) = true := decide_eq_true i1
      have i2 : decide (0 < m) = true := decide_eq_true (by omega)
      have i3 : (0 : Int) ≤ (m : Int) - 1 := by omega
      have i4 : (m : Int) - 1 < (m : Int) := by omega
      have i5 : m - 1 ≤ c := by omega
      clear hcs hr hlq hP
      simp only at q1 q2 hac
      rcases hac with ⟨h1, h2⟩ | h | ⟨h1, h⟩
      · subst h1 h2
        go_wp2_with fail
        go_quiet (fail)
        go_wp2
        exact ⟨⟨m - 1, by omega, by first | rfl | go_num, Lib.hid ⟨bdn HI.out.1 nq, by rw [← HI.out.2, HSN.out, utl_snoc, if_pos (by simp [isAct, RL.val])]⟩⟩, by simp; omega⟩
      · have HN := Lib.hid h
        go_wp2_with fail
        go_quiet (fail)
        go_wp2
        go_ret
        exact ⟨m, rfl, hm, by rw [← HI.out.2, HSN.out, utl_snoc, if_neg (by rw [isAct_no (fun ⟨e, _⟩ => by have := HN.out; simp [RL.val] at e; simp [e] at this)]; simp)], bdn (HB0.out.trans (HI.out.1.mono HB0.out.size)) nq⟩
      · subst h1
        have HN := Lib.hid h
        go_wp2_with fail
        go_quiet (fail)
        go_wp2
        go_ret
        exact ⟨m, rfl, hm, by rw [← HI.out.2, HSN.out, utl_snoc, if_neg (by rw [isAct_no (fun ⟨_, e⟩ => by have := HN.out; simp [RL.val] at e; simp [e] at this)]; simp)], bdn (HB0.out.trans (HI.out.1.mono HB0.out.size)) nq⟩
/-- Rules appended, as a step of a region that draws its order. -/
theorem step_rules {w : World} {ops : Array Oper} {o : Oper} {a : Act} {K : Act → World → Prop} {Q : Exit → Act → World → Prop} {R : Prop} (hgd : o.guard = none) (s x : Operand)
    (ho : o.op = .call { callee := .builtin .append, args := #[s, x], argTypes := #[24, 24] })
    {base c d : Nat} {A A5 : Option Addr} {l l5 : List RL} (hs : a.eval s = .slice A l.length c) (hown : RowL w base A l c) (hx : a.eval x = .slice A5 l5.length d) (h5 : RlL w A5 l5)
    (hn : l.length + l5.length ≤ 1000000000) (hd : l5.length ≤ d) (hz : A5 = none → d = 0) (hbase : base ≤ w.heap.size)
    (h : ∀ A' c' w', RowL w' base A' (l ++ l5) c' → w.grownBy w' (Value.slice A l.length c).ownBlock → KeepC w w' → Below base w w' → K (a.put o.dst (.slice A' (l ++ l5).length c')) w') :
    if Region.wanted o (yielded ops a.tmps) = true then Oper.wp Tryz.prog o a w K Q else R := by
  have hw : Region.wanted o (yielded ops a.tmps) = true := by simp [Region.wanted, hgd]
  rw [if_pos hw]
  obtain ⟨i, hi, hz0, hsz, hby⟩ := info_parts infoRu2
  rcases A5 with _ | ⟨ab, ao, asp⟩
  · have hd0 : d = 0 := hz rfl
    have h50 : l5 = [] := List.eq_nil_of_length_eq_zero (by omega)
    subst h50 hd0
    have hrun := run_append_owned_none (P := Tryz.prog) (w := w) base 24 o.type 57 i 4 Tryz.underlying24 hi (.slice A l.length c) l.length _ hown.1
    have hK := h A c w (by rw [List.append_nil]; exact hown) (World.grownBy.refl _ _) (KeepC.refl _) (Below.refl _ _)
    rw [List.append_nil] at hK
    unfold Oper.wp execOp
    simp only [ho, resolve, invoke, builtin, Sem.run_bind, Sem.run_pure, Result.andThen_ok, List.map_toArray, List.map_cons, List.map_nil, hs, hx, List.length_nil, hrun]
    exact hK
  · have hnews : ∀ j v, (l5.flatMap rrow)[j]? = some v → w.cell? ((⟨ab, ao, asp⟩ : Addr).add j) = some v := fun j v hv => by
      rcases h5.1 with h0 | ⟨b, o5, he, hl, hc⟩
      · rw [h0] at hv; simp at hv
      · obtain ⟨rfl, rfl, rfl⟩ : ab = b ∧ ao = o5 ∧ asp = none := by simpa using he
        have hj : j < l5.length * 4 := by
          rw [← flat_len rrow (fun _ => rfl) l5]
          exact (List.getElem?_eq_some_iff.1 hv).1
        obtain ⟨q, t, hq, ht, rfl⟩ : ∃ q t, q < l5.length ∧ t < 4 ∧ j = q * 4 + t := ⟨j / 4, j % 4, by omega, by omega, by omega⟩
        rw [flat_at rrow (fun _ => rfl) l5 q t hq ht] at hv
        rw [addR, ← Nat.add_assoc]
        obtain ⟨h0, h1, h2, h3⟩ := hc q hq
        have : t = 0 ∨ t = 1 ∨ t = 2 ∨ t = 3 := by omega
        rcases this with rfl | rfl | rfl | rfl
        · exact h0.trans hv
        · exact h1.trans hv
        · exact h2.trans hv
        · exact h3.trans hv
    obtain ⟨v', w', hr, h2, h3, _, _⟩ := run_append_own_at (P := Tryz.prog) w base 24 o.type 57 i _ 4 56 Tryz.underlying24 hi hz0 hsz hby (by rfl) (by decide) _ l.length _ hown.1 ⟨ab, ao, asp⟩ l5.length d (l5.flatMap rrow) (flat_len rrow (fun _ => rfl) l5) hnews (flat_one rrow rrow_one l5) (by unfold maxLen; omega) (by omega) hbase
    have hk : KeepC w w' := KeepC.grown h3 fun b hb => ⟨_, hown.ty b hb, by decide⟩
    have hB : Below base w w' := (Below.refl _ _).grown h3 hbase (fun k hk => (hown.1.lt k hk).1)
    rcases ownsRow_parts h2 with ⟨A', c', rfl⟩
    have hK := h A' c' w' ⟨by rw [List.length_append, List.flatMap_append]; exact h2, fun q hq => by
      rcases List.mem_append.1 hq with hq | hq
      · exact (hown.2 q hq).keep hk
      · exact (h5.2 q hq).keep hk⟩ h3 hk hB
    unfold Oper.wp execOp
    simp only [ho, resolve, invoke, builtin, Sem.run_bind, Sem.run_pure, Result.andThen_ok, List.map_toArray, List.map_cons, List.map_nil, hs, hx, hr]
    rw [List.length_append] at hK
    exact hK
/-- The names' list. -/
theorem Named.keys {w : World} {base bm q : Nat} {pre : List RV} {T : List UInt8 → RS} (h : Named w base bm q pre T) {D : DataW Value} {n : Nat} (h1 : w.ownsMap Tryz.prog 9 RR bm n D) (h4 : ∀ s, has D (.string s) = true ↔ (T s).l ≠ []) {ss : List (List UInt8)} (hp : ss.Perm (strKeys D)) :
    ss.mergeSort leB = kys pre := by
  obtain ⟨es, hD, hpw, _⟩ := h1.entries (string_keyed Tryz.underlying9)
  obtain ⟨es', hD', hko⟩ := h1.keysOf
  obtain rfl : es = es' := by rw [hD] at hD'; simpa using hD'
  subst hD
  have hg : ∀ s, grp pre s ≠ [] ↔ (T s).l ≠ [] := fun s => by
    rw [← h.val s, Ne, Ne, List.map_eq_nil_iff]
  have hp2 : (nms pre).Perm (strKeys (.map es)) := perm_strKeys hpw (fun p hp => by obtain ⟨v, hv⟩ := hko p hp; obtain ⟨x, _, hx, _⟩ := Maps.keyOf_str Tryz.underlying9 hv; exact ⟨x, hx⟩) (nodup_nub _) (fun x => by rw [mem_nms, hg, h4])
  exact mergeSort_of_perm (hp.trans hp2.symm)
theorem sortsR (m : Nat) : AnyZ.SortsIn Tryz.prog Tryz.sortedR_ren Fence.wide m :=
  ⟨fun blk off cap ss W hH hblk hsz => callsIn_wide.2 (AnyM.slices_Sort_string Tryz.sortR blk off cap ss W hH hblk hsz),
   fun p cap W => callsIn_wide.2 (AnyM.slices_Sort_string_none Tryz.sortR p cap W)⟩
theorem keys_call (mb : Option Nat) (W : World) : Calls Tryz.prog 77 #[.map mb] W fun e w' => e = .returned (.func (.func 121) #[] #[.pointer (some ⟨W.heap.size, 0, none⟩)]) ∧ w' = W.alloc (.cells #[.map mb] 133) :=
  callsIn_wide.1 (AnyZ.keys_in Tryz.keysR Fence.wide 5 trivial rfl mb W)
theorem sorted_call (w : World) {bm nn : Nat} {D : DataW Value} (hown : w.ownsMap Tryz.prog 9 RR bm nn D) (hnn : nn ≤ 100000) :
    Calls Tryz.prog 76 #[.func (.func 121) #[] #[.pointer (some ⟨w.heap.size, 0, none⟩)]] (w.alloc (.cells #[.map (some bm)] 133)) fun e w' =>
      ∃ (v : Value) (ss : List (List UInt8)), e = .returned v ∧ ss.Perm (strKeys D) ∧ w'.ownsRow (w.heap.size + 1) 9 1 v ss.length ((ss.mergeSort (fun x y => decide (x ≤ y))).map encStr) ∧ (v = .slice none 0 0 ↔ ss = []) ∧ Below (w.heap.size + 1) (w.alloc (.cells #[.map (some bm)] 133)) w' := by
  have hbl := hown.lt
  have hsz : Maps.size D ≤ 100000 := Nat.le_trans hown.size_le hnn
  have hseq : SeqGives Fence.wide 2 Tryz.prog 121 #[.pointer (some ⟨w.heap.size, 0, none⟩)] encStr (fun ss => ss.Perm (strKeys D)) (Maps.size D) (w.alloc (.cells #[.map (some bm)] 133)) :=
    AnyZ.keys_gives (ρ := Tryz.keysR_ren) { Tryz.keysR with } Fence.wide _ trivial rfl (by omega) w.heap.size bm nn D _ (by simp) (by simp) (by
      obtain ⟨es, clock, hb, Ft, hs, hD⟩ := hown
      exact ⟨es, clock, (Below.heap_alloc _ _ bm hbl).trans hb, Ft, hs, hD⟩)
  have cS := AnyZ.sorted_in Tryz.sortedR Fence.wide 5 trivial trivial trivial trivial rfl (by omega) (sortsR _) (enters_of Tryz.func120 (by kernel_rfl) rfl) 121 #[.pointer (some ⟨w.heap.size, 0, none⟩)] trivial (enters_of Tryz.func121 (by kernel_rfl) rfl) _ _ (by unfold maxLen; omega) (by omega) _ hseq
  change CallsIn _ _ Tryz.prog 76 _ _ _ at cS
  have e : (w.alloc (.cells #[.map (some bm)] 133)).heap.size = w.heap.size + 1 := by simp
  refine (callsIn_wide.1 cS).mono ?_
  rintro x w' ⟨v, ss, rfl, hS, hrow, hnil, hb⟩
  rw [e] at hrow hb
  exact ⟨v, ss, rfl, hS, hrow, hnil, hb⟩
end Go.Proofs.YtcmdmnnkbliggaaGreatDoor
