/-
  The document's own Of of layer 12; the laws' awake; tables that were made.
-/
import Derived.Test.YtcmdmnnkbliggaaGreatDoorP22
import Derived.Test.YtcmdmnnkbliggaaGreatDoorP27
import Derived.Test.YtcmdmnnkbliggaaGreatDoorP10
import Derived.Test.YtcmdmnnkbliggaaGreatDoorP11
import Derived.BigQuiet
import Derived.Deep.QuietTactic
import Derived.Deep.CutRange
namespace Go.Proofs.YtcmdmnnkbliggaaGreatDoor
open Go.RowKit
set_option linter.unusedVariables false

theorem own_TbA {w : World} {base n c : Nat} {E : TypeId} {A : Option Addr} {T : Nat → SR} (h : OwnC w base E 8 A n c (rcell T)) : TbA w A n T := by
  rcases Nat.eq_zero_or_pos n with h0 | hp
  · exact .inl h0
  obtain ⟨b, rfl, _, hlt, hcl⟩ := own_atz h hp
  refine .inr ⟨b, 0, rfl, hlt, fun i hi => ?_⟩
  have hc : ∀ c, c < 8 → w.cell? ⟨b, 0 + i * 8 + c, none⟩ = some ((srow (T i)).getD c undef) := fun c hc => by
    rw [Nat.zero_add, hcl (i * 8 + c) (by omega), rcell_at T i c hc]
  exact ⟨hc 0 (by omega), hc 1 (by omega), hc 2 (by omega), hc 3 (by omega), hc 4 (by omega), hc 5 (by omega), hc 6 (by omega), hc 7 (by omega)⟩
/-- The place that a look gives, or -1. -/
def AtP (P : Nat → Bool) (n : Nat) (p : Int) : Prop := (∃ j, j < n ∧ P j = true ∧ (∀ i, i < j → P i = false) ∧ p = j) ∨ ((∀ i, i < n → P i = false) ∧ p = -1)
/-- Which call a record is, in the document's words. -/
def RefP (T : Nat → SR) (n : Nat) (r : RecV) (ab p : Int) (mu : Bool) : Prop :=
  ((selA r.a r.n).2 = false ∧ ab = -1 ∧ p = -1 ∧ mu = false) ∨
  ((selA r.a r.n).2 = true ∧ ab = ((selA r.a r.n).1 : Nat) ∧ (((selA r.a r.n).1 = 2 ∧ kindF r.n ≠ 0 ∧ mu = true ∧ AtP (subR T (kindF r.n : Nat) (r.q 0 % 4294967296 : Nat)) n p) ∨ (¬ ((selA r.a r.n).1 = 2 ∧ kindF r.n ≠ 0) ∧ mu = false ∧ AtP (fun k => numR (T k) k (selA r.a r.n).1 == ((ownF (selA r.a r.n).1 r.n : Nat) : Int)) n p)))
abbrev rcall0 : Array Value := #[.int .i64 0, .int .i64 0, .bool false]
theorem infoRCall : (Tryz.prog.info? 130).map (·.size) = some 3 := by kernel_rfl
theorem refSub_at (A : Option Addr) (n cap : Nat) (T : Nat → SR) (mx sb : Int) (w : World) (hn : n ≤ 1000000) (ht : TbA w A n T) :
    Calls Tryz.prog 114 #[.slice A n cap, .int .i64 mx, .int .i64 sb] w fun e w' => ∃ p : Int, AtP (subR T mx sb) n p ∧ e = .returned (.int .i64 p) ∧ w = w' := by
  refine (refSub_any A n cap T mx sb w hn ht).mono ?_
  rintro e w' ⟨⟨j, h1, h2, h3, rfl⟩ | ⟨h1, rfl⟩, hB⟩
  · exact ⟨_, .inl ⟨j, h1, h2, h3, rfl⟩, rfl, hB⟩
  · exact ⟨_, .inr ⟨h1, rfl⟩, rfl, hB⟩
theorem refAt_at (A : Option Addr) (n cap : Nat) (T : Nat → SR) (a : Nat) (ha : a < 5) (x : Int) (w : World) (hn : n ≤ 1000000) (ht : TbA w A n T) :
    Calls Tryz.prog 115 #[.slice A n cap, .int .i64 a, .int .i64 x] w fun e w' => ∃ p : Int, AtP (fun k => numR (T k) k a == x) n p ∧ e = .returned (.int .i64 p) ∧ w = w' := by
  refine (refAt_any A n cap T a ha x w hn ht).mono ?_
  rintro e w' ⟨⟨j, h1, h2, h3, rfl⟩ | ⟨h1, rfl⟩, hB⟩
  · exact ⟨_, .inl ⟨j, h1, h2, h3, rfl⟩, rfl, hB⟩
  · exact ⟨_, .inr ⟨h1, rfl⟩, rfl, hB⟩
set_option maxRecDepth 100000 in
set_option maxHeartbeats 8000000 in
theorem refOf_any (A : Option Addr) (n cap : Nat) (T : Nat → SR) (r : RecV) (hr : r.ok) (w : World) (hn : n ≤ 1000000) (ht : TbA w A n T) :
    Calls Tryz.prog 73 #[.slice A n cap, .agg (rcells r)] w fun e w' => ∃ ab p mu, RefP T n r ab p mu ∧ e = .returned (.agg #[.int .i64 ab, .int .i64 p, .bool mu]) ∧ Below w.heap.size w w' := by
  obtain ⟨U, hU⟩ : ∃ U, (w.alloc (.cells #[.int .u32 r.n, .int .u32 r.a, .int .u64 r.p, .int .u64 (r.q 0), .int .u64 (r.q 1), .int .u64 (r.q 2), .int .u64 (r.q 3), .int .u64 (r.q 4), .int .u64 (r.q 5)] 74)).alloc (.cells rcall0 130) = U := ⟨_, rfl⟩
  have ru : RowC U w.heap.size (rcells r) 74 := by rw [← hU]; exact (RowC.new _ _ _ _ rfl).alloc _
  have rc : RowC U (w.heap.size + 1) rcall0 130 := by rw [← hU]; exact RowC.new _ _ _ _ (by simp)
  have hbU : Below w.heap.size w U := by rw [← hU]; exact ((Below.refl _ _).alloc (Nat.le_refl _) _).alloc (by simp) _
  have HT := Lib.hid (ht.below hbU (Nat.le_refl _))
  have HRC := Lib.hid rc
  have HBU := Lib.hid hbU
  have HU := Lib.hid hU
  have HNN := Lib.hid hn
  have hsel := refSelect_any r.a r.n U hr.2.1 hr.1
  have d0 := ru.cell 0 (.int .u32 r.n) rfl
  have d1 := ru.cell 1 (.int .u32 r.a) rfl
  have d3 := ru.cell 3 (.int .u64 (r.q 0)) rfl
  have hab := selA_lt r.a r.n
  obtain ⟨ab, hA⟩ : ∃ ab, (selA r.a r.n).1 = ab := ⟨_, rfl⟩
  obtain ⟨sm, hS⟩ : ∃ sm, (selA r.a r.n).2 = sm := ⟨_, rfl⟩
  unfold refA at hsel
  rw [hA, hS] at hsel
  rw [hA] at hab
  have HA := Lib.hid hA
  have HSM := Lib.hid hS
  have HAB := Lib.hid hab
  have HOW := Lib.hid fun W => refOwn_any (ab : Nat) r.n W hr.1
  have how : ownF ab r.n < 4294967296 := by
    have := hr.1
    unfold ownF
    repeat' split
    all_goals omega
  obtain ⟨x, hx⟩ : ∃ x, ownF ab r.n = x := ⟨_, rfl⟩
  rw [hx] at HOW how
  have HX := Lib.hid hx
  have v1 : IntKind.i64.wrap (x : Int) = (x : Int) := by rw [IntKind.wrap_i64]; omega
  have hq := hr.2.2.2 0
  have hyl : r.q 0 % 4294967296 < 4294967296 := Nat.mod_lt _ (by decide)
  have v2 : IntKind.i64.wrap ((r.q 0 % 4294967296 : Nat) : Int) = ((r.q 0 % 4294967296 : Nat) : Int) := by rw [IntKind.wrap_i64]; omega
  have v3 : ((r.q 0 : Int)).tmod 4294967296 = ((r.q 0 % 4294967296 : Nat) : Int) := by rw [Int.tmod_eq_emod_of_nonneg (by omega)]; omega
  have HR := Lib.hid hr
  clear hU hbU ru rc ht hr hA hS hn hx
  unfold rcells
  go_enter Tryz.func73, Tryz.ntmps73
  go_upto_region 1 with fail
  rw [HU.out]
  have HSL := Lib.hid hsel
  clear hsel
  cases sm
  · have HSL' : Hid (Calls Tryz.prog 113 #[.int .u32 r.a, .int .u32 r.n] U fun e w' => e = .returned (.int .i64 (-1)) ∧ U = w') := HSL
    have HP : Hid (RefP T n r (-1) (-1) false) := Lib.hid (.inl ⟨HSM.out, rfl, rfl, rfl⟩)
    clear HSL
    go_wp2_with fail
    refine HSL'.out.mono ?_
    rintro e w1 ⟨rfl, rfl⟩
    go_wp2_with (refine wpList_store_row (by rfl) 130 _ _ (by rfl) (w.heap.size + 1) #[.int .i64 (-1), .int .i64 (-1), .bool false] (by rfl) (by rfl) _ _ HRC.out (show _ = some 3 from infoRCall) (by rfl) (by simp [Value.oneCell']) ?_)
    refine bodyPost_ret (results_cell_row Tryz.results73 _ _ (w.heap.size + 1) _ #[.int .i64 (-1), .int .i64 (-1), .bool false] (0, 0) _ (by rfl) (setRow_heap _ _ _ _ _ _ HRC.out) Tryz.underlying130 (by rfl) (show _ = some 3 from infoRCall)) rfl ?_
    exact ⟨_, _, _, HP.out, rfl, below_setRow HBU.out (by omega) _⟩
  · have HSL' : Hid (Calls Tryz.prog 113 #[.int .u32 r.a, .int .u32 r.n] U fun e w' => e = .returned (.int .i64 (ab : Nat)) ∧ U = w') := HSL
    have g0 : ¬ (ab : Int) < 0 := by omega
    have g1 : decide ((ab : Int) < 0) = false := decide_eq_false g0
    clear HSL
    go_wp2_with fail
    refine HSL'.out.mono ?_
    rintro e w1 ⟨rfl, rfl⟩
    by_cases h2 : ab = 2
    · subst h2
      by_cases h102 : r.n = 102
      · have f1 : ((r.n : Int) == 102) = true := by simp [h102]
        have HSB := Lib.hid (refSub_at A n cap T 1 ((r.q 0 % 4294967296 : Nat) : Int) U HNN.out HT.out)
        have HPM : Hid (∀ p, AtP (subR T 1 ((r.q 0 % 4294967296 : Nat) : Int)) n p → RefP T n r 2 p true) := Lib.hid fun p hp => .inr ⟨HSM.out, by rw [HA.out]; rfl, .inl ⟨HA.out, by rw [h102]; decide, rfl, by rw [h102]; exact hp⟩⟩
        generalize r.q 0 % 4294967296 = y at *
        clear h102 HOW HX d1
        go_wp2_with fail
        refine HSB.out.mono ?_
        rintro e w1 ⟨p, hp, rfl, rfl⟩
        have HP := Lib.hid (HPM.out p hp)
        clear hp
        go_wp2_with (refine wpList_store_row (by rfl) 130 _ _ (by rfl) (w.heap.size + 1) #[.int .i64 (2), .int .i64 (p), .bool true] (by rfl) (by rfl) _ _ HRC.out (show _ = some 3 from infoRCall) (by rfl) (by simp [Value.oneCell']) ?_)
        refine bodyPost_ret (results_cell_row Tryz.results73 _ _ (w.heap.size + 1) _ #[.int .i64 (2), .int .i64 (p), .bool true] (0, 0) _ (by rfl) (setRow_heap _ _ _ _ _ _ HRC.out) Tryz.underlying130 (by rfl) (show _ = some 3 from infoRCall)) rfl ?_
        exact ⟨_, _, _, HP.out, rfl, below_setRow HBU.out (by omega) _⟩
      · have f1 : ((r.n : Int) == 102) = false := beq_eq_false_iff_ne.2 (by omega)
        by_cases h117 : r.n = 117
        · have f2 : ((r.n : Int) == 117) = true := by simp [h117]
          have HSB := Lib.hid (refSub_at A n cap T 2 ((r.q 0 % 4294967296 : Nat) : Int) U HNN.out HT.out)
          have HPM : Hid (∀ p, AtP (subR T 2 ((r.q 0 % 4294967296 : Nat) : Int)) n p → RefP T n r 2 p true) := Lib.hid fun p hp => .inr ⟨HSM.out, by rw [HA.out]; rfl, .inl ⟨HA.out, by rw [h117]; decide, rfl, by rw [h117]; exact hp⟩⟩
          generalize r.q 0 % 4294967296 = y at *
          clear h102 h117 HOW HX d1
          go_wp2_with fail
          refine HSB.out.mono ?_
          rintro e w1 ⟨p, hp, rfl, rfl⟩
          have HP := Lib.hid (HPM.out p hp)
          clear hp
          go_wp2_with (refine wpList_store_row (by rfl) 130 _ _ (by rfl) (w.heap.size + 1) #[.int .i64 (2), .int .i64 (p), .bool true] (by rfl) (by rfl) _ _ HRC.out (show _ = some 3 from infoRCall) (by rfl) (by simp [Value.oneCell']) ?_)
          refine bodyPost_ret (results_cell_row Tryz.results73 _ _ (w.heap.size + 1) _ #[.int .i64 (2), .int .i64 (p), .bool true] (0, 0) _ (by rfl) (setRow_heap _ _ _ _ _ _ HRC.out) Tryz.underlying130 (by rfl) (show _ = some 3 from infoRCall)) rfl ?_
          exact ⟨_, _, _, HP.out, rfl, below_setRow HBU.out (by omega) _⟩
        · have f2 : ((r.n : Int) == 117) = false := beq_eq_false_iff_ne.2 (by omega)
          have hk : kindF r.n = 0 := by rw [kindF, if_neg h102, if_neg h117]
          have HSB := Lib.hid (refAt_at A n cap T 2 (by decide) (x : Int) U HNN.out HT.out)
          have HPM : Hid (∀ p, AtP (fun k => numR (T k) k 2 == (x : Int)) n p → RefP T n r 2 p false) := Lib.hid fun p hp => .inr ⟨HSM.out, by rw [HA.out]; rfl, .inr ⟨fun h => h.2 hk, rfl, by rw [HA.out, HX.out]; exact hp⟩⟩
          clear h102 h117 HX d1 hk v2 v3 d3
          go_wp2_with fail
          refine (HOW.out _).mono ?_
          rintro e w1 ⟨rfl, rfl⟩
          go_wp2_with fail
          refine HSB.out.mono ?_
          rintro e w1 ⟨p, hp, rfl, rfl⟩
          have HP := Lib.hid (HPM.out p hp)
          clear hp
          go_wp2_with (refine wpList_store_row (by rfl) 130 _ _ (by rfl) (w.heap.size + 1) #[.int .i64 (2), .int .i64 (p), .bool false] (by rfl) (by rfl) _ _ HRC.out (show _ = some 3 from infoRCall) (by rfl) (by simp [Value.oneCell']) ?_)
          refine bodyPost_ret (results_cell_row Tryz.results73 _ _ (w.heap.size + 1) _ #[.int .i64 (2), .int .i64 (p), .bool false] (0, 0) _ (by rfl) (setRow_heap _ _ _ _ _ _ HRC.out) Tryz.underlying130 (by rfl) (show _ = some 3 from infoRCall)) rfl ?_
          exact ⟨_, _, _, HP.out, rfl, below_setRow HBU.out (by omega) _⟩
    · have f1 : ((ab : Int) == 2) = false := beq_eq_false_iff_ne.2 (by omega)
      have f2 : (ab == 2) = false := beq_eq_false_iff_ne.2 h2
      have HSB := Lib.hid (refAt_at A n cap T ab HAB.out (x : Int) U HNN.out HT.out)
      have HPM : Hid (∀ p, AtP (fun k => numR (T k) k ab == (x : Int)) n p → RefP T n r (ab : Nat) p false) := Lib.hid fun p hp => .inr ⟨HSM.out, by rw [HA.out], .inr ⟨fun h => h2 (HA.out ▸ h.1), rfl, by rw [HA.out, HX.out]; exact hp⟩⟩
      clear h2 HX d1 v2 v3 d3
      go_wp2_with fail
      refine (HOW.out _).mono ?_
      rintro e w1 ⟨rfl, rfl⟩
      go_wp2_with fail
      refine HSB.out.mono ?_
      rintro e w1 ⟨p, hp, rfl, rfl⟩
      have HP := Lib.hid (HPM.out p hp)
      clear hp
      go_wp2_with (refine wpList_store_row (by rfl) 130 _ _ (by rfl) (w.heap.size + 1) #[.int .i64 ((ab : Nat)), .int .i64 (p), .bool false] (by rfl) (by rfl) _ _ HRC.out (show _ = some 3 from infoRCall) (by rfl) (by simp [Value.oneCell']) ?_)
      refine bodyPost_ret (results_cell_row Tryz.results73 _ _ (w.heap.size + 1) _ #[.int .i64 ((ab : Nat)), .int .i64 (p), .bool false] (0, 0) _ (by rfl) (setRow_heap _ _ _ _ _ _ HRC.out) Tryz.underlying130 (by rfl) (show _ = some 3 from infoRCall)) rfl ?_
      exact ⟨_, _, _, HP.out, rfl, below_setRow HBU.out (by omega) _⟩
end Go.Proofs.YtcmdmnnkbliggaaGreatDoor

/-
  How i386 reaches a name: layer 12's Ways.
-/
namespace Go.Proofs.YtcmdmnnkbliggaaGreatDoor
open Go.RowKit
set_option linter.unusedVariables false

/-- How a name is reached. -/
def WaysP (T : Nat → SR) (n : Nat) (s : ByteArray) (d m : Bool) : Prop :=
  (∃ j, j < n ∧ isN T s j = true ∧ (∀ i, i < j → isN T s i = false) ∧ d = decide ((T j).n2 ≥ 0) ∧ m = ((T j).mx != 0)) ∨ ((∀ i, i < n → isN T s i = false) ∧ d = false ∧ m = false)
set_option maxRecDepth 100000 in
set_option maxHeartbeats 8000000 in
theorem ways_any (A : Option Addr) (n cap : Nat) (T : Nat → SR) (s : ByteArray) (w : World) (hn : n ≤ 1000000) (ht : TbA w A n T) :
    Calls Tryz.prog 44 #[.slice A n cap, .string s] w fun e w' => ∃ d m, WaysP T n s d m ∧ e = .returned (.tuple #[.bool d, .bool m]) ∧ Below w.heap.size w w' := by
  have HF := Lib.hid (Find_any A n cap T s w hn ht)
  clear ht
  go_enter Tryz.func44, Tryz.ntmps44
  go_wp2_with fail
  refine HF.out.mono ?_
  rintro e w1 ⟨h, hB1⟩
  rcases h with ⟨j, hj, hp, hf, rfl⟩ | ⟨hno, rfl⟩
  · obtain ⟨r, hr⟩ : ∃ r, T j = r := ⟨_, rfl⟩
    have HW : Hid (∀ d m, d = decide (r.n2 ≥ 0) → m = (r.mx != 0) → WaysP T n s d m) := Lib.hid fun d m h1 h2 => .inl ⟨j, hj, hp, hf, by rw [hr]; exact h1, by rw [hr]; exact h2⟩
    rw [hr]
    obtain ⟨V, hV⟩ : ∃ V, w1.alloc (.cells #[.string r.nm, .int .i64 r.n0, .int .i64 r.n1, .int .i64 r.n2, .int .i64 r.n3, .int .i64 r.n4, .int .i64 r.mx, .int .i64 r.sb] 114) = V := ⟨_, rfl⟩
    have rv : RowC V w1.heap.size (srow r) 114 := by rw [← hV]; exact RowC.new _ _ _ _ rfl
    have hbv : Below w.heap.size w V := by rw [← hV]; exact hB1.alloc hB1.size _
    have HV := Lib.hid hV
    have HBV := Lib.hid hbv
    have d3 := rv.cell 3 (.int .i64 r.n2) rfl
    have d6 := rv.cell 6 (.int .i64 r.mx) rfl
    have hbd : ∀ N, Below w.heap.size w (V.drewN N) := fun N => bdn HBV.out N
    have HBD := Lib.hid hbd
    obtain ⟨x, hx⟩ : ∃ x, decide (r.n2 ≥ 0) = x := ⟨_, rfl⟩
    obtain ⟨y, hy⟩ : ∃ y, (r.mx != 0) = y := ⟨_, rfl⟩
    have HE := Lib.hid (HW.out x y hx.symm hy.symm)
    clear hV hbv rv hj hp hf hr hB1 hbd
    go_upto_region 2 with fail
    rw [HV.out]
    go_quiet (fail)
    go_wp2
    go_ret2
    exact ⟨x, y, HE.out, rfl, HBD.out _⟩
  · have HE : Hid (WaysP T n s false false) := Lib.hid (.inr ⟨hno, rfl, rfl⟩)
    obtain ⟨V, hV⟩ : ∃ V, w1.alloc (.cells sr0 114) = V := ⟨_, rfl⟩
    have rv : RowC V w1.heap.size sr0 114 := by rw [← hV]; exact RowC.new _ _ _ _ rfl
    have hbv : Below w.heap.size w V := by rw [← hV]; exact hB1.alloc hB1.size _
    have HV := Lib.hid hV
    have HBV := Lib.hid hbv
    have d3 := rv.cell 3 (.int .i64 0) rfl
    have d6 := rv.cell 6 (.int .i64 0) rfl
    have hbd : ∀ N, Below w.heap.size w (V.drewN N) := fun N => bdn HBV.out N
    have HBD := Lib.hid hbd
    clear hV hbv rv hno hB1 hbd
    go_upto_region 2 with fail
    rw [HV.out]
    go_quiet (fail)
    go_wp2
    go_ret2
    exact ⟨false, false, HE.out, rfl, HBD.out _⟩
end Go.Proofs.YtcmdmnnkbliggaaGreatDoor
