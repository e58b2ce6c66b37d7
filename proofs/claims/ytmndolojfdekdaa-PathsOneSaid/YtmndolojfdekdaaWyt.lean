/-
  Layer 27: what a test asks of a record; whether a record takes a path.
-/
import Derived.Test.YtmndolojfdekdaaWd
import Derived.Test.YtmndolojfdekdaaRw
import Derived.Laws.BitsAllLaws
namespace Go.Proofs.Ytmndolojfdekdaa
open Go.RowKit Go.Shelf Go.Lib
set_option linter.unusedVariables false

/-- A test as numbers: its place, its mask, its kind, its number, whether it is so. -/
structure TV where
  p : Int
  m : Nat
  d : Int
  k : Nat
  s : Bool
instance : Inhabited TV := ⟨⟨0, 0, 0, 0, false⟩⟩
def TV.ok (x : TV) : Prop := (-9223372036854775808 ≤ x.p ∧ x.p ≤ 9223372036854775807) ∧ x.m < 4294967296 ∧ x.k < 4294967296
def tsrow (x : TV) : List Value := [.int .i64 x.p, .int .u32 x.m, .int .i64 x.d, .int .u32 x.k, .bool x.s]
def tscell (G : Nat → TV) (i : Nat) : Value := (tsrow (G (i / 5))).getD (i % 5) undef
theorem tscell_at (G : Nat → TV) (i j : Nat) (hj : j < 5) : tscell G (i * 5 + j) = (tsrow (G i)).getD j undef := by
  unfold tscell
  rw [show (i * 5 + j) / 5 = i by omega, show (i * 5 + j) % 5 = j by omega]
theorem tscell_one (G : Nat → TV) (i : Nat) : (tscell G i).oneCell' = true := by
  have h : i % 5 < 5 := Nat.mod_lt _ (by decide)
  unfold tscell tsrow
  generalize i % 5 = j at h
  match j, h with
  | 0, _ | 1, _ | 2, _ | 3, _ | 4, _ => rfl
theorem tscell_cat (G : Nat → TV) (k : Nat) (x : TV) (hx : G k = x) : ∀ i, i < (k + 1) * 5 → catC (k * 5) (tscell G) (tscell fun _ => x) i = tscell G i := fun i hi => by
  unfold catC
  split
  · rfl
  · unfold tscell
    rw [show i / 5 = k by omega, hx, show (i - k * 5) % 5 = i % 5 by omega]
theorem one_test (w : World) (x : TV) (E : TypeId) : Cel (w.alloc (.cells #[.int .i64 x.p, .int .u32 x.m, .int .i64 x.d, .int .u32 x.k, .bool x.s] E)) (w.heap.size + 1) 5 (some ⟨w.heap.size, 0, none⟩) 1 1 (tscell fun _ => x) :=
  Cel.mk_ (Nat.lt_succ_self _) (Nat.le_refl _) (by decide) fun i hi => by
    have hi' : i < 5 := by omega
    rw [Nat.zero_add, cell_of_row _ _ _ _ _ _ (heap_alloc_last w _)]
    match i, hi' with
    | 0, _ | 1, _ | 2, _ | 3, _ | 4, _ => rfl
theorem ts_at {w : World} {B n c : Nat} {A : Option Addr} {G : Nat → TV} (h : Cel w B 5 A n c (tscell G)) {k : Nat} (hk : k < n) {x : TV} (hx : G k = x) : ∃ b off, A = some ⟨b, off, none⟩ ∧ b < B ∧
    w.cell? ⟨b, off + k * 5, none⟩ = some (.int .i64 x.p) ∧ w.cell? ⟨b, off + k * 5 + 1, none⟩ = some (.int .u32 x.m) ∧ w.cell? ⟨b, off + k * 5 + 2, none⟩ = some (.int .i64 x.d) ∧ w.cell? ⟨b, off + k * 5 + 3, none⟩ = some (.int .u32 x.k) ∧ w.cell? ⟨b, off + k * 5 + 4, none⟩ = some (.bool x.s) := by
  obtain ⟨b, off, rfl, hb, hc⟩ := h.at_ (by omega)
  have hj : ∀ j, j < 5 → w.cell? ⟨b, off + k * 5 + j, none⟩ = some ((tsrow x).getD j undef) := fun j hj => by
    rw [Nat.add_assoc, hc _ (by omega), tscell_at G k j hj, hx]
  exact ⟨b, off, rfl, hb, hj 0 (by decide), hj 1 (by decide), hj 2 (by decide), hj 3 (by decide), hj 4 (by decide)⟩
/-- Is a word as a test tells? -/
def holdV (a : Nat) (x : TV) : Bool :=
  if x.d = 25 then decide (a = x.k) == x.s else if x.d = 26 then decide (x.k < a) == x.s else if x.d = 27 then decide (x.k ≤ a) == x.s else if x.d = 28 then decide (a &&& x.k ≠ 0) == x.s else false
def wrdF (f : Nat → Nat) (p : Int) : Nat := num (fun i => f (p.toNat + i)) 4
def holdF (n : Nat) (f : Nat → Nat) (x : TV) : Bool := if flt n x.p 4 = 0 then holdV (wrdF f x.p &&& x.m) x else false
set_option maxRecDepth 100000 in
set_option maxHeartbeats 8000000 in
theorem holds_any (x : TV) (A : Option Addr) (n c : Nat) (f : Nat → Nat) (w : World) (hx : x.ok) (hn : n ≤ 1000) (hby : Byt w w.heap.size A n c f) :
    Calls Try.prog 51 #[.agg #[.int .i64 x.p, .int .u32 x.m, .int .i64 x.d, .int .u32 x.k, .bool x.s], .slice A n c] w fun e w' => e = .returned (.bool (holdF n f x)) ∧ Below w.heap.size w w' := by
  have hr : RowC (w.alloc (.cells #[.int .i64 x.p, .int .u32 x.m, .int .i64 x.d, .int .u32 x.k, .bool x.s] 106)) w.heap.size #[.int .i64 x.p, .int .u32 x.m, .int .i64 x.d, .int .u32 x.k, .bool x.s] 106 := RowC.new _ _ _ _ rfl
  have hb0 : Below w.heap.size w (w.alloc (.cells #[.int .i64 x.p, .int .u32 x.m, .int .i64 x.d, .int .u32 x.k, .bool x.s] 106)) := (Below.refl _ _).alloc (Nat.le_refl _) _
  have HG := Lib.hid (get_any false A n c x.p 4 f (w.alloc (.cells #[.int .i64 x.p, .int .u32 x.m, .int .i64 x.d, .int .u32 x.k, .bool x.s] 106)) (by omega) hx.1.1 hx.1.2 ((hby.below hb0).more hb0.size))
  have HR := Lib.hid hr
  have HB := Lib.hid hb0
  obtain ⟨p, m, d, k, s⟩ := x
  dsimp only at HG HR HB ⊢
  have hm : m < 4294967296 := hx.2.1
  have hk : k < 4294967296 := hx.2.2
  have d0 := hr.cell 0 _ rfl
  clear hr hb0
  by_cases hf : flt n p 4 = 0
  · obtain ⟨h3, h1, h2⟩ := flt_ok hf
    have hN : wrdF f p < 4294967296 := num_lt _ 4 fun i hi => hby.lt (by omega)
    have hgv : ((num (fun i => f (pln false p.toNat (4 : Int).toNat i)) (4 : Int).toNat : Nat) : Int) = (wrdF f p : Int) := rfl
    rw [if_pos hf, hgv, hf] at HG
    have hv0 : holdF n f ⟨p, m, d, k, s⟩ = holdV (wrdF f p &&& m) ⟨p, m, d, k, s⟩ := by unfold holdF; rw [if_pos hf]
    rw [hv0]
    generalize wrdF f p = N at *
    have hwr : IntKind.u32.wrap (N : Int) = (N : Int) := IntWalk.u32_in _ (by omega)
    have hand : bits .and .u32 (N : Int) (m : Int) = ((N &&& m : Nat) : Int) := u32_and_nat N m hN hm
    have ha : N &&& m < 4294967296 := Nat.lt_of_le_of_lt Nat.and_le_left hN
    obtain ⟨a, hae⟩ : ∃ a, N &&& m = a := ⟨_, rfl⟩
    rw [hae] at hand ha ⊢
    clear hae hby hf hv0 hgv h1 h2 h3 d0 hx
    by_cases h25 : d = 25
    · subst h25
      by_cases hc : a = k
      · have hv : ∀ q : Bool, holdV a ⟨p, m, 25, k, q⟩ = (true == q) := fun q => by unfold holdV; rw [if_pos rfl]; show (decide _ == q) = _; rw [decide_eq_true hc]
        have hq : ((a : Int) == (k : Int)) = true := by rw [beq_iff_eq]; omega
        rw [hv]
        clear hv hc
        cases s
        all_goals
          go_enter Try.func51, Try.ntmps51
          go_wp2_with (go_at_call 74; refine HG.out.mono ?_; rintro e w1 ⟨rfl, hB⟩; have HB1 := Lib.hid (HB.out.trans (hB.mono HB.out.size)); have hr1 := HR.out.below hB HR.out.lt; have d1 := hr1.cell 1 _ rfl; have d2 := hr1.cell 2 _ rfl; have d3 := hr1.cell 3 _ rfl; have d4 := hr1.cell 4 _ rfl; clear hr1 hB)
          go_ret
          exact ⟨rfl, HB1.out⟩
      · have hv : ∀ q : Bool, holdV a ⟨p, m, 25, k, q⟩ = (false == q) := fun q => by unfold holdV; rw [if_pos rfl]; show (decide _ == q) = _; rw [decide_eq_false hc]
        have hq : ((a : Int) == (k : Int)) = false := by rw [beq_eq_false_iff_ne]; omega
        rw [hv]
        clear hv hc
        cases s
        all_goals
          go_enter Try.func51, Try.ntmps51
          go_wp2_with (go_at_call 74; refine HG.out.mono ?_; rintro e w1 ⟨rfl, hB⟩; have HB1 := Lib.hid (HB.out.trans (hB.mono HB.out.size)); have hr1 := HR.out.below hB HR.out.lt; have d1 := hr1.cell 1 _ rfl; have d2 := hr1.cell 2 _ rfl; have d3 := hr1.cell 3 _ rfl; have d4 := hr1.cell 4 _ rfl; clear hr1 hB)
          go_ret
          exact ⟨rfl, HB1.out⟩
    · have n25 : (d == 25) = false := by simpa using h25
      by_cases h26 : d = 26
      · subst h26
        by_cases hc : k < a
        · have hv : ∀ q : Bool, holdV a ⟨p, m, 26, k, q⟩ = (true == q) := fun q => by unfold holdV; rw [if_neg (show ¬ ((26 : Int) = 25) by decide), if_pos rfl]; show (decide _ == q) = _; rw [decide_eq_true hc]
          have hq : decide (k < a) = true := decide_eq_true hc
          rw [hv]
          clear hv hc
          cases s
          all_goals
            go_enter Try.func51, Try.ntmps51
            go_wp2_with (go_at_call 74; refine HG.out.mono ?_; rintro e w1 ⟨rfl, hB⟩; have HB1 := Lib.hid (HB.out.trans (hB.mono HB.out.size)); have hr1 := HR.out.below hB HR.out.lt; have d1 := hr1.cell 1 _ rfl; have d2 := hr1.cell 2 _ rfl; have d3 := hr1.cell 3 _ rfl; have d4 := hr1.cell 4 _ rfl; clear hr1 hB)
            go_ret
            exact ⟨rfl, HB1.out⟩
        · have hv : ∀ q : Bool, holdV a ⟨p, m, 26, k, q⟩ = (false == q) := fun q => by unfold holdV; rw [if_neg (show ¬ ((26 : Int) = 25) by decide), if_pos rfl]; show (decide _ == q) = _; rw [decide_eq_false hc]
          have hq : decide (k < a) = false := decide_eq_false hc
          rw [hv]
          clear hv hc
          cases s
          all_goals
            go_enter Try.func51, Try.ntmps51
            go_wp2_with (go_at_call 74; refine HG.out.mono ?_; rintro e w1 ⟨rfl, hB⟩; have HB1 := Lib.hid (HB.out.trans (hB.mono HB.out.size)); have hr1 := HR.out.below hB HR.out.lt; have d1 := hr1.cell 1 _ rfl; have d2 := hr1.cell 2 _ rfl; have d3 := hr1.cell 3 _ rfl; have d4 := hr1.cell 4 _ rfl; clear hr1 hB)
            go_ret
            exact ⟨rfl, HB1.out⟩
      · have n26 : (d == 26) = false := by simpa using h26
        by_cases h27 : d = 27
        · subst h27
          by_cases hc : k ≤ a
          · have hv : ∀ q : Bool, holdV a ⟨p, m, 27, k, q⟩ = (true == q) := fun q => by unfold holdV; rw [if_neg (show ¬ ((27 : Int) = 25) by decide), if_neg (show ¬ ((27 : Int) = 26) by decide), if_pos rfl]; show (decide _ == q) = _; rw [decide_eq_true hc]
            have hq : decide (k ≤ a) = true := decide_eq_true hc
            rw [hv]
            clear hv hc
            cases s
            all_goals
              go_enter Try.func51, Try.ntmps51
              go_wp2_with (go_at_call 74; refine HG.out.mono ?_; rintro e w1 ⟨rfl, hB⟩; have HB1 := Lib.hid (HB.out.trans (hB.mono HB.out.size)); have hr1 := HR.out.below hB HR.out.lt; have d1 := hr1.cell 1 _ rfl; have d2 := hr1.cell 2 _ rfl; have d3 := hr1.cell 3 _ rfl; have d4 := hr1.cell 4 _ rfl; clear hr1 hB)
              go_ret
              exact ⟨rfl, HB1.out⟩
          · have hv : ∀ q : Bool, holdV a ⟨p, m, 27, k, q⟩ = (false == q) := fun q => by unfold holdV; rw [if_neg (show ¬ ((27 : Int) = 25) by decide), if_neg (show ¬ ((27 : Int) = 26) by decide), if_pos rfl]; show (decide _ == q) = _; rw [decide_eq_false hc]
            have hq : decide (k ≤ a) = false := decide_eq_false hc
            rw [hv]
            clear hv hc
            cases s
            all_goals
              go_enter Try.func51, Try.ntmps51
              go_wp2_with (go_at_call 74; refine HG.out.mono ?_; rintro e w1 ⟨rfl, hB⟩; have HB1 := Lib.hid (HB.out.trans (hB.mono HB.out.size)); have hr1 := HR.out.below hB HR.out.lt; have d1 := hr1.cell 1 _ rfl; have d2 := hr1.cell 2 _ rfl; have d3 := hr1.cell 3 _ rfl; have d4 := hr1.cell 4 _ rfl; clear hr1 hB)
              go_ret
              exact ⟨rfl, HB1.out⟩
        · have n27 : (d == 27) = false := by simpa using h27
          by_cases h28 : d = 28
          · subst h28
            by_cases hc : a &&& k ≠ 0
            · have hv : ∀ q : Bool, holdV a ⟨p, m, 28, k, q⟩ = (true == q) := fun q => by unfold holdV; rw [if_neg (show ¬ ((28 : Int) = 25) by decide), if_neg (show ¬ ((28 : Int) = 26) by decide), if_neg (show ¬ ((28 : Int) = 27) by decide), if_pos rfl]; show (decide _ == q) = _; rw [decide_eq_true hc]
              have hq : (bits .and .u32 (a : Int) (k : Int) != 0) = true := by rw [u32_and_nat a k ha hk]; exact bne_iff_ne.2 (by omega)
              rw [hv]
              clear hv hc
              cases s
              all_goals
                go_enter Try.func51, Try.ntmps51
                go_wp2_with (go_at_call 74; refine HG.out.mono ?_; rintro e w1 ⟨rfl, hB⟩; have HB1 := Lib.hid (HB.out.trans (hB.mono HB.out.size)); have hr1 := HR.out.below hB HR.out.lt; have d1 := hr1.cell 1 _ rfl; have d2 := hr1.cell 2 _ rfl; have d3 := hr1.cell 3 _ rfl; have d4 := hr1.cell 4 _ rfl; clear hr1 hB)
                go_ret
                exact ⟨rfl, HB1.out⟩
            · have hv : ∀ q : Bool, holdV a ⟨p, m, 28, k, q⟩ = (false == q) := fun q => by unfold holdV; rw [if_neg (show ¬ ((28 : Int) = 25) by decide), if_neg (show ¬ ((28 : Int) = 26) by decide), if_neg (show ¬ ((28 : Int) = 27) by decide), if_pos rfl]; show (decide _ == q) = _; rw [decide_eq_false hc]
              have hq : (bits .and .u32 (a : Int) (k : Int) != 0) = false := by rw [u32_and_nat a k ha hk]; simpa using hc
              rw [hv]
              clear hv hc
              cases s
              all_goals
                go_enter Try.func51, Try.ntmps51
                go_wp2_with (go_at_call 74; refine HG.out.mono ?_; rintro e w1 ⟨rfl, hB⟩; have HB1 := Lib.hid (HB.out.trans (hB.mono HB.out.size)); have hr1 := HR.out.below hB HR.out.lt; have d1 := hr1.cell 1 _ rfl; have d2 := hr1.cell 2 _ rfl; have d3 := hr1.cell 3 _ rfl; have d4 := hr1.cell 4 _ rfl; clear hr1 hB)
                go_ret
                exact ⟨rfl, HB1.out⟩
          · have n28 : (d == 28) = false := by simpa using h28
            have hv : holdV a ⟨p, m, d, k, s⟩ = false := by unfold holdV; rw [if_neg h25, if_neg h26, if_neg h27, if_neg h28]
            rw [hv]
            go_enter Try.func51, Try.ntmps51
            go_wp2_with (go_at_call 74; refine HG.out.mono ?_; rintro e w1 ⟨rfl, hB⟩; have HB1 := Lib.hid (HB.out.trans (hB.mono HB.out.size)); have hr1 := HR.out.below hB HR.out.lt; have d1 := hr1.cell 1 _ rfl; have d2 := hr1.cell 2 _ rfl; have d3 := hr1.cell 3 _ rfl; have d4 := hr1.cell 4 _ rfl; clear hr1 hB)
            go_ret
            exact ⟨rfl, HB1.out⟩
  · have hv : holdF n f ⟨p, m, d, k, s⟩ = false := by unfold holdF; rw [if_neg hf]
    have hfe : (flt (n : Int) p 4 != 0) = true := by simpa using hf
    rw [hv]
    rw [if_neg hf] at HG
    generalize flt (n : Int) p 4 = z at *
    clear hby
    go_enter Try.func51, Try.ntmps51
    go_wp2_with (go_at_call 74; refine HG.out.mono ?_; rintro e w1 ⟨rfl, hB⟩)
    go_ret
    exact ⟨rfl, HB.out.trans (hB.mono HB.out.size)⟩
set_option maxRecDepth 100000 in
set_option maxHeartbeats 4000000 in
theorem fails_any (x : TV) (A : Option Addr) (n c : Nat) (f : Nat → Nat) (R : Nat) (w : World) (hx : x.ok) (hn : n ≤ 1000) (hby : Byt w w.heap.size A n c f) (hR : w.cell? ⟨R, 0, none⟩ = some (.slice A n c)) (hlt : R < w.heap.size) :
    Calls Try.prog 50 #[.agg #[.int .i64 x.p, .int .u32 x.m, .int .i64 x.d, .int .u32 x.k, .bool x.s], .pointer (some ⟨R, 0, none⟩)] w fun e w' => e = .returned (.bool (!holdF n f x)) ∧ Below w.heap.size w w' := by
  have hb0 : Below w.heap.size w (w.alloc (.cells #[.int .i64 x.p, .int .u32 x.m, .int .i64 x.d, .int .u32 x.k, .bool x.s] 106)) := (Below.refl _ _).alloc (Nat.le_refl _) _
  have hr : RowC (w.alloc (.cells #[.int .i64 x.p, .int .u32 x.m, .int .i64 x.d, .int .u32 x.k, .bool x.s] 106)) w.heap.size #[.int .i64 x.p, .int .u32 x.m, .int .i64 x.d, .int .u32 x.k, .bool x.s] 106 := RowC.new _ _ _ _ rfl
  have HF := Lib.hid (holds_any x A n c f _ hx hn ((hby.below hb0).more hb0.size))
  have d0 := hr.cell 0 _ rfl
  have d1 := hr.cell 1 _ rfl
  have d2 := hr.cell 2 _ rfl
  have d3 := hr.cell 3 _ rfl
  have d4 := hr.cell 4 _ rfl
  have e0 := (hb0.cell (p := ⟨R, 0, none⟩) hlt).trans hR
  have HB := Lib.hid hb0
  clear hb0 hr hx hby hR
  generalize holdF n f x = q at *
  go_enter Try.func50, Try.ntmps50
  go_wp2_with (go_at_call 51; refine HF.out.mono ?_; rintro e w1 ⟨rfl, hB⟩)
  go_ret
  exact ⟨rfl, HB.out.trans (hB.mono HB.out.size)⟩
/-- Do all tests tell so? -/
def allF (n : Nat) (f : Nat → Nat) (G : Nat → TV) (m : Nat) : Bool := (List.range m).all fun i => holdF n f (G i)
theorem allF_succ (n : Nat) (f : Nat → Nat) (G : Nat → TV) (m : Nat) : allF n f G (m + 1) = (allF n f G m && holdF n f (G m)) := by unfold allF; rw [List.range_succ, List.all_append]; simp
theorem allF_not {n : Nat} {f : Nat → Nat} {G : Nat → TV} {m k : Nat} (hk : k < m) (h : holdF n f (G k) = false) : allF n f G m = false := by
  unfold allF
  rw [List.all_eq_false]
  exact ⟨k, List.mem_range.2 hk, by rw [h]; simp⟩
set_option maxRecDepth 100000 in
set_option maxHeartbeats 4000000 in
theorem indexT_any (T : Option Addr) (m d : Nat) (G : Nat → TV) (A : Option Addr) (n c : Nat) (f : Nat → Nat) (R : Nat) (w : World) (hm : m ≤ 1000000) (hT : Cel w w.heap.size 5 T m d (tscell G)) (hok : ∀ i, i < m → (G i).ok) (hn : n ≤ 1000) (hby : Byt w w.heap.size A n c f) (hR : w.cell? ⟨R, 0, none⟩ = some (.slice A n c)) (hlt : R < w.heap.size) :
    Calls Try.prog 75 #[.slice T m d, .func (.func 50) #[] #[.pointer (some ⟨R, 0, none⟩)]] w fun e w' =>
      (∃ z : Int, e = .returned (.int .i64 z) ∧ (decide (z ≥ 0) = !allF n f G m)) ∧ Below w.heap.size w w' := by
  have HC := Lib.hid hT
  have HOK := Lib.hid hok
  have HBY := Lib.hid hby
  have HRR := Lib.hid hR
  clear hT hok hby hR
  go_enter Try.func75, Try.ntmps75
  go_wp2
  go_loopw [8] (fun i wr => ∃ k : Nat, k ≤ m ∧ i = .int .i64 k ∧ Below w.heap.size w wr ∧ Hid (allF n f G k = true))
    (fun i _ => m - (intOf i).toNat)
  case atStart => exact ⟨0, Nat.zero_le _, rfl, Below.refl _ _, Lib.hid rfl⟩
  case round =>
    obtain ⟨k, hk, rfl, hB, hno⟩ := hrel
    have HB := Lib.hid hB
    by_cases hl : k < m
    · obtain ⟨x, hx⟩ : ∃ x, G k = x := ⟨_, rfl⟩
      obtain ⟨b, o, rfl, hbl, q0, q1, q2, q3, q4⟩ := ts_at (HC.out.below hB) hl hx
      have HX := Lib.hid hx
      have hxo : x.ok := by rw [← hx]; exact HOK.out k hl
      have KB := Lib.hid (fails_any x A n c f R wr hxo hn ((HBY.out.below hB).more hB.size) ((hB.cell (p := ⟨R, 0, none⟩) hlt).trans HRR.out) (Nat.lt_of_lt_of_le hlt hB.size))
      have i1 : (0 : Int) ≤ (k : Int) := by omega
      have i2 : (k : Int) < (m : Int) := by omega
      clear hx hB hxo
      go_wp2_with (go_at_call 50; refine KB.out.mono ?_; rintro e w2 ⟨rfl, hB2⟩; cases hbes : holdF n f x)
      · have HB2 : Hid (Below w.heap.size w w2) := Lib.hid (HB.out.trans (hB2.mono HB.out.size))
        go_ret
        refine ⟨⟨(k : Int), rfl, ?_⟩, HB2.out⟩
        rw [allF_not hl (by rw [HX.out]; exact hbes)]
        simp
      · have HB2 : Hid (Below w.heap.size w w2) := Lib.hid (HB.out.trans (hB2.mono HB.out.size))
        exact ⟨⟨k + 1, by omega, by go_num, HB2.out, Lib.hid (by rw [allF_succ, hno.out, HX.out, hbes]; rfl)⟩, by simp [intOf]; omega⟩
    · obtain rfl : k = m := by omega
      clear hB
      go_wp2
      go_ret
      refine ⟨⟨-1, rfl, ?_⟩, HB.out⟩
      rw [hno.out]; decide
set_option maxRecDepth 100000 in
theorem containsT_any (T : Option Addr) (m d : Nat) (G : Nat → TV) (A : Option Addr) (n c : Nat) (f : Nat → Nat) (R : Nat) (w : World) (hm : m ≤ 1000000) (hT : Cel w w.heap.size 5 T m d (tscell G)) (hok : ∀ i, i < m → (G i).ok) (hn : n ≤ 1000) (hby : Byt w w.heap.size A n c f) (hR : w.cell? ⟨R, 0, none⟩ = some (.slice A n c)) (hlt : R < w.heap.size) :
    Calls Try.prog 52 #[.slice T m d, .func (.func 50) #[] #[.pointer (some ⟨R, 0, none⟩)]] w fun e w' =>
      e = .returned (.bool (!allF n f G m)) ∧ Below w.heap.size w w' := by
  have hI := indexT_any T m d G A n c f R w hm hT hok hn hby hR hlt
  generalize allF n f G m = q at hI ⊢
  have HI := Lib.hid hI
  clear hT hok hby hR hI
  go_enter Try.func52, Try.ntmps52
  go_wp2_with (go_at_call 75; refine HI.out.mono ?_; rintro e w1 ⟨⟨z, rfl, hz⟩, hB⟩)
  go_ret
  exact ⟨by first | rfl | (rw [← hz]; rfl), hB⟩
set_option maxRecDepth 100000 in
set_option maxHeartbeats 4000000 in
theorem taken_any (T : Option Addr) (m d : Nat) (G : Nat → TV) (st : Int) (v : Int) (A : Option Addr) (n c : Nat) (f : Nat → Nat) (w : World) (hm : m ≤ 1000000) (hT : Cel w w.heap.size 5 T m d (tscell G)) (hok : ∀ i, i < m → (G i).ok) (hn : n ≤ 1000) (hby : Byt w w.heap.size A n c f) :
    Calls Try.prog 28 #[.agg #[.slice T m d, .int .i64 st, .int .u32 v], .slice A n c] w fun e w' => e = .returned (.bool (decide (n = 64) && allF n f G m)) ∧ Below w.heap.size w w' := by
  obtain ⟨W, hW⟩ : ∃ W, (w.alloc (.cells #[.slice T m d, .int .i64 st, .int .u32 v] 56)).alloc (.cells #[.slice A n c] 65) = W := ⟨_, rfl⟩
  have hb0 : Below w.heap.size w W := by rw [← hW]; exact ((Below.refl _ _).alloc (Nat.le_refl _) _).alloc (by simp) _
  have hr0 : RowC W w.heap.size #[.slice T m d, .int .i64 st, .int .u32 v] 56 := by rw [← hW]; exact (RowC.new _ _ _ _ rfl).alloc _
  have hr1 : RowC W (w.heap.size + 1) #[.slice A n c] 65 := by rw [← hW]; exact RowC.new _ _ _ _ (by simp)
  have HF := Lib.hid (containsT_any T m d G A n c f (w.heap.size + 1) W hm ((hT.below hb0).more hb0.size) hok hn ((hby.below hb0).more hb0.size) (hr1.cell 0 _ rfl) hr1.lt)
  have d0 := hr0.cell 0 _ rfl
  have e0 := hr1.cell 0 _ rfl
  have HB := Lib.hid hb0
  clear hT hok hby hb0 hr0 hr1
  generalize allF n f G m = q at *
  by_cases h64 : n = 64
  · subst h64
    subst hW
    go_enter Try.func28, Try.ntmps28
    go_wp2_with (go_at_call 52; refine HF.out.mono ?_; rintro e w1 ⟨rfl, hB⟩)
    go_ret
    exact ⟨by simp, HB.out.trans (hB.mono HB.out.size)⟩
  · have i1 : ¬ (n : Int) = 64 := by omega
    subst hW
    go_enter Try.func28, Try.ntmps28
    go_wp2
    go_ret
    exact ⟨by simp [h64], HB.out⟩
end Go.Proofs.Ytmndolojfdekdaa
