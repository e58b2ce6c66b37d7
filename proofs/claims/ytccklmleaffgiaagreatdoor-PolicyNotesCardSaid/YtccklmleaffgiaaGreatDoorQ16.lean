/-
  Layer 14: the words that an action, a condition, a rule's line begin with; what the readers answer there.
-/
import Derived.Test.YtccklmleaffgiaaGreatDoorQ14
import Derived.Test.YtccklmleaffgiaaGreatDoorRkq
import Derived.Test.YtccklmleaffgiaaGreatDoorHzq
import Derived.Test.YtccklmleaffgiaaGreatDoorGzq
import Derived.Test.YtccklmleaffgiaaGreatDoorQ18
import Derived.Defers
namespace Go.Proofs.YtccklmleaffgiaaGreatDoor
open Go.RowKit Go.Shelf
set_option linter.unusedVariables false

/-- From word p on the words are of an action (k, u), m words. -/
def ActP (wd : Nat → ByteArray) (n p : Nat) (k u : Int) (m : Nat) : Prop :=
  ∃ j : Nat, j < 8 ∧ p < n ∧ wd p = kwA j ∧ k = (j : Int) + 1 ∧ ((knA j = false ∧ u = 0 ∧ m = 1) ∨ (knA j = true ∧ p + 1 < n ∧ m = 2 ∧ ∃ v : Nat, v < 1000000000 ∧ mayA j (v : Int) = true ∧ u = (v : Int) ∧ wd (p + 1) = dec v))
theorem cells_on {w W : World} {b o n : Nat} {wd : Nat → ByteArray} (hW : Below w.heap.size w W) (hw : ∀ i, i < n → w.cell? ⟨b, o + i, none⟩ = some (.string (wd i))) : ∀ i, i < n → W.cell? ⟨b, o + i, none⟩ = some (.string (wd i)) := fun i hi =>
  (hW.cell (World.block_lt_of_cell? _ _ (hw i hi))).trans (hw i hi)
theorem ActP.reads {wd : Nat → ByteArray} {n p : Nat} {k u : Int} {m : Nat} (h : ActP wd n p k u m) {b o c : Nat} (w : World) (hnc : n ≤ c) (ht : TabP w) (hw : ∀ i, i < n → w.cell? ⟨b, o + i, none⟩ = some (.string (wd i))) : ReadsA (some ⟨b, o + p, none⟩) (n - p) (c - p) k u m w := by
  intro W hW
  obtain ⟨j, hj, hp, hwp, rfl, hcase⟩ := h
  have hb := cells_on hW hw
  rcases hcase with ⟨hk, rfl, rfl⟩ | ⟨hk, hp1, rfl, v, hv, hm, rfl, hw1⟩
  · exact readA_plain_o j hj hk b (o + p) (n - p) (c - p) (by omega) W (by rw [hb p hp, hwp])
  · exact readA_num_o j hj hk v hv hm b (o + p) (n - p) (c - p) (by omega) W (by omega) (tab_on ht hW (Nat.le_refl _)) (by rw [hb p hp, hwp]) (by rw [Nat.add_assoc, hb (p + 1) hp1, hw1])
theorem ActP.le {wd : Nat → ByteArray} {n p : Nat} {k u : Int} {m : Nat} (h : ActP wd n p k u m) : p + m ≤ n ∧ 1 ≤ m ∧ (Lit.int .i64 k).wf = true ∧ (Lit.int .i64 u).wf = true := by
  obtain ⟨j, hj, hp, hwp, rfl, hcase⟩ := h
  have hk : (Lit.int .i64 ((j : Int) + 1)).wf = true := by
    match j, hj with
    | 0, _ => decide
    | 1, _ => decide
    | 2, _ => decide
    | 3, _ => decide
    | 4, _ => decide
    | 5, _ => decide
    | 6, _ => decide
    | 7, _ => decide
  rcases hcase with ⟨_, rfl, rfl⟩ | ⟨_, hp1, rfl, v, hv, _, rfl, _⟩
  · exact ⟨by omega, by omega, hk, by decide⟩
  · refine ⟨by omega, by omega, hk, ?_⟩
    show (decide (IntKind.i64.min ≤ (v : Int)) && decide ((v : Int) ≤ IntKind.i64.max)) = true
    rw [Bool.and_eq_true]
    exact ⟨decide_eq_true (show (-9223372036854775808 : Int) ≤ (v : Int) by omega), decide_eq_true (show (v : Int) ≤ (9223372036854775807 : Int) by omega)⟩
/-- From word p on the words are of a condition, m words. -/
def CondP (wd : Nat → ByteArray) (n p : Nat) (cd : CD) (m : Nat) : Prop :=
  ∃ i : Nat, i < 6 ∧ wd p = argW i ∧
    ((∃ j v : Nat, j < 6 ∧ v < 18446744073709551616 ∧ p + 3 ≤ n ∧ wd (p + 1) = sgO j ∧ wd (p + 2) = dec v ∧ cd = ⟨(i : Int), (j : Int) + 1, 0, v⟩ ∧ m = 3) ∨
     (∃ mk v : Nat, mk < 18446744073709551616 ∧ v < 18446744073709551616 ∧ p + 5 ≤ n ∧ wd (p + 1) = sgO 6 ∧ wd (p + 2) = dec mk ∧ wd (p + 3) = ⟨#[61, 61]⟩ ∧ wd (p + 4) = dec v ∧ cd = ⟨(i : Int), 7, mk, v⟩ ∧ m = 5))
theorem CondP.le {wd : Nat → ByteArray} {n p : Nat} {cd : CD} {m : Nat} (h : CondP wd n p cd m) : p + m ≤ n ∧ 1 ≤ m ∧ cd.m ≤ 18446744073709551615 ∧ cd.v ≤ 18446744073709551615 := by
  obtain ⟨i, hi, _, ⟨j, v, _, hv, hp, _, _, rfl, rfl⟩ | ⟨mk, v, hm, hv, hp, _, _, _, _, rfl, rfl⟩⟩ := h
  · exact ⟨hp, by omega, by simp, by simp; omega⟩
  · exact ⟨hp, by omega, by simp; omega, by simp; omega⟩
theorem CondP.reads {wd : Nat → ByteArray} {n p : Nat} {cd : CD} {m : Nat} (h : CondP wd n p cd m) {b o c : Nat} (w : World) (hnc : n ≤ c) (ht : TabP w) (hw : ∀ i, i < n → w.cell? ⟨b, o + i, none⟩ = some (.string (wd i))) :
    ∀ W, Below w.heap.size w W → Calls Tryz.prog 95 #[.slice (some ⟨b, o + p, none⟩) (n - p) (c - p)] W fun e w' => e = .returned (.tuple #[.agg #[.int .i64 cd.a, .int .i64 cd.o, .int .u64 cd.m, .int .u64 cd.v], .int .i64 m, .int .i64 0]) ∧ Below W.heap.size W w' := by
  intro W hW
  have hb := cells_on hW hw
  have htW := tab_on ht hW (Nat.le_refl _)
  obtain ⟨i, hi, hwp, ⟨j, v, hj, hv, hp, h1, h2, rfl, rfl⟩ | ⟨mk, v, hm, hv, hp, h1, h2, h3, h4, rfl, rfl⟩⟩ := h
  · exact readD_3 i hi j hj v (dec v) (fun X hX => number_dec v hv X hX) b (o + p) (n - p) (c - p) (by omega) W htW (by rw [hb p (by omega), hwp]) (by rw [Nat.add_assoc, hb (p + 1) (by omega), h1]) (by rw [Nat.add_assoc, hb (p + 2) (by omega), h2])
  · exact readD_5 i hi mk v (dec mk) (dec v) (fun X hX => number_dec mk hm X hX) (fun X hX => number_dec v hv X hX) b (o + p) (n - p) (c - p) (by omega) W htW (by rw [hb p (by omega), hwp]) (by rw [Nat.add_assoc, hb (p + 1) (by omega), h1]) (by rw [Nat.add_assoc, hb (p + 2) (by omega), h2]) (by rw [Nat.add_assoc, hb (p + 3) (by omega), h3]) (by rw [Nat.add_assoc, hb (p + 4) (by omega), h4])
/-- From word p on the conditions from j on. -/
inductive CondsP (wd : Nat → ByteArray) (n : Nat) : Nat → Nat → List CD → Prop
  | nil (j : Nat) : CondsP wd n n j []
  | cons (p j m : Nat) (cd : CD) (t : List CD) (hp : p < n) (hw : wd p = aheadW j) (hj : j < 6) (hc : CondP wd n (p + 1) cd m) (ht : CondsP wd n (p + 1 + m) (j + 1) t) : CondsP wd n p j (cd :: t)
theorem CondsP.six {wd : Nat → ByteArray} {n p j : Nat} {l : List CD} (h : CondsP wd n p j l) : l = [] ∨ j + l.length ≤ 6 := by
  induction h with
  | nil j => exact .inl rfl
  | cons p j m cd t hp hw hj hc ht ih =>
    right
    rcases ih with rfl | h
    · simp; omega
    · simp; omega
theorem CondsP.bound {wd : Nat → ByteArray} {n p j : Nat} {l : List CD} (h : CondsP wd n p j l) : ∀ z ∈ l, z.m ≤ 18446744073709551615 ∧ z.v ≤ 18446744073709551615 := by
  induction h with
  | nil j => exact fun z hz => by cases hz
  | cons p j m cd t hp hw hj hc ht ih =>
    intro z hz
    rcases List.mem_cons.1 hz with rfl | h
    · exact hc.le.2.2
    · exact ih z h
theorem CondsP.reads {wd : Nat → ByteArray} {n p j : Nat} {l : List CD} (h : CondsP wd n p j l) {b o c : Nat} (w : World) (hnc : n ≤ c) (ht : TabP w) (hw : ∀ i, i < n → w.cell? ⟨b, o + i, none⟩ = some (.string (wd i))) : CondsR w b o n c wd p j l := by
  induction h with
  | nil j => exact .nil j
  | cons p j m cd t hp hwp hj hc htt ih =>
    have hr := hc.reads w hnc ht hw
    rw [← Nat.add_assoc, ← Nat.sub_sub, ← Nat.sub_sub] at hr
    exact .cons p j m cd t hp hwp hj hc.le.1 hc.le.2.1 hr ih
/-- The line of a rule. -/
structure RuleP (wd : Nat → ByteArray) (n : Nat) (r : RV) : Prop where
  nm : wd 0 = r.nm
  name : nameB (wd 0) = true
  short : (wd 0).size ≤ 1000
  act : ∃ m, ActP wd n 1 r.k r.u m ∧ CondsP wd n (1 + m) 0 r.L
abbrev onW (b : Bool) : ByteArray := if b then ⟨#[111, 110]⟩ else ⟨#[111, 102, 102]⟩
/-- What a line's words do to what was read so far. -/
inductive StepP (pl n : Nat) (wd : Nat → ByteArray) : Int → Int → Bool → List RV → Int → Int → Bool → List RV → Prop
  | dflt (k0 u0 k u : Int) (x : Bool) (L : List RV) (h0 : pl = 0) (hw : wd 0 = dfW) (hn : 2 ≤ n) (ha : ActP wd n 1 k u (n - 1)) : StepP pl n wd k0 u0 x L k u x L
  | x32 (k u : Int) (x on : Bool) (L : List RV) (h0 : pl = 1) (hn : n = 2) (hw : wd 0 = x3W) (h1 : wd 1 = onW on) : StepP pl n wd k u x L k u on L
  | rule (k u : Int) (x : Bool) (L : List RV) (r : RV) (h0 : pl ≠ 0) (hd : wd 0 ≠ dfW) (hx : wd 0 ≠ x3W) (hl : L.length < 500) (hr : RuleP wd n r) : StepP pl n wd k u x L k u x (L ++ [r])
/-- The words of a line, by place. -/
def wdOf (ws : List (List UInt8)) (i : Nat) : ByteArray := ⟨(ws.getD i []).toArray⟩
/-- What lines do, from the place pl on. -/
inductive RunsP : Nat → List (List (List UInt8)) → Int → Int → Bool → List RV → Int → Int → Bool → List RV → Prop
  | nil (pl : Nat) (k u : Int) (x : Bool) (L : List RV) : RunsP pl [] k u x L k u x L
  | cons (pl : Nat) (ws : List (List UInt8)) (t : List (List (List UInt8))) (k u k1 u1 k2 u2 : Int) (x x1 x2 : Bool) (L L1 L2 : List RV) (h : StepP pl ws.length (wdOf ws) k u x L k1 u1 x1 L1) (ht : RunsP (pl + 1) t k1 u1 x1 L1 k2 u2 x2 L2) : RunsP pl (ws :: t) k u x L k2 u2 x2 L2
end Go.Proofs.YtccklmleaffgiaaGreatDoor

/-
  Layer 14: the reader's addRule where nothing is wrong.
-/
namespace Go.Proofs.YtccklmleaffgiaaGreatDoor
open Go.RowKit Go.Shelf
set_option linter.unusedVariables false

/-- No block below base but RB has turned. -/
def ButB (RB base : Nat) (w w' : World) : Prop := Below RB w w' ∧ ∀ b, b < base → b ≠ RB → w'.heap[b]? = w.heap[b]?
theorem ButB.of_below {RB base : Nat} {w w' : World} (hRB : RB < base) (h : Below w.heap.size w w') (hb : base ≤ w.heap.size) : ButB RB base w w' := ⟨h.mono (by omega), fun b hlt _ => h.block b (by omega)⟩
theorem ButB.of_r {RB base : Nat} {w w' : World} (h : ButR RB w w') (hb : base ≤ w.heap.size) : ButB RB base w w' := ⟨h.1, fun b hlt hne => h.2 b (by omega) hne⟩
theorem ButB.trans {RB base : Nat} {w w' w'' : World} (h : ButB RB base w w') (h' : ButB RB base w' w'') : ButB RB base w w'' := ⟨h.1.trans h'.1, fun b hb hn => (h'.2 b hb hn).trans (h.2 b hb hn)⟩
theorem ReadsA.later {w w' : World} {A : Option Addr} {n c : Nat} {k u : Int} {m : Nat} (h : ReadsA A n c k u m w) (hb : Below w.heap.size w w') : ReadsA A n c k u m w' := fun W hW => h W (hb.trans (hW.mono hb.size))
theorem range_getL (L : List CD) : (List.range L.length).map (fun i => L[i]!) = L := by
  apply List.ext_getElem?
  intro i
  rw [List.getElem?_map]
  by_cases h : i < L.length
  · rw [List.getElem?_range h, List.getElem?_eq_getElem h, Option.map_some, getElem!_pos L i h]
  · rw [List.getElem?_eq_none (by simpa using h), List.getElem?_eq_none (by omega)]
    rfl
theorem RowL.own_ge {w : World} {base : Nat} {A : Option Addr} {l : List RL} {c : Nat} (h : RowL w base A l c) : ∀ g, (Value.slice A l.length c).ownBlock = some g → base ≤ g := fun g hg => by
  rcases h.1.2 with ⟨hv, h0⟩ | ⟨gg, cap, cur, hv, hgg, hh, _⟩
  · rw [hv] at hg; cases hg
  · rw [hv] at hg
    cases hg
    exact hgg
theorem CondsR.later {w w' : World} {b o n c : Nat} {wd : Nat → ByteArray} {p j : Nat} {l : List CD} (hb : Below w.heap.size w w') (h : CondsR w b o n c wd p j l) : CondsR w' b o n c wd p j l := by
  induction h with
  | nil j => exact .nil j
  | cons p j m cd t hp hw hj hm hm1 hr ht ih => exact .cons p j m cd t hp hw hj hm hm1 (fun W hW => hr W (hb.trans (hW.mono hb.size))) ih
theorem wordsV_behind {b o n c m : Nat} (hm : 1 + m ≤ n) (hnc : n ≤ c) : WordsV b o n c (1 + m) (.slice (if c - 1 = m then some (⟨b, o + 1, none⟩ : Addr) else (some (⟨b, o + 1, none⟩ : Addr)).map (·.add m)) (n - 1 - m) (c - 1 - m)) := by
  by_cases h : 1 + m < n
  · refine .inl ⟨h, ?_⟩
    rw [if_neg (by omega), Option.map_some, addR, show o + 1 + m = o + (1 + m) by omega, show n - 1 - m = n - (1 + m) by omega, show c - 1 - m = c - (1 + m) by omega]
  · exact .inr ⟨by omega, _, _, by rw [show n - 1 - m = 0 by omega]⟩

set_option maxRecDepth 100000 in
set_option maxHeartbeats 8000000 in
theorem addRule_ok (RB base b o n c pl m : Nat) (k0 u0 k u : Int) (x : Bool) (RA : Option Addr) (l : List RL) (rc : Nat) (wd : Nat → ByteArray) (CL : List CD) (w : World) (h : RowC w RB (rdA k0 u0 x (.slice RA l.length rc) pl) 90) (hown : RowL w base RA l rc) (hRB : RB < base) (hbase : base ≤ w.heap.size) (hbb : b < base) (hbR : b ≠ RB) (hl : l.length < 500)
    (hm : 1 + m ≤ n) (hm1 : 1 ≤ m) (hnc : n ≤ c) (hc : c ≤ 9223372036854775807) (hb : b < w.heap.size) (hw : ∀ i, i < n → w.cell? ⟨b, o + i, none⟩ = some (.string (wd i)))
    (hr : ReadsA (some ⟨b, o + 1, none⟩) (n - 1) (c - 1) k u m w) (hnm : nameB (wd 0) = true) (hcr : CondsR w b o n c wd (1 + m) 0 CL) (h6 : CL.length ≤ 6) (hs : (wd 0).size ≤ maxLen) (hk : (Lit.int .i64 k).wf = true) (hu : (Lit.int .i64 u).wf = true) (hcb : ∀ z ∈ CL, z.m ≤ 18446744073709551615 ∧ z.v ≤ 18446744073709551615) :
    Calls Tryz.prog 60 #[.pointer (some ⟨RB, 0, none⟩), .slice (some ⟨b, o, none⟩) n c] w fun e w' => e = .returned (.tuple #[]) ∧ ∃ RA' rc' r, RowC w' RB (rdA k0 u0 x (.slice RA' (l.length + 1) rc') pl) 90 ∧ RowL w' base RA' (l ++ [r]) rc' ∧ r.val = ⟨wd 0, k, u, CL⟩ ∧ ButB RB base w w' := by
  have K1 := Lib.hid (actionOf_ok (some ⟨b, o + 1, none⟩) (n - 1) (c - 1) m k u w (by omega) (by omega) (by omega) hr)
  have HV := Lib.hid (wordsV_behind (b := b) (o := o) hm hnc)
  obtain ⟨V9, hV9⟩ : ∃ z, Value.slice (if c - 1 = m then some (⟨b, o + 1, none⟩ : Addr) else (some (⟨b, o + 1, none⟩ : Addr)).map (·.add m)) (n - 1 - m) (c - 1 - m) = z := ⟨_, rfl⟩
  rw [hV9] at K1 HV
  obtain ⟨n1, hn1⟩ : ∃ z, n - 1 = z := ⟨_, rfl⟩
  obtain ⟨c1, hc1⟩ : ∃ z, c - 1 = z := ⟨_, rfl⟩
  rw [hn1, hc1] at K1
  have HN := Lib.hid (And.intro hn1 hc1)
  have HR := Lib.hid h
  have HO := Lib.hid hown
  have HWD := Lib.hid hw
  have HCR := Lib.hid hcr
  have HNM := Lib.hid hnm
  have HWF := Lib.hid (And.intro hs (And.intro hk (And.intro hu hcb)))
  obtain ⟨ln, hln⟩ : ∃ z, l.length = z := ⟨_, rfl⟩
  have HLN := Lib.hid hln
  have r3 := h.cell 3 (.slice RA l.length rc) rfl
  rw [hln] at r3 hl
  have i1 : (1 : Int) ≤ (n : Int) := by omega
  have i2 : (n : Int) ≤ (c : Int) := by omega
  have i3 : ¬ c = 1 := by omega
  have i4 : ((ln : Int) == 500) = false := by simp; omega
  have i5 : (0 : Int) < (n : Int) := by omega
  have i6 : 0 < n := by omega
  clear hr hV9 h hown hcr hnm hs hk hu hcb hln
  go_enter Tryz.func60, Tryz.ntmps60
  go_wp2_with fail
  (try rw [hn1, hc1])
  refine K1.out.mono ?_
  rintro e w1 ⟨rfl, hB1⟩
  obtain ⟨X, hX⟩ : ∃ X, w1.heap.size = X := ⟨_, rfl⟩
  have hXe := Lib.hid hX
  have HB1s := Lib.hid hB1.size
  obtain ⟨W2, hW2⟩ : ∃ W, w1.alloc (.cells #[.int .i64 k, .int .i64 u] 23) = W := ⟨_, rfl⟩
  have hB2 : Below X w1 W2 := by rw [← hW2, ← hX]; exact (Below.refl _ _).alloc (Nat.le_refl _) _
  have hB02 : Below w.heap.size w W2 := hB1.trans (hB2.mono (by have := hB1.size; omega))
  have hA2 : RowC W2 X #[.int .i64 k, .int .i64 u] 23 := by rw [← hW2, ← hX]; exact RowC.new _ _ _ _ rfl
  have HA2 := Lib.hid hA2
  have HB02 := Lib.hid hB02
  have HW2 := Lib.hid hW2
  obtain ⟨nm, hnm⟩ : ∃ z, wd 0 = z := ⟨_, rfl⟩
  have HNM0 := Lib.hid hnm
  have q0 : W2.cell? ⟨b, o, none⟩ = some (.string nm) := by rw [hB02.cell (show b < w.heap.size from hb), ← hnm]; exact HWD.out 0 i6
  clear hB1 hB2 hB02 hA2 hW2 hnm
  go_upto_region 3 with fail
  (try rw [hX])
  (try rw [HW2.out])
  clear hX r3
  go_wp2_with fail
  refine (policyName_any nm _).mono ?_
  rw [← HNM0.out, HNM.out]
  rintro e w3 ⟨rfl, hB3⟩
  have hB3' : Below w.heap.size w w3 := HB02.out.trans (hB3.mono HB02.out.size)
  have hr3 := HR.out.below hB3' HR.out.lt
  have hx3 := HA2.out.below hB3 HA2.out.lt
  have HR3 := Lib.hid hr3
  have HX3 := Lib.hid hx3
  have HO3 := Lib.hid (HO.out.below hB3' (Nat.le_refl _))
  have HB3 := Lib.hid hB3'
  have hs3 := hB3'.size
  have hq3 : w3.cell? ⟨b, o, none⟩ = some (.string nm) := by rw [hB3'.cell (show b < w.heap.size from hb), ← HNM0.out]; exact HWD.out 0 i6
  have hRs : RB < w3.heap.size := by omega
  have HS0 : Hid (∀ Z, Below w3.heap.size w3 Z → Z.cell? ⟨RB, 3, none⟩ = some (.slice RA ln rc) ∧ Z.cell? ⟨b, o, none⟩ = some (.string nm) ∧ Z.cell? ⟨X, 0, none⟩ = some (.int .i64 k) ∧ Z.cell? ⟨X, 1, none⟩ = some (.int .i64 u)) :=
    Lib.hid fun Z hZ => ⟨by rw [← HLN.out]; exact (HR3.out.below hZ HR3.out.lt).cell 3 _ rfl, (hZ.cell (p := ⟨b, o, none⟩) (show b < w3.heap.size by omega)).trans hq3, (HX3.out.below hZ HX3.out.lt).cell 0 _ rfl, (HX3.out.below hZ HX3.out.lt).cell 1 _ rfl⟩
  have KC : Hid (∀ Z, Below w3.heap.size w3 Z → Calls Tryz.prog 78 #[V9] Z fun e w' => ∃ A' c', e = .returned (.slice A' CL.length c') ∧ RuT w' ⟨nm, k, u, A', CL.length, c', fun i => CL[i]!⟩ ∧ Below Z.heap.size Z w') := Lib.hid fun Z hZ => by
    have hwz : Below w.heap.size w Z := HB3.out.trans (hZ.mono HB3.out.size)
    refine (condsOf_ok b o n c wd V9 (1 + m) CL Z HV.out hnc hc (Nat.lt_of_lt_of_le hb hwz.size) (fun i hi => by rw [hwz.cell (show b < w.heap.size from hb)]; exact HWD.out i hi) (HCR.out.later hwz) h6).mono ?_
    rintro e w' ⟨A7, c7, rfl, hown7, hB7⟩
    have hct := ConT.of_own hown7 (fun i hi => HWF.out.2.2.2 _ (by rw [getElem!_pos CL i hi]; exact List.getElem_mem hi))
    exact ⟨A7, c7, rfl, ⟨by rw [← HNM0.out]; exact HWF.out.1, HWF.out.2.1, HWF.out.2.2.1, hct.2.1, hct.2.2, hct.1⟩, hB7⟩
  have HSB : Hid (∀ W Z row, Below w3.heap.size w3 W → W.grownBy Z row → (∀ g, row = some g → base ≤ g ∧ TyAt W g 50) → Z.cell? ⟨b, o, none⟩ = some (.string nm) ∧ Z.cell? ⟨X, 0, none⟩ = some (.int .i64 k) ∧ Z.cell? ⟨X, 1, none⟩ = some (.int .i64 u)) :=
    Lib.hid fun W Z row hW hg hrow => by
      have hxW := HX3.out.below hW HX3.out.lt
      have hxZ : RowC Z X #[.int .i64 k, .int .i64 u] 23 := (hg.block X hxW.lt fun e => by
        obtain ⟨_, cs, fr, hh⟩ := hrow X e.symm
        rw [show W.heap[X]? = _ from hxW] at hh
        injection hh with hh
        injection hh with _ hh
        exact absurd hh (by decide)).trans hxW
      have hbw : b < W.heap.size := Nat.lt_of_lt_of_le (show b < w3.heap.size by omega) hW.size
      have hbZ : Z.heap[b]? = W.heap[b]? := hg.block b hbw fun e => by have := (hrow b e.symm).1; omega
      refine ⟨?_, hxZ.cell 0 _ rfl, hxZ.cell 1 _ rfl⟩
      have := (hW.cell (p := ⟨b, o, none⟩) (show b < w3.heap.size by omega)).trans hq3
      rw [← this]
      unfold World.cell?
      rw [hbZ]
  have hXb : base ≤ X := by rw [← hXe.out]; have := HB1s.out; omega
  have HSC : Hid (∀ (Z : World) (v : Value), (Z.cell? ⟨b, o, none⟩ = some (.string nm) ∧ Z.cell? ⟨X, 0, none⟩ = some (.int .i64 k) ∧ Z.cell? ⟨X, 1, none⟩ = some (.int .i64 u)) → (Z.setCell ⟨RB, 3, none⟩ v).cell? ⟨b, o, none⟩ = some (.string nm) ∧ (Z.setCell ⟨RB, 3, none⟩ v).cell? ⟨X, 0, none⟩ = some (.int .i64 k) ∧ (Z.setCell ⟨RB, 3, none⟩ v).cell? ⟨X, 1, none⟩ = some (.int .i64 u)) := Lib.hid fun (Z : World) (v : Value) ⟨e1, e2, e3⟩ => by
    have ne : ∀ (g i : Nat), g ≠ RB → (Z.setCell ⟨RB, 3, none⟩ v).cell? ⟨g, i, none⟩ = Z.cell? ⟨g, i, none⟩ := fun g i hg => by
      unfold World.cell?
      rw [Below.heap_setCell Z ⟨RB, 3, none⟩ v g hg]
    exact ⟨(ne b o hbR).trans e1, (ne X 0 (by omega)).trans e2, (ne X 1 (by omega)).trans e3⟩
  have hk0 : Below w3.heap.size w3 w3.drew := (Below.refl _ w3).drew
  obtain ⟨cl, hcl⟩ : ∃ z, CL.length = z := ⟨_, rfl⟩
  have HCL := Lib.hid hcl
  rw [hcl] at KC
  clear hB3 hB3' hr3 hx3 hq3 hcl q0
  go_wp2_with fail
  obtain ⟨d0, d1, d2, d3⟩ := HS0.out w3 (Below.refl _ _)
  refine wp_region_held_drew (S := fun w' => w'.cell? ⟨b, o, none⟩ = some (.string nm) ∧ w'.cell? ⟨X, 0, none⟩ = some (.int .i64 k) ∧ w'.cell? ⟨X, 1, none⟩ = some (.int .i64 u)) (by kernel_rfl) ⟨d1, d2, d3⟩ (fun hHeld => ?_)
  refine wpAnyH_take (i := 0) (oi := ({ dst := some 26, op := Op.move (Operand.tmp 0), type := 125, pos := "policy.go:191", after := #[], guard := none } : Oper)) (v := ?vz0) rfl (by kernel_rfl) (by kernel_rfl) (by kernel_rfl) (fun _ _ _ h => h) (Or.inl ⟨by rfl, ?hz0⟩) hHeld ?rz0
  case hz0 =>
    intro w hSw
    obtain ⟨hSw1, hSw2, hSw3⟩ := hSw
    go_simp
    all_goals with_reducible rfl
  try simp only [Act.put, List.setIfInBounds_toArray, List.set_cons_zero, List.set_cons_succ]
  refine wpAnyH_take (i := 1) (oi := ({ dst := some 27, op := Op.move (Operand.tmp 0), type := 125, pos := "policy.go:191", after := #[], guard := none } : Oper)) (v := ?vz1) rfl (by kernel_rfl) (by kernel_rfl) (by kernel_rfl) (fun _ _ _ h => h) (Or.inl ⟨by rfl, ?hz1⟩) hHeld ?rz1
  case hz1 =>
    intro w hSw
    obtain ⟨hSw1, hSw2, hSw3⟩ := hSw
    go_simp
    all_goals with_reducible rfl
  try simp only [Act.put, List.setIfInBounds_toArray, List.set_cons_zero, List.set_cons_succ]
  refine wpAnyH_take (i := 2) (oi := ({ dst := some 28, op := Op.nilCheck (Operand.tmp 27), type := 0, pos := "policy.go:191", after := #[{ on := 1, ground := Ground.data }], guard := none } : Oper)) (v := ?vz2) rfl (by kernel_rfl) (by kernel_rfl) (by kernel_rfl) (fun _ _ _ h => h) (Or.inl ⟨by rfl, ?hz2⟩) hHeld ?rz2
  case hz2 =>
    intro w hSw
    obtain ⟨hSw1, hSw2, hSw3⟩ := hSw
    go_simp
    all_goals with_reducible rfl
  try simp only [Act.put, List.setIfInBounds_toArray, List.set_cons_zero, List.set_cons_succ]
  refine wpAnyH_take (i := 3) (oi := ({ dst := some 29, op := Op.fieldAddr 90 (Operand.tmp 28) 0, type := 0, pos := "policy.go:191", after := #[{ on := 2, ground := Ground.data }], guard := none } : Oper)) (v := ?vz3) rfl (by kernel_rfl) (by kernel_rfl) (by kernel_rfl) (fun _ _ _ h => h) (Or.inl ⟨by rfl, ?hz3⟩) hHeld ?rz3
  case hz3 =>
    intro w hSw
    obtain ⟨hSw1, hSw2, hSw3⟩ := hSw
    go_simp
    all_goals with_reducible rfl
  try simp only [Act.put, List.setIfInBounds_toArray, List.set_cons_zero, List.set_cons_succ]
  refine wpAnyH_take (i := 4) (oi := ({ dst := some 30, op := Op.fieldAddr 26 (Operand.tmp 29) 2, type := 0, pos := "policy.go:191", after := #[{ on := 3, ground := Ground.data }], guard := none } : Oper)) (v := ?vz4) rfl (by kernel_rfl) (by kernel_rfl) (by kernel_rfl) (fun _ _ _ h => h) (Or.inl ⟨by rfl, ?hz4⟩) hHeld ?rz4
  case hz4 =>
    intro w hSw
    obtain ⟨hSw1, hSw2, hSw3⟩ := hSw
    go_simp
    all_goals with_reducible rfl
  try simp only [Act.put, List.setIfInBounds_toArray, List.set_cons_zero, List.set_cons_succ]
  refine wpAnyH_take (i := 6) (oi := ({ dst := some 32, op := Op.move (Operand.tmp 1), type := 83, pos := "policy.go:191", after := #[], guard := none } : Oper)) (v := ?vz6) rfl (by kernel_rfl) (by kernel_rfl) (by kernel_rfl) (fun _ _ _ h => h) (Or.inl ⟨by rfl, ?hz6⟩) hHeld ?rz6
  case hz6 =>
    intro w hSw
    obtain ⟨hSw1, hSw2, hSw3⟩ := hSw
    go_simp
    all_goals with_reducible rfl
  try simp only [Act.put, List.setIfInBounds_toArray, List.set_cons_zero, List.set_cons_succ]
  refine wpAnyH_take (i := 7) (oi := ({ dst := some 33, op := Op.indexAddr 83 (Operand.tmp 32) (Operand.const (Value.int IntKind.i64 0)), type := 0, pos := "policy.go:191", after := #[{ on := 6, ground := Ground.data }], guard := none } : Oper)) (v := ?vz7) rfl (by kernel_rfl) (by kernel_rfl) (by kernel_rfl) (fun _ _ _ h => h) (Or.inl ⟨by rfl, ?hz7⟩) hHeld ?rz7
  case hz7 =>
    intro w hSw
    obtain ⟨hSw1, hSw2, hSw3⟩ := hSw
    go_simp
    all_goals with_reducible rfl
  try simp only [Act.put, List.setIfInBounds_toArray, List.set_cons_zero, List.set_cons_succ]
  refine wpAnyH_take (i := 8) (oi := ({ dst := some 34, op := Op.load 9 (Operand.tmp 33), type := 9, pos := "policy.go:191", after := #[{ on := 7, ground := Ground.data }], guard := none } : Oper)) (v := ?vz8) rfl (by kernel_rfl) (by kernel_rfl) (by kernel_rfl) (fun _ _ _ h => h) (Or.inl ⟨by rfl, ?hz8⟩) hHeld ?rz8
  case hz8 =>
    intro w hSw
    obtain ⟨hSw1, hSw2, hSw3⟩ := hSw
    go_simp
    all_goals with_reducible rfl
  try simp only [Act.put, List.setIfInBounds_toArray, List.set_cons_zero, List.set_cons_succ]
  refine wpAnyH_take (i := 9) (oi := ({ dst := some 35, op := Op.load 23 (Operand.tmp 4), type := 23, pos := "policy.go:191", after := #[], guard := none } : Oper)) (v := ?vz9) rfl (by kernel_rfl) (by kernel_rfl) (by kernel_rfl) (fun _ _ _ h => h) (Or.inl ⟨by rfl, ?hz9⟩) hHeld ?rz9
  case hz9 =>
    intro w hSw
    obtain ⟨hSw1, hSw2, hSw3⟩ := hSw
    go_simp
    all_goals with_reducible rfl
  try simp only [Act.put, List.setIfInBounds_toArray, List.set_cons_zero, List.set_cons_succ]
  refine wpAnyH_take (i := 10) (oi := ({ dst := some 36, op := Op.move (Operand.tmp 5), type := 83, pos := "policy.go:191", after := #[], guard := none } : Oper)) (v := ?vz10) rfl (by kernel_rfl) (by kernel_rfl) (by kernel_rfl) (fun _ _ _ h => h) (Or.inl ⟨by rfl, ?hz10⟩) hHeld ?rz10
  case hz10 =>
    intro w hSw
    obtain ⟨hSw1, hSw2, hSw3⟩ := hSw
    go_simp
    all_goals with_reducible rfl
  try simp only [Act.put, List.setIfInBounds_toArray, List.set_cons_zero, List.set_cons_succ]
  refine wpAnyH_ready (rs := [5, 11]) (by kernel_rfl) (by simp) ?_
  refine AllReadyH.cons (o := ({ dst := some 31, op := Op.load 24 (Operand.tmp 30), type := 24, pos := "policy.go:191", after := #[{ on := 4, ground := Ground.data }], guard := none } : Oper)) rfl (fun K hK => ?_) (AllReadyH.cons (o := ({ dst := some 37, op := Op.call { callee := Callee.value (Operand.func 78), args := #[Operand.tmp 36], argTypes := #[83] }, type := 48, pos := "policy.go:191", after := #[{ on := 10, ground := Ground.data }], guard := none } : Oper)) rfl (fun K hK => ?_) AllReadyH.nil)
  · go_simp
    refine hK.out _ _ ?ka5 (fun hHeld2 => ?_)
    case ka5 => exact ⟨d1, d2, d3⟩
    clear hK K
    try simp only [Act.put, List.setIfInBounds_toArray, List.set_cons_zero, List.set_cons_succ]
    replace hHeld := hHeld2
    clear hHeld2
    refine wpAnyH_ready (rs := [11]) (by kernel_rfl) (by simp) ?_
    refine AllReadyH.cons (o := ({ dst := some 37, op := Op.call { callee := Callee.value (Operand.func 78), args := #[Operand.tmp 36], argTypes := #[83] }, type := 48, pos := "policy.go:191", after := #[{ on := 10, ground := Ground.data }], guard := none } : Oper)) rfl (fun K hK => ?_) AllReadyH.nil
    go_simp
    refine (KC.out _ (by first | exact hk0 | exact Below.refl _ _)).mono ?_
    rintro e w7 ⟨A7, c7, rfl, hru7, hB7⟩
    have hk1 : Below w3.heap.size w3 w7 := bTr hk0 hB7
    have d0 := (HS0.out w7 hk1).1
    have hS7 := (HS0.out w7 hk1).2
    try go_wp2_with fail
    refine hK.out _ _ ?ka11 (fun hHeld2 => ?_)
    case ka11 => exact hS7
    clear hK K
    try simp only [Act.put, List.setIfInBounds_toArray, List.set_cons_zero, List.set_cons_succ]
    replace hHeld := hHeld2
    clear hHeld2
    refine wpAnyH_take (i := 12) (oi := ({ dst := some 38, op := Op.build 50 #[(0, Operand.tmp 34), (1, Operand.tmp 35), (2, Operand.tmp 37)], type := 50, pos := "policy.go:191", after := #[{ on := 8, ground := Ground.data }, { on := 9, ground := Ground.data }, { on := 11, ground := Ground.data }], guard := none } : Oper)) (v := ?va12) rfl (by kernel_rfl) (by kernel_rfl) (by kernel_rfl) (fun _ _ _ h => h) (Or.inl ⟨by rfl, ?ha12⟩) hHeld ?ra12
    case ha12 =>
      intro w hSw
      obtain ⟨hSw1, hSw2, hSw3⟩ := hSw
      go_simp
      all_goals with_reducible rfl
    try simp only [Act.put, List.setIfInBounds_toArray, List.set_cons_zero, List.set_cons_succ]
    refine wpAnyH_ready (rs := [13]) (by kernel_rfl) (by simp) ?_
    refine AllReadyH.cons (o := ({ dst := some 39, op := Op.buildSlice 24 1 #[(0, Operand.tmp 38)], type := 24, pos := "policy.go:191", after := #[{ on := 12, ground := Ground.data }], guard := none } : Oper)) rfl (fun K hK => ?_) AllReadyH.nil
    go_simp
    have hk2 : Below w3.heap.size w3 (w7.alloc (.cells #[.string nm, .int .i64 k, .int .i64 u, .slice A7 cl c7] 50)) := hk1.alloc hk1.size _
    have d0 := (HS0.out _ hk2).1
    have hS8 := (HS0.out _ hk2).2
    refine hK.out _ _ ?ka13 (fun hHeld2 => ?_)
    case ka13 => exact hS8
    clear hK K
    try simp only [Act.put, List.setIfInBounds_toArray, List.set_cons_zero, List.set_cons_succ]
    replace hHeld := hHeld2
    clear hHeld2
    refine wpAnyH_ready (rs := [14]) (by kernel_rfl) (by simp) ?_
    refine AllReadyH.cons (o := ({ dst := some 40, op := Op.call { callee := Callee.builtin Builtin.append, args := #[Operand.tmp 31, Operand.tmp 39], argTypes := #[24, 24] }, type := 24, pos := "policy.go:191", after := #[{ on := 5, ground := Ground.data }, { on := 13, ground := Ground.data }, { on := 11, ground := Ground.chain }], guard := none } : Oper)) rfl (fun K hK => ?_) AllReadyH.nil
    refine step_rule (by rfl) _ _ (by rfl) (l := l) (by rw [HLN.out]; rfl) ((HO3.out.below hk1 (Nat.le_refl _)).alloc _) (r := ⟨nm, k, u, A7, cl, c7, fun i => CL[i]!⟩) (by rfl) (RowC.new _ _ _ _ (by rfl)) (hru7.keep ((KeepC.refl _).alloc _)) (by rw [HLN.out]; omega) (by have := hk1.size; simp; omega) ?_
    rintro g2 c2 w2 hown2 hgr2 _ _ hB2
    have hk3 : Below base w3 w2 := (hk1.mono (by omega)).trans (((Below.refl _ w7).alloc (by have := hk1.size; omega) _).trans hB2)
    have hS9 := HSB.out _ w2 _ (hk1.alloc hk1.size _) hgr2 fun g hg => ⟨RowL.own_ge (HO3.out.below hk1 (Nat.le_refl _)) g hg, RowL.ty ((HO3.out.below hk1 (Nat.le_refl _)).alloc _) g hg⟩
    have hx2 := HR3.out.below hk3 hRB
    have x3 := hx2.cell 3 (.slice RA l.length rc) rfl
    have y3 := hx2.frozen 3
    refine hK.out _ _ ?ka14 (fun hHeld2 => ?_)
    case ka14 => exact hS9
    clear hK K
    try simp only [Act.put, List.setIfInBounds_toArray, List.set_cons_zero, List.set_cons_succ]
    replace hHeld := hHeld2
    clear hHeld2
    refine wpAnyH_take (i := 15) (oi := ({ dst := some 41, op := Op.nilCheck (Operand.tmp 26), type := 0, pos := "policy.go:191", after := #[{ on := 0, ground := Ground.data }, { on := 0, ground := Ground.phase }, { on := 1, ground := Ground.phase }, { on := 2, ground := Ground.phase }, { on := 3, ground := Ground.phase }, { on := 4, ground := Ground.phase }, { on := 5, ground := Ground.phase }, { on := 6, ground := Ground.phase }, { on := 7, ground := Ground.phase }, { on := 8, ground := Ground.phase }, { on := 9, ground := Ground.phase }, { on := 10, ground := Ground.phase }, { on := 11, ground := Ground.phase }, { on := 12, ground := Ground.phase }, { on := 13, ground := Ground.phase }, { on := 14, ground := Ground.phase }], guard := none } : Oper)) (v := ?va15) rfl (by kernel_rfl) (by kernel_rfl) (by kernel_rfl) (fun _ _ _ h => h) (Or.inl ⟨by rfl, ?ha15⟩) hHeld ?ra15
    case ha15 =>
      intro w hSw
      obtain ⟨hSw1, hSw2, hSw3⟩ := hSw
      go_simp
      all_goals with_reducible rfl
    try simp only [Act.put, List.setIfInBounds_toArray, List.set_cons_zero, List.set_cons_succ]
    refine wpAnyH_take (i := 16) (oi := ({ dst := some 42, op := Op.fieldAddr 90 (Operand.tmp 41) 0, type := 0, pos := "policy.go:191", after := #[{ on := 15, ground := Ground.data }, { on := 0, ground := Ground.phase }, { on := 1, ground := Ground.phase }, { on := 2, ground := Ground.phase }, { on := 3, ground := Ground.phase }, { on := 4, ground := Ground.phase }, { on := 5, ground := Ground.phase }, { on := 6, ground := Ground.phase }, { on := 7, ground := Ground.phase }, { on := 8, ground := Ground.phase }, { on := 9, ground := Ground.phase }, { on := 10, ground := Ground.phase }, { on := 11, ground := Ground.phase }, { on := 12, ground := Ground.phase }, { on := 13, ground := Ground.phase }, { on := 14, ground := Ground.phase }], guard := none } : Oper)) (v := ?va16) rfl (by kernel_rfl) (by kernel_rfl) (by kernel_rfl) (fun _ _ _ h => h) (Or.inl ⟨by rfl, ?ha16⟩) hHeld ?ra16
    case ha16 =>
      intro w hSw
      obtain ⟨hSw1, hSw2, hSw3⟩ := hSw
      go_simp
      all_goals with_reducible rfl
    try simp only [Act.put, List.setIfInBounds_toArray, List.set_cons_zero, List.set_cons_succ]
    refine wpAnyH_take (i := 17) (oi := ({ dst := some 43, op := Op.fieldAddr 26 (Operand.tmp 42) 2, type := 0, pos := "policy.go:191", after := #[{ on := 16, ground := Ground.data }, { on := 0, ground := Ground.phase }, { on := 1, ground := Ground.phase }, { on := 2, ground := Ground.phase }, { on := 3, ground := Ground.phase }, { on := 4, ground := Ground.phase }, { on := 5, ground := Ground.phase }, { on := 6, ground := Ground.phase }, { on := 7, ground := Ground.phase }, { on := 8, ground := Ground.phase }, { on := 9, ground := Ground.phase }, { on := 10, ground := Ground.phase }, { on := 11, ground := Ground.phase }, { on := 12, ground := Ground.phase }, { on := 13, ground := Ground.phase }, { on := 14, ground := Ground.phase }], guard := none } : Oper)) (v := ?va17) rfl (by kernel_rfl) (by kernel_rfl) (by kernel_rfl) (fun _ _ _ h => h) (Or.inl ⟨by rfl, ?ha17⟩) hHeld ?ra17
    case ha17 =>
      intro w hSw
      obtain ⟨hSw1, hSw2, hSw3⟩ := hSw
      go_simp
      all_goals with_reducible rfl
    try simp only [Act.put, List.setIfInBounds_toArray, List.set_cons_zero, List.set_cons_succ]
    refine wpAnyH_ready (rs := [18]) (by kernel_rfl) (by simp) ?_
    refine AllReadyH.cons (o := ({ dst := none, op := Op.store 24 (Operand.tmp 43) (Operand.tmp 40), type := 0, pos := "policy.go:191", after := #[{ on := 17, ground := Ground.data }, { on := 14, ground := Ground.data }, { on := 14, ground := Ground.chain }, { on := 0, ground := Ground.phase }, { on := 1, ground := Ground.phase }, { on := 2, ground := Ground.phase }, { on := 3, ground := Ground.phase }, { on := 4, ground := Ground.phase }, { on := 5, ground := Ground.phase }, { on := 6, ground := Ground.phase }, { on := 7, ground := Ground.phase }, { on := 8, ground := Ground.phase }, { on := 9, ground := Ground.phase }, { on := 10, ground := Ground.phase }, { on := 11, ground := Ground.phase }, { on := 12, ground := Ground.phase }, { on := 13, ground := Ground.phase }, { on := 14, ground := Ground.phase }], guard := none } : Oper)) rfl (fun K hK => ?_) AllReadyH.nil
    go_simp
    refine hK.out _ _ ?ka18 (fun hHeld2 => ?_)
    case ka18 => exact HSC.out w2 _ hS9
    clear hK K
    try simp only [Act.put, List.setIfInBounds_toArray, List.set_cons_zero, List.set_cons_succ]
    replace hHeld := hHeld2
    clear hHeld2
    refine wpAnyH_done (by kernel_rfl) ?_ _
    go_wp2
    go_end0
    have hcl : (List.range cl).map (fun i => CL[i]!) = CL := by rw [← HCL.out]; exact range_getL CL
    refine ⟨rfl, some ⟨g2, 0, none⟩, c2, ⟨nm, k, u, A7, cl, c7, fun i => CL[i]!⟩, ?_, hown2.setLow hx2.ty (by decide) (by decide) 3 _, ?_, ?_, ?_⟩
    · exact hx2.set 3 (.slice (some ⟨g2, 0, none⟩) (l.length + 1) c2)
    · show (⟨nm, k, u, (List.range cl).map (fun i => CL[i]!)⟩ : RV) = _
      rw [hcl, HNM0.out]
    · exact (HB3.out.mono (show RB ≤ w.heap.size by omega)).trans ((hk3.mono (show RB ≤ base by omega)).setCell (p := ⟨RB, 3, none⟩) (Nat.le_refl _) _)
    · intro b' hb' hne'
      exact (Below.heap_setCell w2 ⟨RB, 3, none⟩ _ b' hne').trans ((hk3.block b' hb').trans (HB3.out.block b' (by omega)))
  · go_simp
    refine (KC.out _ (by first | exact hk0 | exact Below.refl _ _)).mono ?_
    rintro e w7 ⟨A7, c7, rfl, hru7, hB7⟩
    have hk1 : Below w3.heap.size w3 w7 := bTr hk0 hB7
    have d0 := (HS0.out w7 hk1).1
    have hS7 := (HS0.out w7 hk1).2
    try go_wp2_with fail
    refine hK.out _ _ ?kb11 (fun hHeld2 => ?_)
    case kb11 => exact hS7
    clear hK K
    try simp only [Act.put, List.setIfInBounds_toArray, List.set_cons_zero, List.set_cons_succ]
    replace hHeld := hHeld2
    clear hHeld2
    refine wpAnyH_take (i := 12) (oi := ({ dst := some 38, op := Op.build 50 #[(0, Operand.tmp 34), (1, Operand.tmp 35), (2, Operand.tmp 37)], type := 50, pos := "policy.go:191", after := #[{ on := 8, ground := Ground.data }, { on := 9, ground := Ground.data }, { on := 11, ground := Ground.data }], guard := none } : Oper)) (v := ?vb12) rfl (by kernel_rfl) (by kernel_rfl) (by kernel_rfl) (fun _ _ _ h => h) (Or.inl ⟨by rfl, ?hb12⟩) hHeld ?rb12
    case hb12 =>
      intro w hSw
      obtain ⟨hSw1, hSw2, hSw3⟩ := hSw
      go_simp
      all_goals with_reducible rfl
    try simp only [Act.put, List.setIfInBounds_toArray, List.set_cons_zero, List.set_cons_succ]
    refine wpAnyH_ready (rs := [5, 13]) (by kernel_rfl) (by simp) ?_
    refine AllReadyH.cons (o := ({ dst := some 31, op := Op.load 24 (Operand.tmp 30), type := 24, pos := "policy.go:191", after := #[{ on := 4, ground := Ground.data }], guard := none } : Oper)) rfl (fun K hK => ?_) (AllReadyH.cons (o := ({ dst := some 39, op := Op.buildSlice 24 1 #[(0, Operand.tmp 38)], type := 24, pos := "policy.go:191", after := #[{ on := 12, ground := Ground.data }], guard := none } : Oper)) rfl (fun K hK => ?_) AllReadyH.nil)
    · go_simp
      refine hK.out _ _ ?kc5 (fun hHeld2 => ?_)
      case kc5 => exact hS7
      clear hK K
      try simp only [Act.put, List.setIfInBounds_toArray, List.set_cons_zero, List.set_cons_succ]
      replace hHeld := hHeld2
      clear hHeld2
      refine wpAnyH_ready (rs := [13]) (by kernel_rfl) (by simp) ?_
      refine AllReadyH.cons (o := ({ dst := some 39, op := Op.buildSlice 24 1 #[(0, Operand.tmp 38)], type := 24, pos := "policy.go:191", after := #[{ on := 12, ground := Ground.data }], guard := none } : Oper)) rfl (fun K hK => ?_) AllReadyH.nil
      go_simp
      have hk2 : Below w3.heap.size w3 (w7.alloc (.cells #[.string nm, .int .i64 k, .int .i64 u, .slice A7 cl c7] 50)) := hk1.alloc hk1.size _
      have d0 := (HS0.out _ hk2).1
      have hS8 := (HS0.out _ hk2).2
      refine hK.out _ _ ?kc13 (fun hHeld2 => ?_)
      case kc13 => exact hS8
      clear hK K
      try simp only [Act.put, List.setIfInBounds_toArray, List.set_cons_zero, List.set_cons_succ]
      replace hHeld := hHeld2
      clear hHeld2
      refine wpAnyH_ready (rs := [14]) (by kernel_rfl) (by simp) ?_
      refine AllReadyH.cons (o := ({ dst := some 40, op := Op.call { callee := Callee.builtin Builtin.append, args := #[Operand.tmp 31, Operand.tmp 39], argTypes := #[24, 24] }, type := 24, pos := "policy.go:191", after := #[{ on := 5, ground := Ground.data }, { on := 13, ground := Ground.data }, { on := 11, ground := Ground.chain }], guard := none } : Oper)) rfl (fun K hK => ?_) AllReadyH.nil
      refine step_rule (by rfl) _ _ (by rfl) (l := l) (by rw [HLN.out]; rfl) ((HO3.out.below hk1 (Nat.le_refl _)).alloc _) (r := ⟨nm, k, u, A7, cl, c7, fun i => CL[i]!⟩) (by rfl) (RowC.new _ _ _ _ (by rfl)) (hru7.keep ((KeepC.refl _).alloc _)) (by rw [HLN.out]; omega) (by have := hk1.size; simp; omega) ?_
      rintro g2 c2 w2 hown2 hgr2 _ _ hB2
      have hk3 : Below base w3 w2 := (hk1.mono (by omega)).trans (((Below.refl _ w7).alloc (by have := hk1.size; omega) _).trans hB2)
      have hS9 := HSB.out _ w2 _ (hk1.alloc hk1.size _) hgr2 fun g hg => ⟨RowL.own_ge (HO3.out.below hk1 (Nat.le_refl _)) g hg, RowL.ty ((HO3.out.below hk1 (Nat.le_refl _)).alloc _) g hg⟩
      have hx2 := HR3.out.below hk3 hRB
      have x3 := hx2.cell 3 (.slice RA l.length rc) rfl
      have y3 := hx2.frozen 3
      refine hK.out _ _ ?kc14 (fun hHeld2 => ?_)
      case kc14 => exact hS9
      clear hK K
      try simp only [Act.put, List.setIfInBounds_toArray, List.set_cons_zero, List.set_cons_succ]
      replace hHeld := hHeld2
      clear hHeld2
      refine wpAnyH_take (i := 15) (oi := ({ dst := some 41, op := Op.nilCheck (Operand.tmp 26), type := 0, pos := "policy.go:191", after := #[{ on := 0, ground := Ground.data }, { on := 0, ground := Ground.phase }, { on := 1, ground := Ground.phase }, { on := 2, ground := Ground.phase }, { on := 3, ground := Ground.phase }, { on := 4, ground := Ground.phase }, { on := 5, ground := Ground.phase }, { on := 6, ground := Ground.phase }, { on := 7, ground := Ground.phase }, { on := 8, ground := Ground.phase }, { on := 9, ground := Ground.phase }, { on := 10, ground := Ground.phase }, { on := 11, ground := Ground.phase }, { on := 12, ground := Ground.phase }, { on := 13, ground := Ground.phase }, { on := 14, ground := Ground.phase }], guard := none } : Oper)) (v := ?vc15) rfl (by kernel_rfl) (by kernel_rfl) (by kernel_rfl) (fun _ _ _ h => h) (Or.inl ⟨by rfl, ?hc15⟩) hHeld ?rc15
      case hc15 =>
        intro w hSw
        obtain ⟨hSw1, hSw2, hSw3⟩ := hSw
        go_simp
        all_goals with_reducible rfl
      try simp only [Act.put, List.setIfInBounds_toArray, List.set_cons_zero, List.set_cons_succ]
      refine wpAnyH_take (i := 16) (oi := ({ dst := some 42, op := Op.fieldAddr 90 (Operand.tmp 41) 0, type := 0, pos := "policy.go:191", after := #[{ on := 15, ground := Ground.data }, { on := 0, ground := Ground.phase }, { on := 1, ground := Ground.phase }, { on := 2, ground := Ground.phase }, { on := 3, ground := Ground.phase }, { on := 4, ground := Ground.phase }, { on := 5, ground := Ground.phase }, { on := 6, ground := Ground.phase }, { on := 7, ground := Ground.phase }, { on := 8, ground := Ground.phase }, { on := 9, ground := Ground.phase }, { on := 10, ground := Ground.phase }, { on := 11, ground := Ground.phase }, { on := 12, ground := Ground.phase }, { on := 13, ground := Ground.phase }, { on := 14, ground := Ground.phase }], guard := none } : Oper)) (v := ?vc16) rfl (by kernel_rfl) (by kernel_rfl) (by kernel_rfl) (fun _ _ _ h => h) (Or.inl ⟨by rfl, ?hc16⟩) hHeld ?rc16
      case hc16 =>
        intro w hSw
        obtain ⟨hSw1, hSw2, hSw3⟩ := hSw
        go_simp
        all_goals with_reducible rfl
      try simp only [Act.put, List.setIfInBounds_toArray, List.set_cons_zero, List.set_cons_succ]
      refine wpAnyH_take (i := 17) (oi := ({ dst := some 43, op := Op.fieldAddr 26 (Operand.tmp 42) 2, type := 0, pos := "policy.go:191", after := #[{ on := 16, ground := Ground.data }, { on := 0, ground := Ground.phase }, { on := 1, ground := Ground.phase }, { on := 2, ground := Ground.phase }, { on := 3, ground := Ground.phase }, { on := 4, ground := Ground.phase }, { on := 5, ground := Ground.phase }, { on := 6, ground := Ground.phase }, { on := 7, ground := Ground.phase }, { on := 8, ground := Ground.phase }, { on := 9, ground := Ground.phase }, { on := 10, ground := Ground.phase }, { on := 11, ground := Ground.phase }, { on := 12, ground := Ground.phase }, { on := 13, ground := Ground.phase }, { on := 14, ground := Ground.phase }], guard := none } : Oper)) (v := ?vc17) rfl (by kernel_rfl) (by kernel_rfl) (by kernel_rfl) (fun _ _ _ h => h) (Or.inl ⟨by rfl, ?hc17⟩) hHeld ?rc17
      case hc17 =>
        intro w hSw
        obtain ⟨hSw1, hSw2, hSw3⟩ := hSw
        go_simp
        all_goals with_reducible rfl
      try simp only [Act.put, List.setIfInBounds_toArray, List.set_cons_zero, List.set_cons_succ]
      refine wpAnyH_ready (rs := [18]) (by kernel_rfl) (by simp) ?_
      refine AllReadyH.cons (o := ({ dst := none, op := Op.store 24 (Operand.tmp 43) (Operand.tmp 40), type := 0, pos := "policy.go:191", after := #[{ on := 17, ground := Ground.data }, { on := 14, ground := Ground.data }, { on := 14, ground := Ground.chain }, { on := 0, ground := Ground.phase }, { on := 1, ground := Ground.phase }, { on := 2, ground := Ground.phase }, { on := 3, ground := Ground.phase }, { on := 4, ground := Ground.phase }, { on := 5, ground := Ground.phase }, { on := 6, ground := Ground.phase }, { on := 7, ground := Ground.phase }, { on := 8, ground := Ground.phase }, { on := 9, ground := Ground.phase }, { on := 10, ground := Ground.phase }, { on := 11, ground := Ground.phase }, { on := 12, ground := Ground.phase }, { on := 13, ground := Ground.phase }, { on := 14, ground := Ground.phase }], guard := none } : Oper)) rfl (fun K hK => ?_) AllReadyH.nil
      go_simp
      refine hK.out _ _ ?kc18 (fun hHeld2 => ?_)
      case kc18 => exact HSC.out w2 _ hS9
      clear hK K
      try simp only [Act.put, List.setIfInBounds_toArray, List.set_cons_zero, List.set_cons_succ]
      replace hHeld := hHeld2
      clear hHeld2
      refine wpAnyH_done (by kernel_rfl) ?_ _
      go_wp2
      go_end0
      have hcl : (List.range cl).map (fun i => CL[i]!) = CL := by rw [← HCL.out]; exact range_getL CL
      refine ⟨rfl, some ⟨g2, 0, none⟩, c2, ⟨nm, k, u, A7, cl, c7, fun i => CL[i]!⟩, ?_, hown2.setLow hx2.ty (by decide) (by decide) 3 _, ?_, ?_, ?_⟩
      · exact hx2.set 3 (.slice (some ⟨g2, 0, none⟩) (l.length + 1) c2)
      · show (⟨nm, k, u, (List.range cl).map (fun i => CL[i]!)⟩ : RV) = _
        rw [hcl, HNM0.out]
      · exact (HB3.out.mono (show RB ≤ w.heap.size by omega)).trans ((hk3.mono (show RB ≤ base by omega)).setCell (p := ⟨RB, 3, none⟩) (Nat.le_refl _) _)
      · intro b' hb' hne'
        exact (Below.heap_setCell w2 ⟨RB, 3, none⟩ _ b' hne').trans ((hk3.block b' hb').trans (HB3.out.block b' (by omega)))
    · go_simp
      have hk2 : Below w3.heap.size w3 (w7.alloc (.cells #[.string nm, .int .i64 k, .int .i64 u, .slice A7 cl c7] 50)) := hk1.alloc hk1.size _
      have d0 := (HS0.out _ hk2).1
      have hS8 := (HS0.out _ hk2).2
      refine hK.out _ _ ?kd13 (fun hHeld2 => ?_)
      case kd13 => exact hS8
      clear hK K
      try simp only [Act.put, List.setIfInBounds_toArray, List.set_cons_zero, List.set_cons_succ]
      replace hHeld := hHeld2
      clear hHeld2
      refine wpAnyH_ready (rs := [5]) (by kernel_rfl) (by simp) ?_
      refine AllReadyH.cons (o := ({ dst := some 31, op := Op.load 24 (Operand.tmp 30), type := 24, pos := "policy.go:191", after := #[{ on := 4, ground := Ground.data }], guard := none } : Oper)) rfl (fun K hK => ?_) AllReadyH.nil
      go_simp
      refine hK.out _ _ ?kd5 (fun hHeld2 => ?_)
      case kd5 => exact hS8
      clear hK K
      try simp only [Act.put, List.setIfInBounds_toArray, List.set_cons_zero, List.set_cons_succ]
      replace hHeld := hHeld2
      clear hHeld2
      refine wpAnyH_ready (rs := [14]) (by kernel_rfl) (by simp) ?_
      refine AllReadyH.cons (o := ({ dst := some 40, op := Op.call { callee := Callee.builtin Builtin.append, args := #[Operand.tmp 31, Operand.tmp 39], argTypes := #[24, 24] }, type := 24, pos := "policy.go:191", after := #[{ on := 5, ground := Ground.data }, { on := 13, ground := Ground.data }, { on := 11, ground := Ground.chain }], guard := none } : Oper)) rfl (fun K hK => ?_) AllReadyH.nil
      refine step_rule (by rfl) _ _ (by rfl) (l := l) (by rw [HLN.out]; rfl) ((HO3.out.below hk1 (Nat.le_refl _)).alloc _) (r := ⟨nm, k, u, A7, cl, c7, fun i => CL[i]!⟩) (by rfl) (RowC.new _ _ _ _ (by rfl)) (hru7.keep ((KeepC.refl _).alloc _)) (by rw [HLN.out]; omega) (by have := hk1.size; simp; omega) ?_
      rintro g2 c2 w2 hown2 hgr2 _ _ hB2
      have hk3 : Below base w3 w2 := (hk1.mono (by omega)).trans (((Below.refl _ w7).alloc (by have := hk1.size; omega) _).trans hB2)
      have hS9 := HSB.out _ w2 _ (hk1.alloc hk1.size _) hgr2 fun g hg => ⟨RowL.own_ge (HO3.out.below hk1 (Nat.le_refl _)) g hg, RowL.ty ((HO3.out.below hk1 (Nat.le_refl _)).alloc _) g hg⟩
      have hx2 := HR3.out.below hk3 hRB
      have x3 := hx2.cell 3 (.slice RA l.length rc) rfl
      have y3 := hx2.frozen 3
      refine hK.out _ _ ?kd14 (fun hHeld2 => ?_)
      case kd14 => exact hS9
      clear hK K
      try simp only [Act.put, List.setIfInBounds_toArray, List.set_cons_zero, List.set_cons_succ]
      replace hHeld := hHeld2
      clear hHeld2
      refine wpAnyH_take (i := 15) (oi := ({ dst := some 41, op := Op.nilCheck (Operand.tmp 26), type := 0, pos := "policy.go:191", after := #[{ on := 0, ground := Ground.data }, { on := 0, ground := Ground.phase }, { on := 1, ground := Ground.phase }, { on := 2, ground := Ground.phase }, { on := 3, ground := Ground.phase }, { on := 4, ground := Ground.phase }, { on := 5, ground := Ground.phase }, { on := 6, ground := Ground.phase }, { on := 7, ground := Ground.phase }, { on := 8, ground := Ground.phase }, { on := 9, ground := Ground.phase }, { on := 10, ground := Ground.phase }, { on := 11, ground := Ground.phase }, { on := 12, ground := Ground.phase }, { on := 13, ground := Ground.phase }, { on := 14, ground := Ground.phase }], guard := none } : Oper)) (v := ?vd15) rfl (by kernel_rfl) (by kernel_rfl) (by kernel_rfl) (fun _ _ _ h => h) (Or.inl ⟨by rfl, ?hd15⟩) hHeld ?rd15
      case hd15 =>
        intro w hSw
        obtain ⟨hSw1, hSw2, hSw3⟩ := hSw
        go_simp
        all_goals with_reducible rfl
      try simp only [Act.put, List.setIfInBounds_toArray, List.set_cons_zero, List.set_cons_succ]
      refine wpAnyH_take (i := 16) (oi := ({ dst := some 42, op := Op.fieldAddr 90 (Operand.tmp 41) 0, type := 0, pos := "policy.go:191", after := #[{ on := 15, ground := Ground.data }, { on := 0, ground := Ground.phase }, { on := 1, ground := Ground.phase }, { on := 2, ground := Ground.phase }, { on := 3, ground := Ground.phase }, { on := 4, ground := Ground.phase }, { on := 5, ground := Ground.phase }, { on := 6, ground := Ground.phase }, { on := 7, ground := Ground.phase }, { on := 8, ground := Ground.phase }, { on := 9, ground := Ground.phase }, { on := 10, ground := Ground.phase }, { on := 11, ground := Ground.phase }, { on := 12, ground := Ground.phase }, { on := 13, ground := Ground.phase }, { on := 14, ground := Ground.phase }], guard := none } : Oper)) (v := ?vd16) rfl (by kernel_rfl) (by kernel_rfl) (by kernel_rfl) (fun _ _ _ h => h) (Or.inl ⟨by rfl, ?hd16⟩) hHeld ?rd16
      case hd16 =>
        intro w hSw
        obtain ⟨hSw1, hSw2, hSw3⟩ := hSw
        go_simp
        all_goals with_reducible rfl
      try simp only [Act.put, List.setIfInBounds_toArray, List.set_cons_zero, List.set_cons_succ]
      refine wpAnyH_take (i := 17) (oi := ({ dst := some 43, op := Op.fieldAddr 26 (Operand.tmp 42) 2, type := 0, pos := "policy.go:191", after := #[{ on := 16, ground := Ground.data }, { on := 0, ground := Ground.phase }, { on := 1, ground := Ground.phase }, { on := 2, ground := Ground.phase }, { on := 3, ground := Ground.phase }, { on := 4, ground := Ground.phase }, { on := 5, ground := Ground.phase }, { on := 6, ground := Ground.phase }, { on := 7, ground := Ground.phase }, { on := 8, ground := Ground.phase }, { on := 9, ground := Ground.phase }, { on := 10, ground := Ground.phase }, { on := 11, ground := Ground.phase }, { on := 12, ground := Ground.phase }, { on := 13, ground := Ground.phase }, { on := 14, ground := Ground.phase }], guard := none } : Oper)) (v := ?vd17) rfl (by kernel_rfl) (by kernel_rfl) (by kernel_rfl) (fun _ _ _ h => h) (Or.inl ⟨by rfl, ?hd17⟩) hHeld ?rd17
      case hd17 =>
        intro w hSw
        obtain ⟨hSw1, hSw2, hSw3⟩ := hSw
        go_simp
        all_goals with_reducible rfl
      try simp only [Act.put, List.setIfInBounds_toArray, List.set_cons_zero, List.set_cons_succ]
      refine wpAnyH_ready (rs := [18]) (by kernel_rfl) (by simp) ?_
      refine AllReadyH.cons (o := ({ dst := none, op := Op.store 24 (Operand.tmp 43) (Operand.tmp 40), type := 0, pos := "policy.go:191", after := #[{ on := 17, ground := Ground.data }, { on := 14, ground := Ground.data }, { on := 14, ground := Ground.chain }, { on := 0, ground := Ground.phase }, { on := 1, ground := Ground.phase }, { on := 2, ground := Ground.phase }, { on := 3, ground := Ground.phase }, { on := 4, ground := Ground.phase }, { on := 5, ground := Ground.phase }, { on := 6, ground := Ground.phase }, { on := 7, ground := Ground.phase }, { on := 8, ground := Ground.phase }, { on := 9, ground := Ground.phase }, { on := 10, ground := Ground.phase }, { on := 11, ground := Ground.phase }, { on := 12, ground := Ground.phase }, { on := 13, ground := Ground.phase }, { on := 14, ground := Ground.phase }], guard := none } : Oper)) rfl (fun K hK => ?_) AllReadyH.nil
      go_simp
      refine hK.out _ _ ?kd18 (fun hHeld2 => ?_)
      case kd18 => exact HSC.out w2 _ hS9
      clear hK K
      try simp only [Act.put, List.setIfInBounds_toArray, List.set_cons_zero, List.set_cons_succ]
      replace hHeld := hHeld2
      clear hHeld2
      refine wpAnyH_done (by kernel_rfl) ?_ _
      go_wp2
      go_end0
      have hcl : (List.range cl).map (fun i => CL[i]!) = CL := by rw [← HCL.out]; exact range_getL CL
      refine ⟨rfl, some ⟨g2, 0, none⟩, c2, ⟨nm, k, u, A7, cl, c7, fun i => CL[i]!⟩, ?_, hown2.setLow hx2.ty (by decide) (by decide) 3 _, ?_, ?_, ?_⟩
      · exact hx2.set 3 (.slice (some ⟨g2, 0, none⟩) (l.length + 1) c2)
      · show (⟨nm, k, u, (List.range cl).map (fun i => CL[i]!)⟩ : RV) = _
        rw [hcl, HNM0.out]
      · exact (HB3.out.mono (show RB ≤ w.heap.size by omega)).trans ((hk3.mono (show RB ≤ base by omega)).setCell (p := ⟨RB, 3, none⟩) (Nat.le_refl _) _)
      · intro b' hb' hne'
        exact (Below.heap_setCell w2 ⟨RB, 3, none⟩ _ b' hne').trans ((hk3.block b' hb').trans (HB3.out.block b' (by omega)))
end Go.Proofs.YtccklmleaffgiaaGreatDoor

/-
  Layer 14: policy.read where nothing is wrong.
-/
namespace Go.Proofs.YtccklmleaffgiaaGreatDoor
open Go.RowKit Go.Shelf
set_option linter.unusedVariables false

theorem RowL.butR {w w' : World} {RB base c : Nat} {A : Option Addr} {l : List RL} {cs : Array Value} (h : RowL w base A l c) (hb : ButR RB w w') (hRB : RB < base) (hr : RowC w RB cs 90) : RowL w' base A l c := by
  refine ⟨?_, fun r hrl => (h.2 r hrl).keep fun b cs' fr hbb => ?_⟩
  · obtain ⟨h1, h2⟩ := h.1
    refine ⟨h1, ?_⟩
    rcases h2 with h2 | ⟨gg, cap, cur, hv, hg, hh, rr⟩
    · exact .inl h2
    · have hlt : gg < w.heap.size := (Array.getElem?_eq_some_iff.1 hh).1
      exact .inr ⟨gg, cap, cur, hv, hg, (hb.2 gg hlt (by omega)).trans hh, rr⟩
  · refine hb.2 b (Array.getElem?_eq_some_iff.1 hbb).1 fun e => ?_
    subst e
    rw [show w.heap[b]? = _ from hr] at hbb
    injection hbb with hbb
    injection hbb with _ hbb
    exact absurd hbb (by decide)
/-- The reader's memory. -/
def RdM (w : World) (RB base : Nat) (k u : Int) (x : Bool) (L : List RV) (pl : Nat) : Prop :=
  ∃ RA rc l, RowC w RB (rdA k u x (.slice RA (l : List RL).length rc) pl) 90 ∧ RowL w base RA l rc ∧ l.map RL.val = L

set_option maxRecDepth 100000 in
set_option maxHeartbeats 4000000 in
theorem take_ok (RB base b n c pl : Nat) (k u k' u' : Int) (x x' : Bool) (L L' : List RV) (wd : Nat → ByteArray) (w : World) (h : RdM w RB base k u x L pl) (hRB : RB < base) (hbase : base ≤ w.heap.size) (hbb : b < base) (hbR : b ≠ RB) (hn : 1 ≤ n) (hnc : n ≤ c) (hc : c ≤ 9223372036854775807)
    (hw : ∀ i, i < n → w.cell? ⟨b, 0 + i, none⟩ = some (.string (wd i))) (ht : TabP w) (hs : StepP pl n wd k u x L k' u' x' L') :
    Calls Tryz.prog 33 #[.pointer (some ⟨RB, 0, none⟩), .slice (some ⟨b, 0, none⟩) n c] w fun e w' => e = .returned (.tuple #[]) ∧ RdM w' RB base k' u' x' L' pl ∧ ButB RB base w w' := by
  obtain ⟨RA, rc, l, hr, hl, rfl⟩ := h
  have hb : b < w.heap.size := World.block_lt_of_cell? _ _ (hw 0 (by omega))
  have h0 : w.cell? ⟨b, 0, none⟩ = some (.string (wd 0)) := hw 0 (by omega)
  cases hs with
  | dflt _ _ _ _ h0' hw0 hn2 ha =>
    refine (take_dflt RB b n c pl k u x (.slice RA l.length rc) w (fun W w' => RowC w' RB (rdA k' u' x (.slice RA l.length rc) pl) 90 ∧ ButR RB W w') hr h0' hn (by rw [h0, hw0]) fun W hW =>
      setDefault_ok RB b 0 n c pl k u k' u' x (.slice RA l.length rc) W (hr.below hW hr.lt) hn2 hnc hc ((ha.reads w hnc ht hw).later hW)).mono ?_
    rintro e w' ⟨rfl, W, hW, h1, h2⟩
    exact ⟨rfl, ⟨RA, rc, l, h1, (hl.below hW (Nat.le_refl _)).butR h2 hRB (hr.below hW hr.lt), rfl⟩, (ButB.of_below hRB hW hbase).trans (ButB.of_r h2 (Nat.le_trans hbase hW.size))⟩
  | x32 _ _ _ h0' hn2 hw0 h1 =>
    subst h0' hn2
    refine (take_x32 RB b 2 c 1 k u x (.slice RA l.length rc) w (fun W w' => RowC w' RB (rdA k u x' (.slice RA l.length rc) 1) 90 ∧ ButR RB W w') hr (by decide) hn (by rw [h0, hw0]) fun W hW =>
      setX32_ok RB b 0 c k u x x' (.slice RA l.length rc) W (hr.below hW hr.lt) hnc (by rw [hW.cell (show b < w.heap.size from hb), hw 1 (by decide), h1])).mono ?_
    rintro e w' ⟨rfl, W, hW, h1, h2⟩
    exact ⟨rfl, ⟨RA, rc, l, h1, (hl.below hW (Nat.le_refl _)).butR h2 hRB (hr.below hW hr.lt), rfl⟩, (ButB.of_below hRB hW hbase).trans (ButB.of_r h2 (Nat.le_trans hbase hW.size))⟩
  | rule _ _ r h0' hd hx hll hrp =>
    obtain ⟨m, hact, hcnd⟩ := hrp.act
    have hle := hact.le
    have h6 : r.L.length ≤ 6 := by
      rcases hcnd.six with h | h
      · rw [h]; decide
      · omega
    have hle2 : 1 + m ≤ n := hle.1
    refine (take_rule RB b n c pl k u x (.slice RA l.length rc) (wd 0) w (fun W w' => ∃ RA' rc' r', RowC w' RB (rdA k u x (.slice RA' (l.length + 1) rc') pl) 90 ∧ RowL w' base RA' (l ++ [r']) rc' ∧ r'.val = ⟨wd 0, r.k, r.u, r.L⟩ ∧ ButB RB base W w') hr h0' hd hx hn h0 fun W hW => ?_).mono ?_
    · exact addRule_ok RB base b 0 n c pl m k u r.k r.u x RA l rc wd r.L W (hr.below hW hr.lt) (hl.below hW (Nat.le_refl _)) hRB (Nat.le_trans hbase hW.size) hbb hbR (by simpa using hll) hle2 hle.2.1 hnc hc (Nat.lt_of_lt_of_le hb hW.size) (cells_on hW hw)
        ((hact.reads w hnc ht hw).later hW) hrp.name ((hcnd.reads w hnc ht hw).later hW) h6 (by have := hrp.short; unfold maxLen; omega) hle.2.2.1 hle.2.2.2 hcnd.bound
    · rintro e w' ⟨rfl, W, hW, RA', rc', r', h1, h2, h3, h4⟩
      refine ⟨rfl, ⟨RA', rc', l ++ [r'], by rw [List.length_append]; exact h1, h2, ?_⟩, (ButB.of_below hRB hW hbase).trans h4⟩
      rw [List.map_append, List.map_singleton, h3, hrp.nm]

set_option maxRecDepth 100000 in
set_option maxHeartbeats 4000000 in
theorem catchP_idle (E : Nat) (w : World) :
    CallsD Tryz.prog 32 #[.pointer (some ⟨E, 0, none⟩)] .returning w fun e u' w' =>
      e = .returned (.tuple #[]) ∧ u' = .returning ∧ w' = w := by
  have hta : ∀ w : World, (Instr.typeAssert .nilIface 20 27 true).run Tryz.prog w = .ok (.tuple #[.int .i64 0, .bool false]) w := fun _ => by kernel_rfl
  refine callsD_of_wpS Tryz.func32 rfl fun c₀ cs hu => ?_
  apply wpS_seq
  apply wpS_region
  simp [wpOpsS, go_sem, recoverD, hu, Tryz.ntmps32, Exit.thenS, hta]
  apply wpS_seq
  apply wpS_region
  simp [wpOpsS, go_sem, Exit.thenS, Array.replicate_succ]
  refine wpS_cond (t := false) (by simp [Act.eval]) ?_
  simp only [Bool.false_eq_true, if_false]
  refine wpS_of_wp (wp_skip ?_)
  cases c₀
  simp_all [bodyPostS, results, Tryz.results32]
/-- Three results: a row in a block, a number, a cell in a block. -/
theorem results_rtc {P : Program} {fn : Func} {p q r : Tmp} {ty t2 : TypeId} (h : fn.results = #[.cell p ty, .tmp r, .cell q t2]) (tmps : Array Value) (w : World) (g : Nat) (t : TypeId) (cs : Array Value) (fr : Nat × Nat) (d : TypeDesc) (a2 : Addr) (v1 v2 : Value)
    (hp : tmps.getD p undef = .pointer (some ⟨g, 0, none⟩)) (hr : tmps.getD r undef = v1) (hq : tmps.getD q undef = .pointer (some a2)) (hg : w.heap[g]? = some (.cells cs t fr))
    (hu : P.underlying ty = some d) (hd : (match d with | .struct _ | .array _ _ => true | _ => false) = true) (hi : (P.info? ty).map (·.size) = some cs.size)
    (i2 : (isAgg t2).run P w = .ok false w) (c2 : w.cell? a2 = some v2) :
    (results fn tmps).run P w = .ok (.tuple #[.agg cs, v1, v2]) w := by
  have hp' : tmps[p]?.getD undef = .pointer (some ⟨g, 0, none⟩) := by simpa using hp
  have hq' : tmps[q]?.getD undef = .pointer (some a2) := by simpa using hq
  have hr' : tmps[r]?.getD undef = v1 := by simpa using hr
  have hl : (loadVar t2 a2).run P w = .ok v2 w := by simp [loadVar, i2, run_load, c2, Result.andThen]
  simp [results, h, hp', hq', hr', asAddr, run_loadVar_row w g t ty cs fr d hg hu hd hi, hl, Result.andThen]
theorem infoPolR : (Tryz.prog.info? 26).map (·.size) = some 4 := by kernel_rfl
theorem runs_drop {pl : Nat} {lines : List (List (List UInt8))} {ws : List (List UInt8)} {t : List (List (List UInt8))} {k u k' u' : Int} {x x' : Bool} {L L' : List RV} (h : RunsP pl lines k u x L k' u' x' L') (he : lines = ws :: t) :
    ∃ k1 u1 x1 L1, StepP pl ws.length (wdOf ws) k u x L k1 u1 x1 L1 ∧ RunsP (pl + 1) t k1 u1 x1 L1 k' u' x' L' := by
  subst he
  cases h with
  | cons _ _ _ _ _ k1 u1 _ _ _ x1 _ _ L1 _ h ht => exact ⟨k1, u1, x1, L1, h, ht⟩
theorem runs_end {pl : Nat} {k u k' u' : Int} {x x' : Bool} {L L' : List RV} (h : RunsP pl [] k u x L k' u' x' L') : k = k' ∧ u = u' ∧ x = x' ∧ L = L' := by
  cases h
  exact ⟨rfl, rfl, rfl, rfl⟩

set_option maxRecDepth 100000 in
set_option maxHeartbeats 8000000 in
theorem readP_ok (A : Option Addr) (c : Nat) (ls : List Ln) (k u : Int) (x : Bool) (L : List RV) (w : World) (h1 : Cel w w.heap.size 2 A ls.length c (lcell ls)) (h2 : LRc w ls) (h3 : ∀ y ∈ ls, y.ws.length ≤ 100000) (hn : ls.length ≤ 100000) (ht : TabP w)
    (hr : RunsP 0 (ls.map (·.ws)) 0 0 false [] k u x L) :
    Calls Tryz.prog 20 #[.slice A ls.length c] w fun e w' => ∃ RA rc l, e = .returned (.tuple #[.agg (polA k u x RA (l : List RL).length rc), .int .i64 0, .int .i64 0]) ∧ RowL w' w.heap.size RA l rc ∧ l.map RL.val = L ∧ Below w.heap.size w w' := by
  have hmf : ∀ (fn : Fn) (first cap : Array Value) (w : World), (Instr.makeFunc fn first cap).run Tryz.prog w = .ok (.func fn first cap) w := fun _ _ _ _ => rfl
  obtain ⟨H, hH⟩ : ∃ H, w.heap.size = H := ⟨_, rfl⟩
  obtain ⟨W0, hW0⟩ : ∃ W, ((w.alloc (.cells #[.int .i64 0, .int .i64 0, .bool false, .slice none 0 0] 26)).alloc (.cells #[.int .i64 0] 27)).alloc (.cells #[.int .i64 0, .int .i64 0, .bool false, .slice none 0 0, .int .i64 0] 90) = W := ⟨_, rfl⟩
  have hb0 : Below H w W0 := by rw [← hW0, ← hH]; exact (((Below.refl _ _).alloc (Nat.le_refl _) _).alloc (by simp) _).alloc (by simp; omega) _
  have r0 : RowC W0 H #[.int .i64 0, .int .i64 0, .bool false, .slice none 0 0] 26 := by rw [← hW0, ← hH]; exact ((RowC.new _ _ _ _ rfl).alloc _).alloc _
  have r1 : RowC W0 (H + 1) #[.int .i64 0] 27 := by rw [← hW0, ← hH]; exact (RowC.new _ _ _ _ (by simp)).alloc _
  have r2 : RowC W0 (H + 1 + 1) (rdA 0 0 false (.slice none 0 0) 0) 90 := by rw [← hW0, ← hH]; exact RowC.new _ _ _ _ (by simp)
  have hs0 : W0.heap.size = H + 3 := by rw [← hW0, ← hH]; simp
  obtain ⟨n, hnl⟩ : ∃ n, ls.length = n := ⟨_, rfl⟩
  have HNL := Lib.hid hnl
  rw [hnl] at h1 hn ⊢
  rw [hH] at h1
  have HC := Lib.hid (And.intro h1 (And.intro h2 (And.intro h3 (And.intro ht hr))))
  have HH := Lib.hid hH
  have HB0 := Lib.hid hb0
  have HW := Lib.hid hW0
  have HR := Lib.hid (And.intro r0 (And.intro r1 (And.intro r2 hs0)))
  clear h1 h2 h3 ht hr hnl hb0 hW0 r0 r1 r2 hs0 
  go_enter_defers Tryz.func20, Tryz.ntmps20
  go_upto_region 3 with fail
  rw [HW.out]
  go_wp2_with fail
  go_loopw [3, 11] (fun nm i wr => ∃ (q : Nat) (kq uq : Int) (xq : Bool) (Lq : List RV) (pq : Nat), q ≤ n ∧ i = .int .i64 q ∧ Hid (RdM wr (H + 1 + 1) (H + 3) kq uq xq Lq pq ∧ RunsP q ((ls.map (·.ws)).drop q) kq uq xq Lq k u x L ∧ RowC wr H #[.int .i64 0, .int .i64 0, .bool false, .slice none 0 0] 26 ∧ RowC wr (H + 1) #[.int .i64 0] 27 ∧ Below H w wr ∧ H + 3 ≤ wr.heap.size)) (fun _ i _ => n - (intOf i).toNat)
  case atStart => exact ⟨0, 0, 0, false, [], 0, Nat.zero_le _, rfl, Lib.hid ⟨⟨none, 0, [], HR.out.2.2.1, RowL.nil_ _ _, rfl⟩, HC.out.2.2.2.2, HR.out.1, HR.out.2.1, HB0.out, by rw [HR.out.2.2.2]; exact Nat.le_refl _⟩⟩
  case round =>
    obtain ⟨q, kq, uq, xq, Lq, pq, hq, rfl, HI⟩ := hrel
    by_cases hlt : q < n
    · obtain ⟨h1, h2, h3, ht, hr⟩ := HC.out
      obtain ⟨y, hy⟩ : ∃ y, ls[q]? = some y := ⟨_, List.getElem?_eq_getElem (by have := HNL.out; omega)⟩
      obtain ⟨b1, o1, rfl, hb1, hcc⟩ := h1.at_ (by omega)
      have hmem := List.mem_of_getElem? hy
      obtain ⟨hne, hcap, hwr⟩ := h2 y hmem
      have hfew := h3 y hmem
      have hbw := HI.out.2.2.2.2.1
      have hlow : w.heap.size = H := HH.out
      have v1 : wr.cell? ⟨b1, o1 + q * 2, none⟩ = some (.int .i64 (y.num : Nat)) := by
        have := (hbw.cell (p := ⟨b1, o1 + q * 2, none⟩) hb1).trans (hcc (q * 2) (by omega))
        unfold lcell at this
        rw [show q * 2 / 2 = q by omega, hy, show q * 2 % 2 = 0 by omega] at this
        exact this
      have v2 : wr.cell? ⟨b1, o1 + q * 2 + 1, none⟩ = some (.slice (some ⟨y.b, 0, none⟩) y.ws.length y.cap) := by
        have := (hbw.cell (p := ⟨b1, o1 + (q * 2 + 1), none⟩) hb1).trans (hcc (q * 2 + 1) (by omega))
        unfold lcell at this
        rw [show (q * 2 + 1) / 2 = q by omega, hy, show (q * 2 + 1) % 2 = 1 by omega] at this
        exact this
      have hdrop : (ls.map (·.ws)).drop q = y.ws :: (ls.map (·.ws)).drop (q + 1) := by
        have e : (ls.map (·.ws))[q]? = some y.ws := by rw [List.getElem?_map, hy]; rfl
        obtain ⟨hlq, he⟩ := List.getElem?_eq_some_iff.1 e
        rw [List.drop_eq_getElem_cons hlq, he]
      obtain ⟨k1, u1, x1, L1, hst, hrt⟩ := runs_drop HI.out.2.1 hdrop
      have hpos : 1 ≤ y.ws.length := by
        cases hws : y.ws with
        | nil => exact absurd hws hne
        | cons a t => simp
      obtain ⟨W1, hW1⟩ : ∃ W, (wr.alloc (.cells #[.int .i64 (y.num : Nat), .slice (some ⟨y.b, 0, none⟩) y.ws.length y.cap] 87)).setCell ⟨H + 1 + 1, 4, none⟩ (.int .i64 q) = W := ⟨_, rfl⟩
      obtain ⟨X, hX⟩ : ∃ X, wr.heap.size = X := ⟨_, rfl⟩
      obtain ⟨RA, rc, l, m0, m1, m2⟩ := HI.out.1
      have hXH : H + 3 ≤ X := by rw [← hX]; exact HI.out.2.2.2.2.2
      have a0 : RowC (wr.alloc (.cells #[.int .i64 (y.num : Nat), .slice (some ⟨y.b, 0, none⟩) y.ws.length y.cap] 87)) (H + 1 + 1) (rdA kq uq xq (.slice RA l.length rc) pq) 90 := m0.alloc _
      have hm1 : RdM W1 (H + 1 + 1) (H + 3) kq uq xq Lq q := by
        refine ⟨RA, rc, l, ?_, ?_, m2⟩
        · rw [← hW1]; exact a0.set 4 (.int .i64 q)
        · rw [← hW1]; exact (m1.alloc _).setLow a0.ty (by decide) (by decide) 4 _
      have hB1 : ButB (H + 1 + 1) (H + 3) wr W1 := by
        refine ⟨?_, fun b hb hne => ?_⟩
        · rw [← hW1]; exact ((Below.refl _ _).alloc (show H + 1 + 1 ≤ wr.heap.size by omega) _).setCell (p := ⟨H + 1 + 1, 4, none⟩) (Nat.le_refl _) _
        · rw [← hW1, Below.heap_setCell _ _ _ _ hne]; exact Below.heap_alloc _ _ _ (by omega)
      have hl1 : RowC W1 X #[.int .i64 (y.num : Nat), .slice (some ⟨y.b, 0, none⟩) y.ws.length y.cap] 87 := by
        rw [← hW1, ← hX]; exact (RowC.new _ _ _ _ rfl).setOther 4 _ (by omega)
      have f4 := a0.frozen 4
      have c4 := a0.cell 4 (.int .i64 pq) rfl
      have g1 := hl1.cell 1 (.slice (some ⟨y.b, 0, none⟩) y.ws.length y.cap) rfl
      have hbW : Below H w W1 := hbw.trans (hB1.1.mono (by omega))
      have hKT := take_ok (H + 1 + 1) (H + 3) y.b y.ws.length y.cap q kq uq k1 u1 xq x1 Lq L1 (wdOf y.ws) W1 hm1 (by omega) (Nat.le_trans hXH (by rw [← hX]; exact hB1.1.size)) (by have := hwr.lt; omega) (by have := hwr.lt; omega) hpos (by omega) (by omega)
        (fun i hi => by
          have hwlt : y.b < w.heap.size := hwr.lt
          rw [Nat.zero_add, hbW.cell (show y.b < H by omega)]
          have hget : y.ws[i]? = some y.ws[i] := List.getElem?_eq_getElem hi
          rw [hwr.cell hget]
          unfold wdOf
          rw [List.getD_eq_getElem?_getD, hget]
          rfl) (tab_on ht hbW (by omega)) hst
      have HK := Lib.hid hKT
      have HB1 := Lib.hid hB1
      have HRT := Lib.hid hrt
      have HW1 := Lib.hid hW1
      have HXH := Lib.hid hXH
      have i1 : (0 : Int) ≤ (q : Int) := by omega
      have i2 : (q : Int) < (n : Int) := by omega
      clear h1 h2 h3 ht hr hcc hmem hne hcap hwr hfew hbw hlow hdrop hst hrt hpos m0 m1 m2 a0 hm1 hB1 hl1 hbW hKT hW1 hXH hy
      go_upto_region 8 with fail
      (try rw [hX])
      rw [HW1.out]
      go_wp2_with (go_at_call 33; refine HK.out.mono ?_; rintro e w4 ⟨rfl, hm4, hb4⟩)
      have hbb := HB1.out.trans hb4
      exact ⟨⟨q + 1, k1, u1, x1, L1, q, by omega, by go_num, Lib.hid ⟨hm4, HRT.out, (hbb.2 H (by omega) (by omega)).trans HI.out.2.2.1, (hbb.2 (H + 1) (by omega) (by omega)).trans HI.out.2.2.2.1, HI.out.2.2.2.2.1.trans (hbb.1.mono (show H ≤ H + 1 + 1 by omega)), Nat.le_trans HI.out.2.2.2.2.2 hbb.1.size⟩⟩, by simp [intOf]; omega⟩
    · obtain rfl : q = n := by omega
      have hdn : (ls.map (·.ws)).drop q = [] := List.drop_eq_nil_of_le (by rw [List.length_map, HNL.out]; exact Nat.le_refl _)
      have hru := HI.out.2.1
      rw [hdn] at hru
      obtain ⟨rfl, rfl, rfl, rfl⟩ := runs_end hru
      obtain ⟨RA, rc, l, m0, m1, m2⟩ := HI.out.1
      have z0 := m0.cell 0 (.int .i64 kq) rfl
      have z1 := m0.cell 1 (.int .i64 uq) rfl
      have z2 := m0.cell 2 (.bool xq) rfl
      have z3 := m0.cell 3 (.slice RA l.length rc) rfl
      have p0 := HI.out.2.2.1.cell 0 (.int .i64 0) rfl
      have p1 := HI.out.2.2.1.cell 1 (.int .i64 0) rfl
      have p2 := HI.out.2.2.1.cell 2 (.bool false) rfl
      have p3 := HI.out.2.2.1.cell 3 (.slice none 0 0) rfl
      have y0 := HI.out.2.2.1.frozen 0
      have y1 := HI.out.2.2.1.frozen 1
      have y2 := HI.out.2.2.1.frozen 2
      have y3 := HI.out.2.2.1.frozen 3
      have e0 := HI.out.2.2.2.1.cell 0 (.int .i64 0) rfl
      have ey0 := HI.out.2.2.2.1.frozen 0
      have HM := Lib.hid (And.intro m1 m2)
      clear m0 m1 m2 hdn hru
      go_wp2
      refine leaves_cons (f := 32) (args := #[.pointer (some ⟨H + 1, 0, none⟩)]) (by simp) (by simp [go_sem]) ?_
      refine (catchP_idle (H + 1) _).mono ?_
      rintro e u' w2 ⟨rfl, rfl, rfl⟩
      have hlow : w.heap.size = H := HH.out
      have a0 := (((HI.out.2.2.1.set 0 (.int .i64 kq)).set 1 (.int .i64 uq)).set 2 (.bool xq)).set 3 (.slice RA l.length rc)
      have a1 := a0.setOther (g := H + 1) 0 (.int .i64 0) (by omega)
      have b1 := (((HI.out.2.2.2.1.setOther (g := H) 0 (.int .i64 kq) (by omega)).setOther (g := H) 1 (.int .i64 uq) (by omega)).setOther (g := H) 2 (.bool xq) (by omega)).setOther (g := H) 3 (.slice RA l.length rc) (by omega)
      have b2 := b1.set 0 (.int .i64 0)
      have c0 := HI.out.2.2.1
      have c1 := c0.set 0 (.int .i64 kq)
      have c2 := c1.set 1 (.int .i64 uq)
      have c3 := c2.set 2 (.bool xq)
      have hown := (((((HM.out.1.setLow c0.ty (by decide) (by decide) 0 (.int .i64 kq)).setLow c1.ty (by decide) (by decide) 1 (.int .i64 uq)).setLow c2.ty (by decide) (by decide) 2 (.bool xq)).setLow c3.ty (by decide) (by decide) 3 (.slice RA l.length rc)).setLow b1.ty (by decide) (by decide) 0 (.int .i64 0)).lower (show w.heap.size ≤ H + 3 by omega)
      have hbl := (((((HI.out.2.2.2.2.1.setCell (p := ⟨H, 0, none⟩) (Nat.le_refl _) (.int .i64 kq)).setCell (p := ⟨H, 1, none⟩) (Nat.le_refl _) (.int .i64 uq)).setCell (p := ⟨H, 2, none⟩) (Nat.le_refl _) (.bool xq)).setCell (p := ⟨H, 3, none⟩) (Nat.le_refl _) (.slice RA l.length rc)).setCell (p := ⟨H + 1, 0, none⟩) (Nat.le_succ _) (.int .i64 0))
      exact ⟨_, results_rtc Tryz.results20 _ _ H _ (polA kq uq xq RA l.length rc) (0, 0) _ ⟨H + 1, 0, none⟩ (.int .i64 0) (.int .i64 0) (by rfl) (by rfl) (by rfl) a1 Tryz.underlying26 (by rfl) infoPolR (by kernel_rfl) (b2.cell 0 _ rfl), RA, rc, l, rfl, hown, HM.out.2, by rw [hlow]; exact hbl⟩
end Go.Proofs.YtccklmleaffgiaaGreatDoor

/-
  Layer 14: policy.Parse where nothing is wrong.
-/
namespace Go.Proofs.YtccklmleaffgiaaGreatDoor
open Go.RowKit Go.Shelf
set_option linter.unusedVariables false

/-- What Parse tells of a right text. -/
def ParseP (w : World) (k u : Int) (x : Bool) (L : List RV) (e : Ending) (w' : World) : Prop :=
  ∃ RA rc l, e = .returned (.tuple #[.agg (polA k u x RA (l : List RL).length rc), .int .i64 0, .int .i64 0]) ∧ RowL w' w.heap.size RA l rc ∧ l.map RL.val = L ∧ Below w.heap.size w w'

set_option maxRecDepth 100000 in
set_option maxHeartbeats 8000000 in
theorem parseP_ok (s : ByteArray) (hs : s.size ≤ 65536) (lines : List (List (List UInt8))) (hl : (linesF s.data.toList).2 = 0) (hls : (linesF s.data.toList).1.map (·.2) = lines) (hne : lines ≠ []) (k u : Int) (x : Bool) (L : List RV) (hr : RunsP 0 lines 0 0 false [] k u x L) (w : World) (ht : TabP w) :
    Calls Tryz.prog 6 #[.string s] w (ParseP w k u x L) := by
  obtain ⟨H, hH⟩ : ∃ H, w.heap.size = H := ⟨_, rfl⟩
  obtain ⟨W0, hW0⟩ : ∃ W, w.alloc (.cells #[.int .i64 0, .int .i64 0, .bool false, .slice none 0 0] 26) = W := ⟨_, rfl⟩
  have hb0 : Below H w W0 := by rw [← hW0, ← hH]; exact (Below.refl _ _).alloc (Nat.le_refl _) _
  have r0 : RowC W0 H #[.int .i64 0, .int .i64 0, .bool false, .slice none 0 0] 26 := by rw [← hW0, ← hH]; exact RowC.new _ _ _ _ rfl
  have hs0 : W0.heap.size = H + 1 := by rw [← hW0, ← hH]; simp
  have hlist : Calls Tryz.prog 19 #[.string s] W0 fun e w' => ∃ A c ls, e = .returned (.tuple #[.slice A (ls : List Ln).length c, .int .i64 0, .int .i64 0]) ∧ 0 < ls.length ∧ (∀ W, Below w'.heap.size w' W → Calls Tryz.prog 20 #[.slice A ls.length c] W fun e w2 => ∃ RA rc l, e = .returned (.tuple #[.agg (polA k u x RA (l : List RL).length rc), .int .i64 0, .int .i64 0]) ∧ RowL w2 W.heap.size RA l rc ∧ l.map RL.val = L ∧ Below W.heap.size W w2) ∧ Below W0.heap.size W0 w' := by
    refine (lines_cap s hs W0).mono ?_
    rintro e w' ⟨hc, hb⟩
    rcases hc with ⟨_, A, c, ls, he, h1, h2, h3⟩ | ⟨h0, _⟩
    · have hsz : s.data.toList.length = s.size := Array.length_toList
      have hws : ls.map (·.ws) = lines := by rw [tell_ws, h1]; exact hls
      have hlen := lines_okL_len h1
      have hpos : 0 < ls.length := by
        cases ls with
        | nil => exact absurd hws.symm hne
        | cons a t => simp
      refine ⟨A, c, ls, he, hpos, fun W hW => ?_, hb⟩
      refine readP_ok A c ls k u x L W (((h2.cel).below hW).more hW.size) (h3.below hW) (fun y hy => ?_) (by omega) (tab_on (tab_on (tab_on ht hb0 (by omega)) hb (Nat.le_refl _)) hW (Nat.le_refl _)) (by rw [hws]; exact hr)
      have := lines_few s.data.toList y.tell (by rw [← h1]; exact List.mem_map_of_mem hy)
      have e2 : y.tell.2 = y.ws := rfl
      rw [e2] at this
      omega
    · exact absurd hl h0
  have HL := Lib.hid hlist
  have HB0 := Lib.hid hb0
  have HW := Lib.hid hW0
  have HR := Lib.hid (And.intro r0 hs0)
  have HH := Lib.hid hH
  clear hlist hb0 hW0 r0 hs0 hr hl hls hne ht hs
  go_enter Tryz.func6, Tryz.ntmps6
  go_upto_region 1 with fail
  rw [HW.out]
  (try rw [hH])
  clear hH
  go_wp2_with fail
  refine HL.out.mono ?_
  rintro e w1 ⟨A, c, ls, rfl, hpos, hrd, hB1⟩
  have HP := Lib.hid hrd
  obtain ⟨n, hn⟩ : ∃ n, ls.length = n := ⟨_, rfl⟩
  rw [hn] at HP hpos ⊢
  have HB1 := Lib.hid (show Below H w w1 from HB0.out.trans (hB1.mono (by rw [HR.out.2]; omega)))
  have HR1 := Lib.hid (HR.out.1.below hB1 (by rw [HR.out.2]; omega))
  have HS1 := Lib.hid (show H + 1 ≤ w1.heap.size by rw [← HR.out.2]; exact hB1.size)
  have i1 : ((n : Int) == 0) = false := by simp; omega
  clear hrd hB1 hn
  go_wp2_with (go_at_call 20; refine (HP.out _ (Below.refl _ _)).mono ?_; rintro e w2 ⟨RA, rc, l, rfl, hown, hval, hB2⟩; have k0 := (HR1.out.below hB2 HR1.out.lt).cell 0 (.int .i64 0) rfl; have k1 := (HR1.out.below hB2 HR1.out.lt).cell 1 (.int .i64 0) rfl; have k2 := (HR1.out.below hB2 HR1.out.lt).cell 2 (.bool false) rfl; have k3 := (HR1.out.below hB2 HR1.out.lt).cell 3 (.slice none 0 0) rfl; have y0 := (HR1.out.below hB2 HR1.out.lt).frozen 0; have y1 := (HR1.out.below hB2 HR1.out.lt).frozen 1; have y2 := (HR1.out.below hB2 HR1.out.lt).frozen 2; have y3 := (HR1.out.below hB2 HR1.out.lt).frozen 3)
  have hlow := HH.out
  have c0 := HR1.out.below hB2 HR1.out.lt
  have c1 := c0.set 0 (.int .i64 k)
  have c2 := c1.set 1 (.int .i64 u)
  have c3 := c2.set 2 (.bool x)
  have c4 := c3.set 3 (.slice RA l.length rc)
  have hs1 := HS1.out
  have hown2 := ((((hown.setLow c0.ty (by decide) (by decide) 0 (.int .i64 k)).setLow c1.ty (by decide) (by decide) 1 (.int .i64 u)).setLow c2.ty (by decide) (by decide) 2 (.bool x)).setLow c3.ty (by decide) (by decide) 3 (.slice RA l.length rc)).lower (show w.heap.size ≤ w1.heap.size by omega)
  have hbl := ((((HB1.out.trans (hB2.mono (show H ≤ w1.heap.size by omega))).setCell (p := ⟨H, 0, none⟩) (Nat.le_refl _) (.int .i64 k)).setCell (p := ⟨H, 1, none⟩) (Nat.le_refl _) (.int .i64 u)).setCell (p := ⟨H, 2, none⟩) (Nat.le_refl _) (.bool x)).setCell (p := ⟨H, 3, none⟩) (Nat.le_refl _) (.slice RA l.length rc)
  exact bodyPost_ret (results_ctt Tryz.results6 _ _ H _ (polA k u x RA l.length rc) (0, 0) _ (.int .i64 0) (.int .i64 0) (by rfl) (by rfl) (by rfl) c4 Tryz.underlying26 (by rfl) infoPolR) rfl
    ⟨RA, rc, l, rfl, hown2, hval, by rw [hlow]; exact hbl⟩
end Go.Proofs.YtccklmleaffgiaaGreatDoor

/-
  Layer 14, pure: a right policy's own lines, and what they do when they are read.
-/
namespace Go.Proofs.YtccklmleaffgiaaGreatDoor
open Go.RowKit Go.Shelf
set_option linter.unusedVariables false

theorem nameB_nm {nm : ByteArray} (h : nameB nm = true) : NmP nm := by
  by_cases hn : NmP nm
  · exact hn
  · unfold nameB at h
    rw [row13 (T := fun _ => nmRow nm) (i := 0) hn] at h
    simp at h
theorem nm_nameB {nm : ByteArray} (h : NmP nm) : nameB nm = true := by
  refine decide_eq_true ?_
  have hrng : RngP ((fun _ : Nat => nmRow nm) 0) := fun a ha => by
    match a, ha with
    | 0, _ => exact ⟨by show (-1 : Int) ≤ 0; decide, by show (0 : Int) ≤ 1073741823; decide⟩
    | 1, _ => exact ⟨by show (-1 : Int) ≤ 0; decide, by show (0 : Int) ≤ 1073741823; decide⟩
    | 2, _ => exact ⟨by show (-1 : Int) ≤ 0; decide, by show (0 : Int) ≤ 1073741823; decide⟩
    | 3, _ => exact ⟨by show (-1 : Int) ≤ 0; decide, by show (0 : Int) ≤ 1073741823; decide⟩
    | 4, _ => exact ⟨by show (-1 : Int) ≤ 0; decide, by show (0 : Int) ≤ 1073741823; decide⟩
  unfold rowF
  rw [if_pos (show NmP ((fun _ : Nat => nmRow nm) 0).nm from h), if_pos (show RiseP (fun _ : Nat => nmRow nm) 0 from fun h0 => absurd h0 (Nat.lt_irrefl 0)), if_pos ⟨hrng, .inl ⟨rfl, rfl⟩⟩, if_neg (by simp), if_neg (fun ⟨k, hk, _⟩ => absurd hk (Nat.not_lt_zero _))]

theorem bytes_back (s : ByteArray) : (⟨s.data.toList.toArray⟩ : ByteArray) = s := by cases s; simp
/-- An action's words. -/
def actL (k u : Int) : List (List UInt8) := if knA (k - 1).toNat then [(kwA (k - 1).toNat).data.toList, Lib.decDigits u.toNat] else [(kwA (k - 1).toNat).data.toList]
/-- A condition's words. -/
def cndL (c : CD) : List (List UInt8) := if c.o = 7 then [(argW c.a.toNat).data.toList, (sgO 6).data.toList, Lib.decDigits c.m, [61, 61], Lib.decDigits c.v] else [(argW c.a.toNat).data.toList, (sgO (c.o - 1).toNat).data.toList, Lib.decDigits c.v]
/-- The words of the conditions from j on. -/
def cndsL : Nat → List CD → List (List UInt8)
  | _, [] => []
  | j, c :: t => (aheadW j).data.toList :: (cndL c ++ cndsL (j + 1) t)
def rulL (r : RV) : List (List UInt8) := r.nm.data.toList :: (actL r.k r.u ++ cndsL 0 r.L)
/-- A policy's lines. -/
def polL (k u : Int) (x : Bool) (L : List RV) : List (List (List UInt8)) := (dfW.data.toList :: actL k u) :: ((if x then [[x3W.data.toList, (onW true).data.toList]] else []) ++ L.map rulL)

theorem wdOf_app (pre mid : List (List UInt8)) (i : Nat) : wdOf (pre ++ mid) (pre.length + i) = wdOf mid i := by
  simp [wdOf, List.getD_eq_getElem?_getD, List.getElem?_append_right]
theorem wdOf_left {mid : List (List UInt8)} (post : List (List UInt8)) {i : Nat} (h : i < mid.length) : wdOf (mid ++ post) i = wdOf mid i := by
  simp [wdOf, List.getD_eq_getElem?_getD, List.getElem?_append_left h]
theorem wdOf_mid (pre mid post : List (List UInt8)) {i : Nat} (h : i < mid.length) : wdOf (pre ++ (mid ++ post)) (pre.length + i) = wdOf mid i := by
  rw [wdOf_app, wdOf_left _ h]
theorem actL_pos (k u : Int) : 1 ≤ (actL k u).length := by unfold actL; split <;> simp
theorem mostA_zero {j : Nat} (h : knA j = false) : mostA j = 0 := by
  unfold knA at h
  simp only [Bool.or_eq_false_iff, beq_eq_false_iff_ne] at h
  unfold mostA
  rw [if_neg h.1, if_neg h.2]
theorem mostA_le (j : Nat) : mostA j ≤ 65535 := by
  unfold mostA
  split
  · decide
  · split <;> decide
theorem actP_of {k u : Int} (h : actB k u = true) (pre post : List (List UInt8)) : ActP (wdOf (pre ++ (actL k u ++ post))) (pre ++ (actL k u ++ post)).length pre.length k u (actL k u).length := by
  obtain ⟨j, hj, rfl, hm⟩ := actB_ok h
  have hp := actL_pos ((j : Int) + 1) u
  have e : ((j : Int) + 1 - 1).toNat = j := by omega
  have h0 := wdOf_mid pre (actL ((j : Int) + 1) u) post (i := 0) (by omega)
  have hm' := hm
  unfold mayA at hm'
  simp only [Bool.and_eq_true, decide_eq_true_eq] at hm'
  rw [Nat.add_zero] at h0
  refine ⟨j, hj, by simp; omega, ?_, rfl, ?_⟩
  · rw [h0]
    unfold actL
    rw [e]
    split
    · exact bytes_back _
    · exact bytes_back _
  · cases hk : knA j with
    | false =>
      left
      refine ⟨rfl, ?_, ?_⟩
      · have := mostA_zero hk; omega
      · unfold actL; rw [e, hk]; rfl
    | true =>
      right
      have hl : (actL ((j : Int) + 1) u).length = 2 := by unfold actL; rw [e, hk]; rfl
      have h1 := wdOf_mid pre (actL ((j : Int) + 1) u) post (i := 1) (by omega)
      refine ⟨rfl, by simp; omega, hl, u.toNat, ?_, ?_, by omega, ?_⟩
      · have := mostA_le j; omega
      · rw [show ((u.toNat : Nat) : Int) = u by omega]; exact hm
      · rw [h1]
        unfold actL
        rw [e, hk]
        rfl
theorem cndL_len (c : CD) : (cndL c).length = if c.o = 7 then 5 else 3 := by unfold cndL; split <;> rfl
theorem condP_of {c : CD} (h : RiC c) (hm : c.m ≤ 18446744073709551615) (hv : c.v ≤ 18446744073709551615) (pre post : List (List UInt8)) : CondP (wdOf (pre ++ (cndL c ++ post))) (pre ++ (cndL c ++ post)).length pre.length c (cndL c).length := by
  obtain ⟨h1, h2, h3, h4, h5⟩ := h
  have hl := cndL_len c
  have g := fun (i : Nat) (hi : i < (cndL c).length) => wdOf_mid pre (cndL c) post hi
  obtain ⟨a, o, m, v⟩ := c
  simp only at h1 h2 h3 h4 h5 hm hv
  have g0 := g 0 (by rw [hl]; split <;> omega)
  rw [Nat.add_zero] at g0
  refine ⟨a.toNat, by omega, ?_, ?_⟩
  · rw [g0]
    unfold cndL
    split
    · exact bytes_back _
    · exact bytes_back _
  · have ea : ((a.toNat : Nat) : Int) = a := by omega
    by_cases h7 : o = 7
    · subst h7
      right
      have hl5 : (cndL ⟨a, 7, m, v⟩).length = 5 := by rw [hl]; rfl
      refine ⟨m, v, by omega, by omega, by simp; omega, ?_, ?_, ?_, ?_, by rw [ea], hl5⟩
      · rw [g 1 (by omega)]; rfl
      · rw [g 2 (by omega)]; rfl
      · rw [g 3 (by omega)]; rfl
      · rw [g 4 (by omega)]; rfl
    · left
      have hm0 : m = 0 := by exact h5.resolve_left h7
      subst hm0
      have hl3 : (cndL ⟨a, o, 0, v⟩).length = 3 := by rw [hl]; exact if_neg h7
      have ec : cndL ⟨a, o, 0, v⟩ = [(argW a.toNat).data.toList, (sgO (o - 1).toNat).data.toList, Lib.decDigits v] := by unfold cndL; exact if_neg h7
      refine ⟨(o - 1).toNat, v, by omega, by omega, by simp; omega, ?_, ?_, ?_, hl3⟩
      · rw [g 1 (by omega), ec]; exact bytes_back _
      · rw [g 2 (by omega), ec]; rfl
      · rw [ea, show (((o - 1).toNat : Nat) : Int) + 1 = o by omega]
theorem condsP_of : ∀ (L : List CD) (pre : List (List UInt8)) (j : Nat), (∀ c ∈ L, RiC c ∧ c.m ≤ 18446744073709551615 ∧ c.v ≤ 18446744073709551615) → j + L.length ≤ 6 → CondsP (wdOf (pre ++ cndsL j L)) (pre ++ cndsL j L).length pre.length j L
  | [], pre, j, _, _ => by
    have : pre ++ cndsL j [] = pre := by simp [cndsL]
    rw [this]
    exact .nil j
  | c :: t, pre, j, hc, hj => by
    have h1 := hc c (List.mem_cons_self ..)
    simp only [List.length_cons] at hj
    have e1 : pre ++ cndsL j (c :: t) = (pre ++ [(aheadW j).data.toList]) ++ (cndL c ++ cndsL (j + 1) t) := by simp [cndsL]
    have e2 : pre ++ cndsL j (c :: t) = (pre ++ (aheadW j).data.toList :: cndL c) ++ cndsL (j + 1) t := by simp [cndsL]
    have h2 := condP_of h1.1 h1.2.1 h1.2.2 (pre ++ [(aheadW j).data.toList]) (cndsL (j + 1) t)
    rw [← e1] at h2
    have h3 := condsP_of t (pre ++ (aheadW j).data.toList :: cndL c) (j + 1) (fun z hz => hc z (List.mem_cons_of_mem _ hz)) (by omega)
    rw [← e2] at h3
    refine .cons pre.length j (cndL c).length c t ?_ ?_ (by omega) ?_ ?_
    · rw [e1]; simp
    · have := wdOf_app pre (cndsL j (c :: t)) 0
      rw [Nat.add_zero] at this
      rw [this]
      exact bytes_back _
    · rw [show (pre ++ [(aheadW j).data.toList]).length = pre.length + 1 by simp] at h2
      exact h2
    · rw [show pre.length + 1 + (cndL c).length = (pre ++ (aheadW j).data.toList :: cndL c).length by simp; omega]
      exact h3
/-- The conditions' numbers are of 64 bits. -/
def SmallV (r : RV) : Prop := ∀ c ∈ r.L, c.m ≤ 18446744073709551615 ∧ c.v ≤ 18446744073709551615
theorem ruleP_of {r : RV} (h : mayV r = true) (hs : SmallV r) : RuleP (wdOf (rulL r)) (rulL r).length r := by
  unfold mayV at h
  simp only [Bool.and_eq_true, decide_eq_true_eq, List.all_eq_true] at h
  obtain ⟨h1, h2, h3, h4⟩ := h
  have e0 : wdOf (rulL r) 0 = r.nm := bytes_back _
  refine ⟨e0, by rw [e0]; exact h1, by rw [e0]; have := (nameB_nm h1).2.1; omega, (actL r.k r.u).length, ?_, ?_⟩
  · exact actP_of h2 [r.nm.data.toList] (cndsL 0 r.L)
  · have := condsP_of r.L (r.nm.data.toList :: actL r.k r.u) 0 (fun c hc => ⟨by simpa using h4 c hc, hs c hc⟩) (by omega)
    rw [show (r.nm.data.toList :: actL r.k r.u).length = 1 + (actL r.k r.u).length by simp; omega] at this
    exact this
theorem nm_df {s : ByteArray} (h : NmP s) : s ≠ dfW ∧ s ≠ x3W := by
  obtain ⟨_, _, _, h1, h2, _⟩ := h
  refine ⟨fun e => ?_, fun e => ?_⟩
  · subst e; rw [Lib.toList_data] at h1; exact absurd h1 (by decide)
  · subst e; rw [Lib.toList_data] at h2; exact absurd h2 (by decide)
theorem runs_rules (k u : Int) (x : Bool) : ∀ (L : List RV) (pl : Nat) (L0 : List RV), pl ≠ 0 → (∀ r ∈ L, mayV r = true ∧ SmallV r) → L0.length + L.length ≤ 500 → RunsP pl (L.map rulL) k u x L0 k u x (L0 ++ L)
  | [], pl, L0, _, _, _ => by
    rw [List.append_nil]
    exact .nil pl k u x L0
  | r :: t, pl, L0, h0, hr, hl => by
    have h1 := hr r (List.mem_cons_self ..)
    simp only [List.length_cons] at hl
    have h2 := ruleP_of h1.1 h1.2
    have hn := nm_df (nameB_nm h2.name)
    have e : L0 ++ r :: t = (L0 ++ [r]) ++ t := by simp
    rw [e]
    exact .cons pl (rulL r) (t.map rulL) k u k u k u x x x L0 (L0 ++ [r]) _ (.rule k u x L0 r h0 hn.1 hn.2 (by omega) h2) (runs_rules k u x t (pl + 1) (L0 ++ [r]) (by omega) (fun z hz => hr z (List.mem_cons_of_mem _ hz)) (by simp; omega))
/-- A right policy's lines tell it. -/
theorem runs_lines {k u : Int} (x : Bool) {L : List RV} (h : rightV k u L = true) (hs : ∀ r ∈ L, SmallV r) : RunsP 0 (polL k u x L) 0 0 false [] k u x L := by
  unfold rightV at h
  simp only [Bool.and_eq_true, decide_eq_true_eq, List.all_eq_true] at h
  obtain ⟨h1, h2, h3⟩ := h
  have ha := actP_of h1 [dfW.data.toList] []
  rw [List.append_nil] at ha
  have hp := actL_pos k u
  have hd : StepP 0 (dfW.data.toList :: actL k u).length (wdOf (dfW.data.toList :: actL k u)) 0 0 false [] k u false [] :=
    .dflt 0 0 k u false [] rfl (bytes_back _) (by simp; omega) (by
      rw [show (dfW.data.toList :: actL k u).length - 1 = (actL k u).length by simp]
      exact ha)
  have hrl : ∀ pl, pl ≠ 0 → RunsP pl (L.map rulL) k u x [] k u x L := fun pl h0 => by
    have := runs_rules k u x L pl [] h0 (fun r hr => ⟨h3 r hr, hs r hr⟩) (by simpa using h2)
    rwa [List.nil_append] at this
  refine .cons 0 _ _ 0 0 k u k u false false x [] [] L hd ?_
  cases x with
  | false => exact hrl 1 (by decide)
  | true =>
    exact .cons 1 _ _ k u k u k u false true true [] [] L (.x32 k u false true [] rfl rfl (bytes_back _) (bytes_back _)) (hrl 2 (by decide))
theorem good_of {w : List UInt8} (h : w ≠ []) (hc : ∀ c ∈ w, 33 ≤ c.toNat ∧ c.toNat ≤ 126 ∧ c.toNat ≠ 35) : GoodW w := by
  refine ⟨h, fun c hcc => ?_⟩
  obtain ⟨h1, h2, h3⟩ := hc c hcc
  have hb : blk c = false := by rw [blk_iff]; simp; omega
  refine ⟨by rw [okS_iff, hb]; simp; omega, hb, fun e => ?_⟩
  subst e
  exact h3 rfl
def goodB (w : List UInt8) : Bool := !w.isEmpty && w.all fun c => decide (33 ≤ c.toNat) && decide (c.toNat ≤ 126) && decide (c.toNat ≠ 35)
theorem good_b {w : List UInt8} (h : goodB w = true) : GoodW w := by
  unfold goodB at h
  simp only [Bool.and_eq_true, Bool.not_eq_true', List.isEmpty_eq_false_iff, List.all_eq_true, decide_eq_true_eq] at h
  exact good_of h.1 fun c hc => ⟨(h.2 c hc).1.1, (h.2 c hc).1.2, (h.2 c hc).2⟩
theorem good_dec (u : Nat) : GoodW (Lib.decDigits u) := good_of (decDigits_ne u) fun c hc => by have := decDigits_dig u c hc; omega
theorem good_nm {s : ByteArray} (h : NmP s) : GoodW s.data.toList := by
  refine good_of (fun e => h.1 ?_) fun c hc => ?_
  · have : s.data.toList.length = s.size := Array.length_toList
    rw [e] at this
    exact this.symm
  · have := h.2.2.2.2.2 c hc
    unfold ChN at this
    omega
theorem good_kw (j : Nat) : GoodW (kwA j).data.toList := by
  match j with
  | 0 => exact good_b (by decide)
  | 1 => exact good_b (by decide)
  | 2 => exact good_b (by decide)
  | 3 => exact good_b (by decide)
  | 4 => exact good_b (by decide)
  | 5 => exact good_b (by decide)
  | 6 => exact good_b (by decide)
  | j + 7 => exact good_b (by show goodB [97, 108, 108, 111, 119] = true; decide)
theorem good_sg (j : Nat) : GoodW (sgO j).data.toList := by
  match j with
  | 0 => exact good_b (by decide)
  | 1 => exact good_b (by decide)
  | 2 => exact good_b (by decide)
  | 3 => exact good_b (by decide)
  | 4 => exact good_b (by decide)
  | 5 => exact good_b (by decide)
  | j + 6 => exact good_b (by show goodB [38] = true; decide)
theorem good_arg {i : Nat} (hi : i < 6) : GoodW (argW i).data.toList := by
  match i, hi with
  | 0, _ => exact good_b (by decide)
  | 1, _ => exact good_b (by decide)
  | 2, _ => exact good_b (by decide)
  | 3, _ => exact good_b (by decide)
  | 4, _ => exact good_b (by decide)
  | 5, _ => exact good_b (by decide)
theorem good_act (k u : Int) : ∀ w ∈ actL k u, GoodW w := fun w hw => by
  unfold actL at hw
  split at hw
  · simp only [List.mem_cons, List.not_mem_nil, or_false] at hw
    rcases hw with rfl | rfl
    · exact good_kw _
    · exact good_dec _
  · simp only [List.mem_cons, List.not_mem_nil, or_false] at hw
    subst hw
    exact good_kw _
theorem good_cnd {c : CD} (h : RiC c) : ∀ w ∈ cndL c, GoodW w := fun w hw => by
  have hi : c.a.toNat < 6 := by have := h.1; have := h.2.1; omega
  unfold cndL at hw
  split at hw
  · simp only [List.mem_cons, List.not_mem_nil, or_false] at hw
    rcases hw with rfl | rfl | rfl | rfl | rfl
    · exact good_arg hi
    · exact good_sg _
    · exact good_dec _
    · exact good_b (by decide)
    · exact good_dec _
  · simp only [List.mem_cons, List.not_mem_nil, or_false] at hw
    rcases hw with rfl | rfl | rfl
    · exact good_arg hi
    · exact good_sg _
    · exact good_dec _
theorem good_cnds : ∀ (L : List CD) (j : Nat), (∀ c ∈ L, RiC c) → ∀ w ∈ cndsL j L, GoodW w
  | [], j, _ => fun w hw => by cases hw
  | c :: t, j, h => fun w hw => by
    unfold cndsL at hw
    rcases List.mem_cons.1 hw with rfl | hw
    · unfold aheadW
      split
      · exact good_b (by decide)
      · exact good_b (by decide)
    · rcases List.mem_append.1 hw with hw | hw
      · exact good_cnd (h c (List.mem_cons_self ..)) w hw
      · exact good_cnds t (j + 1) (fun z hz => h z (List.mem_cons_of_mem _ hz)) w hw
theorem good_rul {r : RV} (h : mayV r = true) : rulL r ≠ [] ∧ ∀ w ∈ rulL r, GoodW w := by
  unfold mayV at h
  simp only [Bool.and_eq_true, decide_eq_true_eq, List.all_eq_true] at h
  obtain ⟨h1, h2, h3, h4⟩ := h
  refine ⟨List.cons_ne_nil _ _, fun w hw => ?_⟩
  unfold rulL at hw
  rcases List.mem_cons.1 hw with rfl | hw
  · exact good_nm (nameB_nm h1)
  · rcases List.mem_append.1 hw with hw | hw
    · exact good_act _ _ w hw
    · exact good_cnds _ _ (fun c hc => by simpa using h4 c hc) w hw
theorem good_pol {k u : Int} (x : Bool) {L : List RV} (h : ∀ r ∈ L, mayV r = true) : ∀ ws ∈ polL k u x L, ws ≠ [] ∧ ∀ w ∈ ws, GoodW w := fun ws hws => by
  unfold polL at hws
  rcases List.mem_cons.1 hws with rfl | hws
  · refine ⟨List.cons_ne_nil _ _, fun w hw => ?_⟩
    rcases List.mem_cons.1 hw with rfl | hw
    · exact good_b (by decide)
    · exact good_act _ _ w hw
  · rcases List.mem_append.1 hws with hws | hws
    · cases x with
      | false => cases hws
      | true =>
        simp only [if_true, List.mem_cons, List.not_mem_nil, or_false] at hws
        subst hws
        refine ⟨List.cons_ne_nil _ _, fun w hw => ?_⟩
        simp only [List.mem_cons, List.not_mem_nil, or_false] at hw
        rcases hw with rfl | rfl
        · exact good_b (by decide)
        · exact good_b (by decide)
    · obtain ⟨r, hr, rfl⟩ := List.mem_map.1 hws
      exact good_rul (h r hr)
/-- A right policy's own text, read into lines. -/
theorem lines_pol {k u : Int} (x : Bool) {L : List RV} (h : rightV k u L = true) : linesF (joinF (polL k u x L)) = (numF 1 (polL k u x L), 0) := by
  unfold rightV at h
  simp only [Bool.and_eq_true, decide_eq_true_eq, List.all_eq_true] at h
  exact lines_join _ (good_pol x h.2.2)
end Go.Proofs.YtccklmleaffgiaaGreatDoor
