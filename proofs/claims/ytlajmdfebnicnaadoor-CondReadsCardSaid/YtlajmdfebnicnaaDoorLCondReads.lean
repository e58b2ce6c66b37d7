/-
  The law CondReads holds for every input: the condition that any words begin with, and the number that any text is, are as the document says. No condition (the law itself lets more than seven words, and words of more than 40 bytes, go).
-/
import Derived.Test.YtlajmdfebnicnaaDoorRows
import Derived.Test.YtlajmdfebnicnaaDoorCards
import Derived.Test.YtlajmdfebnicnaaDoorTie
import Derived.Test.YtlajmdfebnicnaaDoorGk
import Derived.Test.YtlajmdfebnicnaaDoorGl
import Derived.Test.YtlajmdfebnicnaaDoorNd
import Derived.Test.YtlajmdfebnicnaaDoorNe
import Derived.Test.YtlajmdfebnicnaaDoorMem
import Derived.WalkKit
import Derived.ProofKit
import Derived.OpenShut
import Derived.ShutString
import Derived.ChangeOld
import Derived.Below
import Derived.Lib.SmallJoins
import Derived.SevenTiedAt
import Derived.LaidMore
import Derived.Stop.Joined
import Derived.Deep.Cut
import Derived.RegionTactic
import Derived.Deep.RegionHeld3
import Derived.Deep.Strs
import Derived.Stop.LaidErr
import Derived.LaidLaws
import Derived.Deep.CutRange
namespace Go.Proofs.YtlajmdfebnicnaaDoor
open Go.RowKit Go.Shelf
set_option linter.unusedVariables false

theorem cel_strs {w : World} {x : Addr} {n c : Nat} {B : Nat → ByteArray} (h1 : n ≤ c) (h2 : c ≤ maxLen) (hc : ∀ i, i < n → w.cell? (x.add i) = some (.string (B i))) :
    Cel w w.heap.size 1 (some x) n c (fun i => .string (B i)) := by
  refine .inr ⟨x, rfl, h1, h2, fun i hi => ?_⟩
  have hcell := hc i (by omega)
  have hlt := World.block_lt_of_cell? w _ hcell
  have eb : (x.add i).block = x.block := by unfold Addr.add; split <;> rfl
  rw [eb] at hlt
  exact ⟨hlt, hcell⟩
/-- What both readings of words give, at an address. -/
def SameC (A : Option Addr) (n c : Nat) (K : World → Prop) : Prop := ∃ (a0 a1 : Int) (a2 a3 : Nat) (m e : Int),
  (∀ X, ReadC X → K X → Calls Tryd.prog 4 #[.slice A n c] X fun r w' => r = .returned (.tuple #[.agg #[.int .i64 a0, .int .i64 a1, .int .u64 a2, .int .u64 a3], .int .i64 m, .int .i64 e]) ∧ Below X.heap.size X w') ∧
  (∀ X, K X → Calls Tryd.prog 5 #[.slice A n c] X fun r w' => r = .returned (.tuple #[.agg #[.int .i64 a0, .int .i64 a1, .int .u64 a2, .int .u64 a3], .int .i64 m, .int .i64 e]) ∧ Below X.heap.size X w')
theorem size_list (s : ByteArray) : s.data.toList.length = s.size := Array.length_toList
theorem opF_of {s : ByteArray} {j : Nat} (hj : j < 7) (hs : s = sgO j) : ∀ q, q ≤ 7 → opF s q = if j < q then j + 1 else 0 := by
  intro q
  induction q with
  | zero => intro _; rw [opF, if_neg (by omega)]
  | succ q ih =>
    intro hq
    have ih2 := ih (by omega)
    rw [opF, ih2, hs, sgO_inj (by omega) hj]
    by_cases h : q = j
    · subst h; simp
    · rw [if_neg (by simpa using h)]
      by_cases h2 : j < q
      · rw [if_pos h2, if_pos (by omega)]
      · rw [if_neg h2, if_neg (by omega)]
theorem opF_none {s : ByteArray} (hs : ∀ j, j < 7 → s ≠ sgO j) : ∀ q, q ≤ 7 → opF s q = 0 := by
  intro q
  induction q with
  | zero => intro _; rw [opF]
  | succ q ih =>
    intro hq
    rw [opF, ih (by omega), if_neg]
    intro h
    exact hs q (by omega) (ByteArray.ext (Array.toList_inj.1 (by have := eq_of_beq h; rw [Lib.toList_data, Lib.toList_data] at this; exact this.symm)))
theorem isW_none {len : Nat} {s : ByteArray} (hs : ∀ j, j < 7 → s ≠ sgO j) (k : Nat) (hk : k < 7) : isW len s k = false := by
  unfold isW
  rw [Bool.and_eq_false_iff]
  refine .inr (Bool.eq_false_iff.2 fun h => ?_)
  exact hs k hk (ByteArray.ext (Array.toList_inj.1 (by have := eq_of_beq h; rw [Lib.toList_data, Lib.toList_data] at this; exact this)))
/-- Both readings give the same. -/
theorem readsC_same (b o len cap : Nat) (hlen : 1 ≤ len) (f : Nat → ByteArray) (hf : ∀ i, i < len → (f i).size ≤ 40) : SameC (some ⟨b, o, none⟩) len cap (fun X => ∀ i, i < len → X.cell? ⟨b, o + i, none⟩ = some (.string (f i))) := by
  have hf0 := hf 0 (by omega)
  rcases arg_cases (f 0) (by omega) with h | h | ⟨D, c, hD, hs, hc, hn⟩ | ⟨c, D, hD, hs, hd, hr⟩ | ⟨i, hi, hs⟩
  · refine ⟨0, 0, 0, 0, 0, 13, fun X _ hX => readC_arg (f 0) 13 (by decide) (fun Y => argument_no (f 0) h Y) b o len cap hlen X (hX 0 (by omega)), fun X hX => refC_no (f 0) ?_ b o len cap hlen X (hX 0 (by omega))⟩
    by_cases h2 : (f 0).size < 2
    · exact .inl h2
    · match hl : (f 0).data.toList with
      | [] => have := size_list (f 0); rw [hl] at this; simp at this; omega
      | d :: l =>
        rw [hl] at h
        refine .inr ⟨d, by omega, rfl, fun e => ?_⟩
        subst e
        simp [Lib.hasPrefix, List.isPrefixOf] at h
  · refine ⟨0, 0, 0, 0, 0, 13, fun X _ hX => readC_arg (f 0) 13 (by decide) (fun Y => by rw [h]; exact argument_a Y) b o len cap hlen X (hX 0 (by omega)), fun X hX => refC_no (f 0) (.inl (by rw [h]; decide)) b o len cap hlen X (hX 0 (by omega))⟩
  · refine ⟨0, 0, 0, 0, 0, 13, fun X _ hX => readC_arg (f 0) 13 (by decide) (fun Y => by rw [hs]; exact argument_form D (by omega) c hc hn Y) b o len cap hlen X (hX 0 (by omega)), fun X hX => refC_form (f 0) (by omega) ?_ (by rw [hs]; rfl) ?_ b o len cap hlen X (hX 0 (by omega))⟩
    · have := size_list (f 0)
      rw [hs] at this ⊢
      have h0 : D ≠ [] := fun e => by rw [e] at hc; cases hc
      have h1 : 0 < D.length := List.length_pos_iff.2 h0
      rw [← this]
      show 2 ≤ (97 :: D).length
      simp; omega
    · obtain ⟨k, hk, he⟩ := List.getElem_of_mem hc
      refine ⟨k + 1, c, by omega, ?_, hn⟩
      rw [hs]
      show (97 :: D)[k + 1]? = some c
      rw [List.getElem?_cons_succ, List.getElem?_eq_getElem hk, he]
  · have hz := size_list (f 0)
    have hz2 : (f 0).size = D.length + 2 := by rw [← hz, hs]; show (97 :: c :: D).length = _; simp
    refine ⟨0, 0, 0, 0, 0, 16, fun X _ hX => readC_arg (f 0) 16 (by decide) (fun Y => by rw [hs]; exact argument_range c D (by omega) hd hr Y) b o len cap hlen X (hX 0 (by omega)), fun X hX => refC_range (f 0) (by omega) (by omega) (by rw [hs]; rfl) c (by rw [hs]; rfl) ?_ ?_ b o len cap hlen X (hX 0 (by omega))⟩
    · intro k e hk he
      rw [hs] at he
      replace he : (97 :: c :: D)[k]? = some e := he
      obtain ⟨k', rfl⟩ : ∃ k', k = k' + 1 := ⟨k - 1, by omega⟩
      rw [List.getElem?_cons_succ] at he
      exact hd e (List.mem_of_getElem? he)
    · rcases hr with h | h
      · have := List.length_pos_iff.2 h
        exact .inl (by omega)
      · exact .inr h
  · have hci : ∃ c : UInt8, c.toNat = 48 + i ∧ (f 0).data.toList[1]? = some c := ⟨UInt8.ofNat (48 + i), by simp; omega, by rw [hs]; rfl⟩
    obtain ⟨c, hcn, hc1⟩ := hci
    have hz : (f 0).size = 2 := by rw [hs]; rfl
    have h97 : (f 0).data.toList[0]? = some 97 := by rw [hs]; rfl
    by_cases hl3 : len < 3
    · refine ⟨0, 0, 0, 0, 0, 13, fun X _ hX => readC_noop i hi b o len cap hlen X (by rw [← hs]; exact hX 0 (by omega)) fun Y CB _ hY => find_short len _ cap CB hl3 Y hY, fun X hX => ?_⟩
      have h0 := refC_main (f 0) i c hz h97 hc1 ⟨hi, hcn⟩ (f 1) ⟨#[]⟩ ⟨#[]⟩ ⟨#[]⟩ (numO []) (numO []) b o len cap hlen X (hX 0 (by omega)) (fun Y => refNumber_any ⟨#[]⟩ (by decide) Y) (fun Y => refNumber_any ⟨#[]⟩ (by decide) Y) (by omega) (by omega) (by omega) (by omega)
      rw [show readV i (opF (f 1) 7) (numO []) len ((⟨#[]⟩ : ByteArray).toList == [61, 61]) (numO []) = badC 13 from by unfold readV; rw [if_pos hl3]] at h0
      exact h0
    obtain ⟨o2, ho2, hp2, hq2⟩ := nums_same (f 2) (by have := hf 2 (by omega); omega)
    have hn2 : NumC (f 2) o2 := fun X hX => hp2 X hX.tab hX.tz hX.err
    obtain ⟨g3, hg3⟩ : ∃ g : ByteArray, 5 ≤ len → f 3 = g := ⟨f 3, fun _ => rfl⟩
    obtain ⟨g4, hg4, hg4s⟩ : ∃ g : ByteArray, (5 ≤ len → f 4 = g) ∧ g.size ≤ 60 := by
      by_cases h5 : 5 ≤ len
      · exact ⟨f 4, fun _ => rfl, by have := hf 4 (by omega); omega⟩
      · exact ⟨⟨#[]⟩, fun h => absurd h h5, by decide⟩
    obtain ⟨o4, ho4, hp4, hq4⟩ := nums_same g4 hg4s
    have hn4 : NumC g4 o4 := fun X hX => hp4 X hX.tab hX.tz hX.err
    have hmain : ∀ X : World, (∀ i, i < len → X.cell? ⟨b, o + i, none⟩ = some (.string (f i))) → Calls Tryd.prog 5 #[.slice (some ⟨b, o, none⟩) len cap] X fun e w' => e = .returned (readV i (opF (f 1) 7) o2 len (g3.toList == [61, 61]) o4) ∧ Below X.heap.size X w' := fun X hX =>
      refC_main (f 0) i c hz h97 hc1 ⟨hi, hcn⟩ (f 1) (f 2) g3 g4 o2 o4 b o len cap hlen X (hX 0 (by omega)) hq2 hq4 (fun h => hX 1 (by omega)) (fun h => hX 2 (by omega)) (fun h => by rw [← hg3 h]; exact hX 3 (by omega)) (fun h => by rw [← hg4 h]; exact hX 4 (by omega))
    have bad : readV i (opF (f 1) 7) o2 len (g3.toList == [61, 61]) o4 = badC 13 → (∀ X, ReadC X → (∀ i, i < len → X.cell? ⟨b, o + i, none⟩ = some (.string (f i))) → Calls Tryd.prog 4 #[.slice (some ⟨b, o, none⟩) len cap] X fun r w' => r = .returned (.tuple #[.agg #[.int .i64 0, .int .i64 0, .int .u64 0, .int .u64 0], .int .i64 0, .int .i64 13]) ∧ Below X.heap.size X w') → SameC (some ⟨b, o, none⟩) len cap (fun X => ∀ i, i < len → X.cell? ⟨b, o + i, none⟩ = some (.string (f i))) := fun hv h => by
      rw [hv] at hmain
      exact ⟨0, 0, 0, 0, 0, 13, h, hmain⟩
    have h0c : ∀ X : World, (∀ i, i < len → X.cell? ⟨b, o + i, none⟩ = some (.string (f i))) → X.cell? ⟨b, o, none⟩ = some (.string (argW i)) := fun X hX => by rw [← hs]; exact hX 0 (by omega)
    by_cases hj : ∃ j, j < 7 ∧ f 1 = sgO j
    · obtain ⟨j, hj, hj1⟩ := hj
      have hop := opF_of hj hj1 7 (Nat.le_refl _)
      rw [if_pos hj] at hop
      have h1c : ∀ X : World, (∀ i, i < len → X.cell? ⟨b, o + i, none⟩ = some (.string (f i))) → X.cell? ⟨b, o + 1, none⟩ = some (.string (sgO j)) := fun X hX => by rw [← hj1]; exact hX 1 (by omega)
      by_cases hj6 : j < 6
      · cases o2 with
        | none => exact bad (by unfold readV; rw [if_neg hl3, if_neg (by omega)]) fun X hr hX => readC_3no i hi j hj6 (f 2) hn2 b o len cap (by omega) X hr (h0c X hX) (h1c X hX) (hX 2 (by omega))
        | some v =>
          have hv : readV i (opF (f 1) 7) (some v) len (g3.toList == [61, 61]) o4 = .tuple #[.agg #[.int .i64 i, .int .i64 ((j : Int) + 1), .int .u64 0, .int .u64 v], .int .i64 3, .int .i64 0] := by
            unfold readV
            rw [if_neg hl3, if_neg (by omega), hop]
            simp only []
            rw [if_pos (by omega), show ((j + 1 : Nat) : Int) = (j : Int) + 1 by omega]
          rw [hv] at hmain
          exact ⟨i, (j : Int) + 1, 0, v, 3, 0, fun X hr hX => readC_3 i hi j hj6 v (f 2) hn2 b o len cap (by omega) X hr (h0c X hX) (h1c X hX) (hX 2 (by omega)), hmain⟩
      · obtain rfl : j = 6 := by omega
        by_cases h5 : len < 5
        · refine bad ?_ fun X hr hX => readC_noop i hi b o len cap hlen X (h0c X hX) fun Y CB hB hY => find_no len cap b o CB (sgO 6) (by omega) (fun k hk => ?_) Y hY ?_
          · unfold readV
            rw [if_neg hl3, if_neg (by omega)]
            cases o2 with
            | none => rfl
            | some v =>
              simp only []
              rw [if_neg (by omega), if_pos h5]
          · unfold isW
            rw [Bool.and_eq_false_iff]
            by_cases hk6 : k = 6
            · subst hk6
              refine .inl (decide_eq_false ?_)
              show ¬ (5 : Int) ≤ (len : Int)
              omega
            · refine .inr ?_
              rw [sgO_inj (by omega) hk]
              exact beq_eq_false_iff_ne.2 (by omega)
          · exact (hB.cell (p := ⟨b, o + 1, none⟩) (World.block_lt_of_cell? _ _ (h1c X hX))).trans (h1c X hX)
        · have h5' : 5 ≤ len := by omega
          cases o2 with
          | none => exact bad (by unfold readV; rw [if_neg hl3, if_neg (by omega)]) fun X hr hX => readC_5mask i hi (f 2) hn2 b o len cap h5' X hr (h0c X hX) (h1c X hX) (hX 2 (by omega))
          | some m =>
            by_cases h3 : (g3.toList == [61, 61]) = true
            · have e3 : g3 = ⟨#[61, 61]⟩ := ByteArray.ext (Array.toList_inj.1 (by have := eq_of_beq h3; rw [Lib.toList_data] at this; exact this))
              have h3c : ∀ X : World, (∀ i, i < len → X.cell? ⟨b, o + i, none⟩ = some (.string (f i))) → X.cell? ⟨b, o + 3, none⟩ = some (.string ⟨#[61, 61]⟩) := fun X hX => by rw [← e3, ← hg3 h5']; exact hX 3 (by omega)
              have h4c : ∀ X : World, (∀ i, i < len → X.cell? ⟨b, o + i, none⟩ = some (.string (f i))) → X.cell? ⟨b, o + 4, none⟩ = some (.string g4) := fun X hX => by rw [← hg4 h5']; exact hX 4 (by omega)
              cases o4 with
              | none => exact bad (by unfold readV; rw [if_neg hl3, if_neg (by omega)]; simp only []; rw [if_neg (by omega), if_neg h5, h3]; simp only [Bool.true_eq_false, if_false]) fun X hr hX => readC_5no i hi m (f 2) g4 hn2 hn4 b o len cap h5' X hr (h0c X hX) (h1c X hX) (hX 2 (by omega)) (h3c X hX) (h4c X hX)
              | some v =>
                have hv : readV i (opF (f 1) 7) (some m) len (g3.toList == [61, 61]) (some v) = .tuple #[.agg #[.int .i64 i, .int .i64 7, .int .u64 m, .int .u64 v], .int .i64 5, .int .i64 0] := by
                  unfold readV
                  rw [if_neg hl3, if_neg (by omega)]
                  simp only []
                  rw [if_neg (by omega), if_neg h5, h3]
                  simp only [Bool.true_eq_false, if_false]
                rw [hv] at hmain
                exact ⟨i, 7, m, v, 5, 0, fun X hr hX => readC_5 i hi m v (f 2) g4 hn2 hn4 b o len cap h5' X hr (h0c X hX) (h1c X hX) (hX 2 (by omega)) (h3c X hX) (h4c X hX), hmain⟩
            · have h3f : (g3.toList == [61, 61]) = false := by simpa using h3
              exact bad (by unfold readV; rw [if_neg hl3, if_neg (by omega)]; simp only []; rw [if_neg (by omega), if_neg h5, h3f]; rfl) fun X hr hX => readC_5sign i hi m (f 2) g3 (by rw [bne, h3f]; rfl) hn2 b o len cap h5' X hr (h0c X hX) (h1c X hX) (hX 2 (by omega)) (by rw [← hg3 h5']; exact hX 3 (by omega))
    · have hno : ∀ j, j < 7 → f 1 ≠ sgO j := fun j h e => hj ⟨j, h, e⟩
      refine bad (by unfold readV; rw [if_neg hl3, if_pos (opF_none hno 7 (Nat.le_refl _))]) fun X hr hX => readC_noop i hi b o len cap hlen X (h0c X hX) fun Y CB hB hY => find_no len cap b o CB (f 1) (by omega) (fun k hk => isW_none hno k hk) Y hY ?_
      exact (hB.cell (p := ⟨b, o + 1, none⟩) (World.block_lt_of_cell? _ _ (hX 1 (by omega)))).trans (hX 1 (by omega))

set_option maxRecDepth 100000 in
set_option maxHeartbeats 4000000 in
theorem of10_any (a o : Int) (m v : Nat) (w : World) :
    Calls Tryd.prog 8 #[.agg #[.int .i64 a, .int .i64 o, .int .u64 m, .int .u64 v]] w fun e w' => e = .returned (.agg #[.int .i64 a, .int .i64 o, .int .u64 m, .int .u64 v]) ∧ Below w.heap.size w w' := by
  have hb : Below w.heap.size w ((w.alloc (.cells (condA a o m v) 29)).alloc (.cells (condA a o m v) 25)) := ((Below.refl _ _).alloc (Nat.le_refl _) _).alloc (by simp) _
  have r1 : RowC ((w.alloc (.cells (condA a o m v) 29)).alloc (.cells (condA a o m v) 25)) (w.heap.size + 1) (condA a o m v) 25 := RowC.new _ _ _ _ (by simp)
  have HB := Lib.hid hb
  have R1 := Lib.hid r1
  clear hb r1
  go_enter Tryd.func8, Tryd.ntmps8
  go_wp2
  exact bodyPost_ret (results_cell_row Tryd.results8 _ _ (w.heap.size + 1) _ (condA a o m v) (0, 0) _ (by rfl) R1.out Tryd.underlying25 (by rfl) (by kernel_rfl)) rfl ⟨rfl, HB.out⟩
theorem rc_below {w w' : World} (h : ReadC w) (hb : Below w.heap.size w w') : ReadC w' := rc_on h hb (Nat.le_refl _)
/-- What both readings of a number give. -/
def SameN (s : ByteArray) (u : Nat) (q : Bool) : Prop :=
  (∀ X, ReadC X → Calls Tryd.prog 6 #[.string s] X fun e w' => e = .returned (.tuple #[.int .u64 u, .bool q]) ∧ Below X.heap.size X w') ∧ (∀ X, Calls Tryd.prog 7 #[.string s] X fun e w' => e = .returned (.tuple #[.int .u64 u, .bool q]) ∧ Below X.heap.size X w')
theorem sameN (s : ByteArray) (hs : s.size ≤ 60) : ∃ u q, SameN s u q := by
  obtain ⟨o, _, h1, h2⟩ := nums_same s hs
  obtain ⟨a, b, hab⟩ := numE_tuple o
  rw [hab] at h1 h2
  exact ⟨a, b, fun X hX => h1 X hX.tab hX.tz hX.err, h2⟩

set_option maxRecDepth 100000 in
set_option maxHeartbeats 8000000 in
/-- The walk where both readings of the words give the same. -/
theorem readsC_go {w0 : World} (A : Option Addr) (n c : Nat) (f : Nat → ByteArray) (s : ByteArray) (hw : Cel w0 w0.heap.size 1 A n c (fun i => .string (f i))) (hn : n ≤ 7) (hs : s.size ≤ 40) (ht : ReadC w0)
    (hs40 : ∀ k, (∀ i, i < k → (f i).size ≤ 40) → k = n → SameC A n c (fun X => Below w0.heap.size w0 X)) :
    Calls Tryd.prog 3 #[.slice A n c, .string s] w0 fun e w' => e = .returned (.bool true) ∧ Below w0.heap.size w0 w' := by
  obtain ⟨u, q, hsn⟩ := sameN s (by omega)
  have HN := Lib.hid hsn
  have HC := Lib.hid hw
  have HT := Lib.hid ht
  have H40 := Lib.hid hs40
  have q1 : decide ((n : Int) > 7) = false := by simp; omega
  have q2 : ¬ (n : Int) > 7 := by omega
  have q3 : decide ((s.size : Int) > 40) = false := by simp; omega
  have q4 : ¬ (s.size : Int) > 40 := by omega
  clear hw ht hs40 hsn
  go_enter Tryd.func3, Tryd.ntmps3
  go_wp2_with fail
  go_loopw [5] (fun i wr => ∃ k : Nat, k ≤ n ∧ i = .int .i64 k ∧ (∀ i, i < k → (f i).size ≤ 40) ∧ w0 = wr)
    (fun i _ => n - (intOf i).toNat)
  case atStart => exact ⟨0, by omega, rfl, fun i h => by omega, rfl⟩
  case round =>
    obtain ⟨k, hk, rfl, hall, rfl⟩ := hrel
    have HALL := Lib.hid hall
    clear hall
    by_cases hlt : k < n
    · obtain ⟨b, o, rfl, _, hc⟩ := HC.out.at_ (by omega)
      have hck := hc k (by omega)
      have g1 : (k : Int) < (n : Int) := by omega
      have i0 : (0 : Int) ≤ (k : Int) := by omega
      clear hc
      by_cases hb : (f k).size > 40
      · have g2 : decide (((f k).size : Int) > 40) = true := by simp; omega
        have g3 : ((f k).size : Int) > 40 := by omega
        go_wp2
        go_ret
        exact ⟨rfl, Below.refl _ _⟩
      · have g2 : decide (((f k).size : Int) > 40) = false := by simp; omega
        have g3 : ¬ ((f k).size : Int) > 40 := by omega
        go_wp2
        exact ⟨⟨k + 1, by omega, by go_num, fun i hi => by
          by_cases h : i = k
          · subst h; omega
          · exact HALL.out i (by omega), trivial⟩, by simp [intOf]; omega⟩
    · have hkn : k = n := by omega
      obtain ⟨a0, a1, a2, a3, m, e, hsame⟩ := H40.out k HALL.out hkn
      have HS := Lib.hid hsame
      have g1 : ¬ (k : Int) < (n : Int) := by omega
      have g2 : decide ((k : Int) < (n : Int)) = false := by simpa using g1
      clear hsame H40 HALL hkn hlt HC
      go_upto_region 8 with fail
      have HX1 := Lib.hid (HS.out.1 w0 HT.out (Below.refl _ _))
      go_wp2_with fail
      refine HX1.out.mono ?_
      rintro e' w1 ⟨rfl, hB1⟩
      obtain ⟨U1, hU1⟩ : ∃ U, w1.alloc (.cells #[.int .i64 a0, .int .i64 a1, .int .u64 a2, .int .u64 a3] 25) = U := ⟨_, rfl⟩
      have r1 : RowC U1 w1.heap.size #[.int .i64 a0, .int .i64 a1, .int .u64 a2, .int .u64 a3] 25 := by rw [← hU1]; exact RowC.new _ _ _ _ rfl
      have b1 : Below w0.heap.size w0 U1 := by rw [← hU1]; exact hB1.alloc hB1.size _
      have HU1 := Lib.hid hU1
      have R1 := Lib.hid r1
      have B1 := Lib.hid b1
      have l1 : Hid (w0.heap.size ≤ w1.heap.size) := Lib.hid hB1.size
      clear hB1 r1 hU1 b1
      go_upto_region 9 with fail
      rw [HU1.out]
      have HX2 := Lib.hid (HS.out.2 U1 B1.out)
      go_wp2_with fail
      refine HX2.out.mono ?_
      rintro e' w2 ⟨rfl, hB2⟩
      obtain ⟨U, hU⟩ : ∃ U, w2.alloc (.cells #[.int .i64 a0, .int .i64 a1, .int .u64 a2, .int .u64 a3] 29) = U := ⟨_, rfl⟩
      have hs2 := hB2.size
      have r2 : RowC U w2.heap.size #[.int .i64 a0, .int .i64 a1, .int .u64 a2, .int .u64 a3] 29 := by rw [← hU]; exact RowC.new _ _ _ _ rfl
      have h1U : Below U1.heap.size U1 U := by rw [← hU]; exact hB2.alloc hs2 _
      have R1U := Lib.hid (R1.out.below h1U R1.out.lt)
      have RU := Lib.hid r2
      have bU := Lib.hid (B1.out.trans (h1U.mono B1.out.size))
      have HU := Lib.hid hU
      clear hB2 hs2 r2 h1U hU
      go_upto_region 10 with fail
      rw [HU.out]
      have HX3 := Lib.hid (HN.out.1 U (rc_below HT.out bU.out))
      have HX4 := Lib.hid HN.out.2
      clear HX1 HX2 HS HU HU1 B1 R1 l1 HN
      generalize w1.heap.size = X at *
      generalize w2.heap.size = Y at *
      go_wp2_with fail
      refine HX3.out.mono ?_
      rintro e' w3 ⟨rfl, hB3⟩
      have R13 := Lib.hid (R1U.out.below hB3 R1U.out.lt)
      have R23 := Lib.hid (RU.out.below hB3 RU.out.lt)
      have b3 := Lib.hid (bU.out.trans (hB3.mono bU.out.size))
      clear hB3 R1U RU bU HX3
      go_wp2_with fail
      refine (HX4.out _).mono ?_
      rintro e' w4 ⟨rfl, hB4⟩
      have R14 := Lib.hid (R13.out.below hB4 R13.out.lt)
      have R24 := Lib.hid (R23.out.below hB4 R23.out.lt)
      have b4 := Lib.hid (b3.out.trans (hB4.mono b3.out.size))
      clear hB4 R13 R23 b3 HX4
      go_upto_region 12 with fail
      have hS : Hid (∀ W, Below w4.heap.size w4 W → W.cell? ⟨X, 0, none⟩ = some (.int .i64 a0) ∧ W.cell? ⟨X, 1, none⟩ = some (.int .i64 a1) ∧ W.cell? ⟨X, 2, none⟩ = some (.int .u64 a2) ∧ W.cell? ⟨X, 3, none⟩ = some (.int .u64 a3) ∧ W.cell? ⟨Y, 0, none⟩ = some (.int .i64 a0) ∧ W.cell? ⟨Y, 1, none⟩ = some (.int .i64 a1) ∧ W.cell? ⟨Y, 2, none⟩ = some (.int .u64 a2) ∧ W.cell? ⟨Y, 3, none⟩ = some (.int .u64 a3)) := Lib.hid fun W hW => ⟨(R14.out.below hW R14.out.lt).cell 0 _ rfl, (R14.out.below hW R14.out.lt).cell 1 _ rfl, (R14.out.below hW R14.out.lt).cell 2 _ rfl, (R14.out.below hW R14.out.lt).cell 3 _ rfl, (R24.out.below hW R24.out.lt).cell 0 _ rfl, (R24.out.below hW R24.out.lt).cell 1 _ rfl, (R24.out.below hW R24.out.lt).cell 2 _ rfl, (R24.out.below hW R24.out.lt).cell 3 _ rfl⟩
      have hk0 : Below w4.heap.size w4 w4.drew := (Below.refl _ w4).drew
      have HO := Lib.hid fun X => of10_any a0 a1 a2 a3 X
      have HAW : Hid (∀ W, Below w4.heap.size w4 W → Calls Tryd.prog 9 #[] W fun e w' => e = .returned (.bool true) ∧ Below W.heap.size W w') := Lib.hid fun W hW => awake10_any W (rc_below HT.out (b4.out.trans (hW.mono b4.out.size))).tab
      clear HT R14 R24
      go_region_held3 (fun w' => w'.cell? ⟨X, 0, none⟩ = some (.int .i64 a0) ∧ w'.cell? ⟨X, 1, none⟩ = some (.int .i64 a1) ∧ w'.cell? ⟨X, 2, none⟩ = some (.int .u64 a2) ∧ w'.cell? ⟨X, 3, none⟩ = some (.int .u64 a3) ∧ w'.cell? ⟨Y, 0, none⟩ = some (.int .i64 a0) ∧ w'.cell? ⟨Y, 1, none⟩ = some (.int .i64 a1) ∧ w'.cell? ⟨Y, 2, none⟩ = some (.int .u64 a2) ∧ w'.cell? ⟨Y, 3, none⟩ = some (.int .u64 a3))
        (first | exact hS.out _ hk2 | exact hS.out _ hk1 | exact hS.out _ hk0 | assumption | go_keep)
        (first
          | (go_at_call 8
             (with_reducible refine (HO.out _).mono ?_)
             rintro e w7 ⟨rfl, hB7⟩
             have hk1 := hk0.trans (hB7.mono hk0.size))
          | (go_at_call 9
             (with_reducible refine (HAW.out _ hk1).mono ?_)
             rintro e w8 ⟨rfl, hB8⟩
             have hk2 := hk1.trans (hB8.mono hk1.size)))
      all_goals go_wp2
      all_goals go_ret
      all_goals exact ⟨rfl, b4.out.trans (hk2.mono b4.out.size)⟩
set_option maxRecDepth 100000 in
set_option maxHeartbeats 4000000 in
theorem readsC_many {w0 : World} (A : Option Addr) (n c : Nat) (s : ByteArray) (hn : ¬ (n ≤ 7 ∧ s.size ≤ 40)) :
    Calls Tryd.prog 3 #[.slice A n c, .string s] w0 fun e w' => e = .returned (.bool true) ∧ Below w0.heap.size w0 w' := by
  by_cases h7 : n ≤ 7
  · have h40 : ¬ s.size ≤ 40 := fun h => hn ⟨h7, h⟩
    have q1 : decide ((n : Int) > 7) = false := by simp; omega
    have q2 : ¬ (n : Int) > 7 := by omega
    have q3 : decide ((s.size : Int) > 40) = true := by simp; omega
    have q4 : (s.size : Int) > 40 := by omega
    go_enter Tryd.func3, Tryd.ntmps3
    go_wp2
    go_ret
    exact ⟨rfl, Below.refl _ _⟩
  · have q1 : decide ((n : Int) > 7) = true := by simp; omega
    have q2 : (n : Int) > 7 := by omega
    go_enter Tryd.func3, Tryd.ntmps3
    go_wp2
    go_ret
    exact ⟨rfl, Below.refl _ _⟩
theorem walk_CondReads {w0 : World} (A : Option Addr) (n c : Nat) (f : Nat → ByteArray) (hw : Cel w0 w0.heap.size 1 A n c (fun i => .string (f i))) (s : ByteArray) (_hsw : s.size ≤ maxLen) (hv : ReadC w0) :
    Calls Tryd.prog 3 #[.slice A n c, .string s] w0 fun e w' => e = .returned (.bool true) ∧ Below w0.heap.size w0 w' := by
  by_cases hn : n ≤ 7 ∧ s.size ≤ 40
  · refine readsC_go A n c f s hw hn.1 hn.2 hv fun k hk hkn => ?_
    subst hkn
    by_cases h0 : k = 0
    · subst h0
      exact ⟨0, 0, 0, 0, 0, 4, fun X _ _ => readC_0 A c X, fun X _ => refC_0 A c X⟩
    · obtain ⟨b, o, rfl, hb, hc⟩ := hw.at_ (by omega)
      obtain ⟨a0, a1, a2, a3, m, e, h1, h2⟩ := readsC_same b o k c (by omega) f hk
      refine ⟨a0, a1, a2, a3, m, e, fun X hr hX => h1 X hr fun i hi => ?_, fun X hX => h2 X fun i hi => ?_⟩
      · exact (hX.cell (p := ⟨b, o + i, none⟩) hb).trans (hc i (by omega))
      · exact (hX.cell (p := ⟨b, o + i, none⟩) hb).trans (hc i (by omega))
  · exact readsC_many A n c s hn

theorem starE : "*" ++ "errors.errorString" = "*errors.errorString" := by decide
theorem rowE (u : TypeId) (h : Tryd.prog.typeName? 3 u = some "*errors.errorString") : u = 101 :=
  typeName_ptr_named (nm := "errors.errorString") (by rw [starE]; kernel_rfl) (by kernel_rfl) (by decide) u (by rw [starE]; exact h)
section
set_option maxHeartbeats 4000000
theorem tz_datum : (Rows.laid_math_bits_deBruijn64tab : DataW Unit) = Lib.tabData .u8 tab64 := by kernel_rfl
theorem tz_of_second {x : String × DataW Unit} {rest : List (String × DataW Unit)} {W : World} (h : laidMet Tryd.prog (x :: ("math/bits.deBruijn64tab", Rows.laid_math_bits_deBruijn64tab) :: rest) W) : Tz W := by
  have h2 := h.tail
  rw [tz_datum] at h2
  exact Lib.tabIs_of_head (t := 114) (e := 5) (n := 64) gTz (by kernel_rfl) Tryd.underlying114 Tryd.underlying5 (by kernel_rfl) (by kernel_rfl) h2
end
theorem of_laid {W : World} (h : laidMetH Tryd.prog Rows.condReadsRow.laid W) : ReadC W := by
  rw [MakeChecks.laidMetH_plain _ _ _ (by kernel_rfl)] at h
  have h3 := h.tail.tail.tail.tail
  have h4 := h.tail.tail.tail.tail.tail
  obtain ⟨x, sx, hx, _, _, _⟩ := laid_sentinel (g := 1) (ti := 50) (tp := 101) (te := 103) (ts := 9) h3 (by kernel_rfl) (by kernel_rfl) Tryd.underlying50 rowE Tryd.underlying101 Tryd.underlying103 rfl rfl Tryd.underlying9 (by kernel_rfl) (by kernel_rfl)
  obtain ⟨y, sy, hy, _, _, _⟩ := laid_sentinel (g := 0) (ti := 50) (tp := 101) (te := 103) (ts := 9) h4 (by kernel_rfl) (by kernel_rfl) Tryd.underlying50 rowE Tryd.underlying101 Tryd.underlying103 rfl rfl Tryd.underlying9 (by kernel_rfl) (by kernel_rfl)
  exact ⟨tab_of_third h, tz_of_second h, ⟨_, _, hy⟩, ⟨_, _, hx⟩⟩

namespace condReadsRow
open Go.ChangeShapes Go.WideShapes Go.ChangeAt Go.RowKit Go.Joins
open Go.ChangeMaps (open_string shut_string)
set_option linter.unusedVariables false
theorem own : ownKnob Tryd.prog.godebug = none := by kernel_rfl
theorem laidOut : laidOutB Tryd.prog = true := by kernel_rfl
set_option maxRecDepth 100000 in
theorem lifted (os : Os) (started : os.Started) (H : Type) (enc : TypeId × Value → H) :
    ReturnsInHanded {} Tryd.checked os 3 .any (fun w args => (Rows.condReadsSpec.pre enc Tryd.prog Tryd.f3 [] false w args ∧ laidMetH Tryd.prog Rows.condReadsRow.laid w) ∧ sizedMet enc Tryd.prog Tryd.f3 (OpenSpec.ofChange Rows.condReadsSpec) false w args) (Rows.condReadsSpec.post enc Tryd.prog Tryd.f3 false true false false) := by
  refine returnsInHanded_of_change_and (C := Tryd.checked) (X := fun w _ => laidMetH Tryd.prog Rows.condReadsRow.laid w) (fun _ _ _ hh h => h.of_heap hh) own started (by kernel_rfl) Tryd.func3
    (ChangeSpec.witness_shaped (enc := enc) (C := Tryd.checked) (os := os) (X := fun w _ => laidMetH Tryd.prog Rows.condReadsRow.laid w) false (World.laidAll Tryd.prog os Rows.condReadsRow.laid) #[.slice none 0 0, .string ⟨#[]⟩] 8 (World.laidAll_os _ _ _) (World.shaped_of_ZipB (by kernel_rfl) (by kernel_rfl)) (by kernel_rfl) (by kernel_rfl) (by kernel_rfl) (by rw [MakeChecks.laidMetH_plain _ _ _ (by kernel_rfl)]; exact laidMet_laidAll _ (by kernel_rfl) (by kernel_rfl))) ?_
  intro W base args ds gs before hval0 hW _ _ hL _
  have hval : ∀ (j : Nat) t v, Tryd.f3.params[j]? = some t → args[j]? = some v → Value.okWide Tryd.prog W .any base t v := hval0
  have hW' := hW
  obtain ⟨p, q, hA0, hV, rfl, hfz, hnd⟩ := hW
  have hA : DataW.TrodAll enc Tryd.prog W 0 (fun _ => true) true Tryd.f3.params.toList args.toList ds p := hA0
  rw [Tryd.params3] at hA hval
  obtain ⟨v0, vs0, d0, ds0, p0, q0, hargs, rfl, rfl, h0, r0⟩ := trodAll_cons hA
  obtain ⟨v1, vs1, d1, ds1, p1, q1, rfl, rfl, rfl, h1, r1⟩ := trodAll_cons r0
  obtain ⟨rfl, rfl, rfl⟩ := trodAll_nil r1
  obtain rfl : args = #[v0, v1] := by cases args; simp_all
  obtain ⟨rfl, rfl⟩ := trodVars_none hV
  have k0 := h0
  have lt0 : ∀ x ∈ p0, x.block < W.heap.size := by obtain ⟨m, hm⟩ := k0; exact DataW.trod_lt m _ _ _ hm
  have k1 := h1
  have lt1 : ∀ x ∈ p1, x.block < W.heap.size := by obtain ⟨m, hm⟩ := k1; exact DataW.trod_lt m _ _ _ hm
  obtain ⟨a0, len0, cap0, rfl⟩ := okWide_slice Tryd.underlying22 (hval 0 22 v0 rfl rfl)
  obtain ⟨f0, w0⟩ : ∃ f : Nat → ByteArray, Cel W W.heap.size 1 a0 len0 cap0 (fun i => .string (f i)) := by
    obtain ⟨fuel, hf⟩ := h0
    rcases Go.Deep.open_strs Tryd.underlying22 Tryd.underlying9 (by kernel_rfl) hf with ⟨hcs, _⟩ | ⟨x, l, c, m, B, hcs, _, hl, hm, hmm, _, hcell⟩
    · simp [Value.cells] at hcs
      obtain ⟨rfl, rfl, rfl⟩ := hcs
      exact ⟨fun _ => ⟨#[]⟩, Cel.nil_⟩
    · simp [Value.cells] at hcs
      obtain ⟨rfl, rfl, rfl⟩ := hcs
      exact ⟨B, cel_strs hl hm fun i hi => (hcell i (by rw [hmm]; split <;> omega)).1⟩
  obtain ⟨s1, rfl, rfl, rfl, w1⟩ := open_string Tryd.underlying9 (hval 1 9 v1 rfl rfl) h1
  clear hA0 hval0
  refine (walk_CondReads (w0 := W) a0 len0 cap0 f0 w0 s1 w1 (of_laid hL)).mono fun e W' ⟨he, bel⟩ => ?_
  subst he
  exact ⟨_, rfl, _, _, _, [], _, [], hW', trodAll_mk1 (shut_bool Tryd.underlying4 _), (trodAll_cons_mk (Below.trod laidOut (by kernel_rfl) (of_decide_eq_true (by kernel_rfl)) k0 bel lt0) (trodAll_cons_mk (Below.trod laidOut (by kernel_rfl) (of_decide_eq_true (by kernel_rfl)) k1 bel lt1) trodAll_mk0)), rfl, bel.frame _, fun h => by cases h⟩

theorem over : Rows.condReadsRow.holds Tryd.pinned (OpenSpec.ofChange Rows.condReadsSpec) :=
  OpenClaim.holds_of_wide 3 Tryd.f3 rfl rfl rfl rfl rfl rfl rfl ⟨rfl, rfl, rfl, rfl, rfl⟩ rfl rfl rfl rfl rfl (by kernel_rfl) Tryd.func3 (by kernel_rfl)
    (of_decide_eq_true (by kernel_rfl)) (by unfold Func.isWrapper; first | (rw [if_pos (by decide +kernel)]; kernel_rfl) | (rw [if_neg (by decide +kernel)]; exact ⟨rfl, rfl⟩))
    (fun os started H enc _ => lifted os started H enc)
end condReadsRow

theorem condReads_proved : Rows.CondReadsCardSaid :=
  Claim7.holds_tied_plain_at .later [] [.data, .data, .data, .data, .sentinel, .sentinel, .pinned] true Rows.condReadsCard.stood.harness true
    condReadsRow.over (fun _ h => by cases h) (by kernel_rfl) (fun _ h => by cases h) condReads_row_tie rfl ⟨rfl, rfl⟩ (by kernel_rfl) rfl
    (fun f fn hf hfn => by
      obtain rfl : f = 3 := Option.some.inj ((show Tryd.prog.funcNamed "strainer/strainerlaw10.CondReads" = some 3 by kernel_rfl).symm.trans hf) |>.symm
      obtain rfl : fn = Tryd.f3 := (Option.some.inj (Tryd.func3.symm.trans hfn)).symm
      exact ⟨by kernel_rfl, fun j t ht => by
        rw [Tryd.params3] at ht
        have hall : ∀ t ∈ [22, 9], Tryd.prog.wantsStandIn t = false := by
          intro t ht
          simp only [List.mem_cons, List.not_mem_nil, or_false] at ht
          rcases ht with rfl | rfl <;> kernel_rfl
        exact hall t (by simpa using Array.mem_of_getElem? ht)⟩)
    (by kernel_rfl)
#print axioms condReads_proved
end Go.Proofs.YtlajmdfebnicnaaDoor
