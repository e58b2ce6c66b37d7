/-
  Words out of any bytes: strings.FieldsFunc at the blanks is the row of words byte by byte, whatever the bytes are.
-/
import Derived.Test.YtilelhhnbbjaaaaGreatDoorPn
import Derived.Test.YtilelhhnbbjaaaaGreatDoorIe
import Derived.Test.YtilelhhnbbjaaaaGreatDoorIf
import Derived.Test.YtilelhhnbbjaaaaGreatDoorRw
import Derived.Lib.SplitLaws
import Derived.Lib.IndexBytes
import Derived.Lib.IndexLaws
import Derived.Test.YtilelhhnbbjaaaaGreatDoorShc
import Derived.Shelf.Strings.BuilderK
namespace Go.Proofs.YtilelhhnbbjaaaaGreatDoor
open Go.RowKit Go.Shelf
set_option linter.unusedVariables false

theorem wdF_app : ∀ (x t w : List UInt8) (out : List (List UInt8)), (∀ b ∈ x, blk b = false) → wdF (x ++ t) w out = wdF t (w ++ x) out := by
  intro x
  induction x with
  | nil => intro t w out _; simp
  | cons b l ih =>
    intro t w out h
    rw [List.cons_append, wdF, if_neg (by rw [h b (by simp)]; decide), ih t (w ++ [b]) out fun y hy => h y (by simp [hy]), List.append_assoc]
    rfl
theorem decode_span (s : ByteArray) (pos : Nat) (h : pos < s.size) (ha : 128 ≤ (s[pos]'h).toNat) : 1 ≤ (Utf8.decode s pos).2 ∧ pos + (Utf8.decode s pos).2 ≤ s.size ∧ ∀ k, k < (Utf8.decode s pos).2 → 128 ≤ (s.get! (pos + k)).toNat := by
  have h0 : 128 ≤ (s.get! (pos + 0)).toNat := by rw [get_at s pos h]; exact ha
  have hc : ∀ x : Nat, x / 64 = 2 → 128 ≤ x := fun x hx => by omega
  have hk1 : ∀ n, n = 1 → ∀ k, k < n → 128 ≤ (s.get! (pos + k)).toNat := fun n hn k hk => by
    obtain rfl : k = 0 := by omega
    exact h0
  unfold Utf8.decode
  simp only []
  rw [if_neg (by omega)]
  split
  · rename_i h2
    simp only [Bool.and_eq_true, beq_iff_eq, decide_eq_true_eq] at h2
    split
    · refine ⟨by show 1 ≤ 2; decide, by show pos + 2 ≤ _; omega, fun k hk => ?_⟩
      rcases (show k = 0 ∨ k = 1 by change k < 2 at hk; omega) with rfl | rfl
      · exact h0
      · exact hc _ h2.2.2
    · exact ⟨by decide, by show pos + 1 ≤ _; omega, hk1 1 rfl⟩
  · split
    · rename_i h2
      simp only [Bool.and_eq_true, beq_iff_eq, decide_eq_true_eq] at h2
      split
      · refine ⟨by show 1 ≤ 3; decide, by show pos + 3 ≤ _; omega, fun k hk => ?_⟩
        rcases (show k = 0 ∨ k = 1 ∨ k = 2 by change k < 3 at hk; omega) with rfl | rfl | rfl
        · exact h0
        · exact hc _ h2.1.2.2
        · exact hc _ h2.2.2
      · exact ⟨by decide, by show pos + 1 ≤ _; omega, hk1 1 rfl⟩
    · split
      · rename_i h2
        simp only [Bool.and_eq_true, beq_iff_eq, decide_eq_true_eq] at h2
        split
        · refine ⟨by show 1 ≤ 4; decide, by show pos + 4 ≤ _; omega, fun k hk => ?_⟩
          rcases (show k = 0 ∨ k = 1 ∨ k = 2 ∨ k = 3 by change k < 4 at hk; omega) with rfl | rfl | rfl | rfl
          · exact h0
          · exact hc _ h2.1.1.2.2
          · exact hc _ h2.1.2.2
          · exact hc _ h2.2.2
        · exact ⟨by decide, by show pos + 1 ≤ _; omega, hk1 1 rfl⟩
      · exact ⟨by decide, by show pos + 1 ≤ _; omega, hk1 1 rfl⟩
theorem piece_more (l : List UInt8) (a pos n : Nat) (h : a ≤ pos) : (l.drop a).take (pos - a) ++ (l.drop pos).take n = (l.drop a).take (pos + n - a) := by
  rw [show pos + n - a = (pos - a) + n by omega, List.take_add, List.drop_drop, show a + (pos - a) = pos by omega]
theorem isBl_high {r : Nat} (h : 128 ≤ r) : isBl r = false := by
  unfold isBl
  rw [decide_eq_false (by omega), decide_eq_false (by omega), decide_eq_false (by omega)]; rfl
theorem spans_any (s : ByteArray) : ∀ (f pos : Nat) (st : Option Nat) (acc : List (Nat × Nat)), s.size ≤ pos + f → pos ≤ s.size → (∀ a, st = some a → a < pos) →
    ((Lib.closeSpans s (Lib.spansFromP isBl s f pos st acc)).map fun p => (s.data.toList.drop p.1).take (p.2 - p.1)) = wdF (s.data.toList.drop pos) (wrd s.data.toList st pos) (acc.map fun p => (s.data.toList.drop p.1).take (p.2 - p.1)) := by
  have hlen : s.data.toList.length = s.size := Array.length_toList
  have hend : ∀ (st : Option Nat) (acc : List (Nat × Nat)), (∀ a, st = some a → a < s.size) → ((Lib.closeSpans s (acc, st)).map fun p => (s.data.toList.drop p.1).take (p.2 - p.1)) = wdF [] (wrd s.data.toList st s.size) (acc.map fun p => (s.data.toList.drop p.1).take (p.2 - p.1)) := fun st acc hst => by
    cases st with
    | none => rfl
    | some a =>
      have := piece_ne s.data.toList a s.size (hst a rfl) (by omega)
      simp only [Lib.closeSpans, wdF, wrd, List.map_append, List.map_cons, List.map_nil]
      rw [psh_ne _ this]
  intro f
  induction f with
  | zero =>
    intro pos st acc h1 h2 h3
    obtain rfl : pos = s.size := by omega
    have e : s.data.toList.drop s.size = [] := by rw [List.drop_eq_nil_iff]; omega
    rw [e]
    exact hend st acc h3
  | succ f ih =>
    intro pos st acc h1 h2 h3
    by_cases hlt : pos < s.size
    · have hgl : pos < s.data.toList.length := by omega
      have hgb : s.data.toList[pos] = s[pos]'hlt := by simp [ByteArray.getElem_eq_getElem_data]
      by_cases hlow : (s[pos]'hlt).toNat < 128
      · have hdec := decode_ascii s pos hlt hlow
        have ed : s.data.toList.drop pos = s.data.toList[pos] :: s.data.toList.drop (pos + 1) := List.drop_eq_getElem_cons hgl
        have ebl : isBl (s[pos]'hlt).toNat = blk (s.data.toList[pos]) := by rw [hgb, blk_iff]; rfl
        rw [ed]
        unfold Lib.spansFromP wdF
        rw [if_pos hlt, hdec]
        dsimp only
        rw [ebl]
        by_cases hb : blk (s.data.toList[pos]) = true
        · rw [if_pos hb, if_pos hb]
          cases st with
          | none =>
            dsimp only
            rw [ih (pos + 1) none acc (by omega) (by omega) (fun a h => by cases h)]
            rfl
          | some a =>
            dsimp only
            rw [ih (pos + 1) none (acc ++ [(a, pos)]) (by omega) (by omega) (fun a h => by cases h)]
            have hne := piece_ne s.data.toList a pos (h3 a rfl) (by omega)
            simp only [wrd, List.map_append, List.map_cons, List.map_nil]
            rw [psh_ne _ hne]
        · rw [if_neg hb, if_neg hb]
          cases st with
          | none =>
            dsimp only
            rw [ih (pos + 1) (some pos) acc (by omega) (by omega) (fun a h => by cases h; omega)]
            have := piece_grow s.data.toList pos pos (Nat.le_refl _) hgl
            simp only [wrd]
            rw [← this]
            simp
          | some a =>
            dsimp only
            rw [ih (pos + 1) (some a) acc (by omega) (by omega) (fun b h => by cases h; have := h3 a rfl; omega)]
            have := piece_grow s.data.toList a pos (by have := h3 a rfl; omega) hgl
            simp only [wrd]
            rw [← this]
      · have hr := (decode_high s pos hlt (by omega)).1
        obtain ⟨d1, d2, d3⟩ := decode_span s pos hlt (by omega)
        unfold Lib.spansFromP
        rw [if_pos hlt, isBl_high hr]
        simp only [Bool.false_eq_true, if_false]
        generalize (Utf8.decode s pos).2 = n at d1 d2 d3 ⊢
        have hnb : ∀ b ∈ (s.data.toList.drop pos).take n, blk b = false := by
          intro b hb
          obtain ⟨k, hk, he⟩ := List.getElem_of_mem hb
          have hkn : k < n := by simp at hk; omega
          have hlk : pos + k < s.size := by omega
          have h4 := d3 k hkn
          have h5 : b = s[pos + k]'hlk := by
            rw [← he, List.getElem_take, List.getElem_drop]
            simp [ByteArray.getElem_eq_getElem_data]
          have h6 : s.get! (pos + k) = s[pos + k]'hlk := get_at s (pos + k) hlk
          rw [h6, ← h5] at h4
          rw [blk_iff, decide_eq_false (by omega), decide_eq_false (by omega), decide_eq_false (by omega)]
          rfl
        have hsp : s.data.toList.drop pos = (s.data.toList.drop pos).take n ++ s.data.toList.drop (pos + n) := by
          conv => lhs; rw [← List.take_append_drop n (s.data.toList.drop pos), List.drop_drop]
        rw [hsp, wdF_app _ _ _ _ hnb]
        cases st with
        | none =>
          dsimp only
          rw [ih (pos + n) (some pos) acc (by omega) (by omega) (fun a h => by cases h; omega)]
          have := piece_more s.data.toList pos pos n (Nat.le_refl _)
          simp only [wrd]
          rw [← this]
          simp
        | some a =>
          dsimp only
          rw [ih (pos + n) (some a) acc (by omega) (by omega) (fun b h => by cases h; have := h3 a rfl; omega)]
          have := piece_more s.data.toList a pos n (by have := h3 a rfl; omega)
          simp only [wrd]
          rw [← this]
    · obtain rfl : pos = s.size := by omega
      have e : s.data.toList.drop s.size = [] := by rw [List.drop_eq_nil_iff]; omega
      rw [e, Lib.spansFromP_end isBl s _ _ _ _ hlt]
      exact hend st acc h3
/-- strings.FieldsFunc at blanks, at every text. -/
theorem fields_wdA (s : ByteArray) : Lib.goFieldsP isBl s = (wds s.data.toList).map fun w => (⟨w.toArray⟩ : ByteArray) := by
  have h := spans_any s s.size 0 none [] (by omega) (Nat.zero_le _) (fun a h => by cases h)
  unfold Lib.goFieldsP Lib.spansOfP
  have e : ∀ p : Nat × Nat, s.extract p.1 p.2 = (⟨((s.data.toList.drop p.1).take (p.2 - p.1)).toArray⟩ : ByteArray) := fun p => Lib.extract_eq s p.1 p.2
  unfold wds
  rw [List.drop_zero] at h
  simp only [wrd, List.map_nil] at h
  rw [← h, List.map_map]
  exact List.map_congr_left fun p _ => e p
end Go.Proofs.YtilelhhnbbjaaaaGreatDoor

/-
  list.split at any text; list.instOf where no form fits; list.Read at any words.
-/
namespace Go.Proofs.YtilelhhnbbjaaaaGreatDoor
open Go.RowKit Go.Shelf
set_option linter.unusedVariables false

set_option maxHeartbeats 8000000 in
set_option maxRecDepth 100000 in
theorem instOf_none (b o n c2 : Nat) (W : Nat → List UInt8) (hW : ∀ i, i < n → (W i).length ≤ 100000) (hn : n ≤ 1000000) (hno : ∀ i, i < 42 → fitQ n W i = false) (w : World) (h2 : WdP w b o n W) (he : EnvN w) :
    Calls Tryz.prog 54 #[.slice (some ⟨b, o, none⟩) n c2] w fun e w' => e = badE ∧ Below w.heap.size w w' := by
  obtain ⟨W0, hW0⟩ : ∃ X, (w.alloc (.cells #[.slice (some ⟨b, o, none⟩) n c2] 50)).alloc (.cells #[.int .u16 0, .int .u8 0, .int .u8 0, .int .u32 0] 47) = X := ⟨_, rfl⟩
  have hb0 : Below w.heap.size w W0 := by rw [← hW0]; exact ((Below.refl _ _).alloc (Nat.le_refl _) _).alloc (by simp) _
  have r0 : RowC W0 w.heap.size #[.slice (some ⟨b, o, none⟩) n c2] 50 := by rw [← hW0]; exact (RowC.new _ _ _ _ rfl).alloc _
  have HFO := Lib.hid (formOf_none b o n c2 W hW hn hno W0 (h2.below hb0) (envN_on he hb0 (Nat.le_refl _)).r)
  have k0 := r0.cell 0 _ rfl
  have HB := Lib.hid hb0
  have HW := Lib.hid hW0
  clear hb0 hW0 r0 h2 he hW hno
  go_enter Tryz.func54, Tryz.ntmps54
  go_upto_region 1 with fail
  rw [HW.out]
  go_wp2_with fail
  refine HFO.out.mono ?_
  rintro e w1 ⟨rfl, hB1⟩
  exact ⟨rfl, rfl, HB.out.trans (hB1.mono HB.out.size)⟩
/-- strings.FieldsFunc at split's question, at every text. -/
theorem fieldsA_any (s : ByteArray) (hs : s.size ≤ 4294967296) (w : World) :
    Calls Tryz.prog 51 #[.string s, .func (.func 52) #[] #[]] w fun e w' => ∃ A, e = .returned (.slice (some ⟨A, 0, none⟩) (wds s.data.toList).length (wds s.data.toList).length) ∧ w.heap.size ≤ A ∧
      w'.ownsRow w.heap.size 9 1 (.slice (some ⟨A, 0, none⟩) (wds s.data.toList).length (wds s.data.toList).length) (wds s.data.toList).length ((wds s.data.toList).map fun x => Value.string ⟨x.toArray⟩) ∧ Below w.heap.size w w' := by
  have h := Tryz.strings_FieldsFunc 52 #[] (enters_of Tryz.func52 (by kernel_rfl) rfl) isBl s w hs (pred_blankL w)
  rw [fields_wdA s, List.length_map, List.map_map] at h
  exact h
/-- The words of a line, without its note. -/
def wsOf (l : List UInt8) : List (List UInt8) := wds (Lib.cut l [59]).1
def wsN (l : List UInt8) (i : Nat) : List UInt8 := (wsOf l).getD i []
set_option maxHeartbeats 8000000 in
theorem split_words (s : ByteArray) (hs : s.size ≤ 4294967296) (hL : (Lib.cut s.data.toList [59]).1.length ≤ 4294967296) (w : World) :
    Calls Tryz.prog 30 #[.string s] w fun e w' => ∃ A, e = .returned (.slice (some ⟨A, 0, none⟩) (wsOf s.data.toList).length (wsOf s.data.toList).length) ∧ WdP w' A 0 (wsOf s.data.toList).length (wsN s.data.toList) ∧ Below w.heap.size w w' := by
  have hc := cut_any s 59 hs w
  have hf : ∀ W, Calls Tryz.prog 51 #[.string ⟨(Lib.cut s.data.toList [59]).1.toArray⟩, .func (.func 52) #[] #[]] W fun e w' => ∃ A, e = .returned (.slice (some ⟨A, 0, none⟩) (wsOf s.data.toList).length (wsOf s.data.toList).length) ∧ WdP w' A 0 (wsOf s.data.toList).length (wsN s.data.toList) ∧ Below W.heap.size W w' := fun W => by
    refine (fieldsA_any ⟨(Lib.cut s.data.toList [59]).1.toArray⟩ (by show (Lib.cut s.data.toList [59]).1.toArray.size ≤ _; simpa using hL) W).mono ?_
    rintro e w' ⟨A, he, hA, how, hB⟩
    refine ⟨A, he, fun i hi => ?_, hB⟩
    have e1 : ((wds (Lib.cut s.data.toList [59]).1).map fun x => Value.string ⟨x.toArray⟩) = (List.range ((wsOf s.data.toList).length * 1)).map fun i => Value.string ⟨(wsN s.data.toList i).toArray⟩ := by
      rw [Nat.mul_one]
      apply List.ext_getElem (by simp [wsOf])
      intro i h1 h2
      simp [wsN, wsOf, List.getD_eq_getElem?_getD] at h1 ⊢
      rw [List.getElem?_eq_getElem h1]
      rfl
    have ho : OwnC w' W.heap.size 9 1 (some ⟨A, 0, none⟩) (wsOf s.data.toList).length (wsOf s.data.toList).length (fun i => Value.string ⟨(wsN s.data.toList i).toArray⟩) := by
      unfold OwnC
      rw [← e1]
      exact how
    obtain ⟨b, off, eb, _, hcs⟩ := ho.cel.at_ (by omega)
    injection eb with eb
    injection eb with eb eo
    subst eb
    subst eo
    exact hcs i (by omega)
  have HC := Lib.hid hc
  have HF := Lib.hid hf
  clear hc hf hL
  generalize (⟨(Lib.cut s.data.toList [59]).1.toArray⟩ : ByteArray) = S1 at HC HF
  generalize (⟨(Lib.cut s.data.toList [59]).2.1.toArray⟩ : ByteArray) = S2 at HC
  generalize (Lib.cut s.data.toList [59]).2.2 = b3 at HC
  generalize wsN s.data.toList = W at HF ⊢
  generalize (wsOf s.data.toList).length = n at HF ⊢
  go_enter Tryz.func30, Tryz.ntmps30
  go_wp2_with fail
  refine HC.out.mono ?_
  rintro e w1 ⟨rfl, nq, rfl⟩
  go_wp2_with fail
  refine (HF.out _).mono ?_
  rintro e w2 ⟨A, rfl, hW, hB2⟩
  go_wp2
  go_ret
  exact ⟨A, rfl, hW, (bdn (Below.refl w.heap.size w) nq).trans hB2⟩
/-- What a line's words are. -/
def readE (l : List UInt8) (c t f k : Nat) (e : Int) : Prop :=
  (e = 0 ∧ ∃ j, j < 42 ∧ fitQ (wsOf l).length (wsN l) j = true ∧ (∀ i, i < j → fitQ (wsOf l).length (wsN l) i = false) ∧ instE j (wsN l) = .returned (.agg (instA c t f k)))
  ∨ (e = 13 ∧ c = 0 ∧ t = 0 ∧ f = 0 ∧ k = 0 ∧ ((∀ i, i < 42 → fitQ (wsOf l).length (wsN l) i = false) ∨ ∃ j, j < 42 ∧ fitQ (wsOf l).length (wsN l) j = true ∧ (∀ i, i < j → fitQ (wsOf l).length (wsN l) i = false) ∧ instE j (wsN l) = badE))
set_option maxRecDepth 100000 in
set_option maxHeartbeats 8000000 in
theorem readL_any (s : ByteArray) (hs : s.size ≤ 100000) (hL : (Lib.cut s.data.toList [59]).1.length ≤ 100000) (hn0 : 0 < (wsOf s.data.toList).length) (hn1 : (wsOf s.data.toList).length ≤ 100000) (hW : ∀ i, i < (wsOf s.data.toList).length → (wsN s.data.toList i).length ≤ 100000)
    (c t f k : Nat) (x : Int) (hx : readE s.data.toList c t f k x) (w : World) (he : EnvN w) :
    Calls Tryz.prog 15 #[.string s] w fun e w' => e = .returned (.tuple #[.agg (instA c t f k), .int .i64 x]) ∧ Below w.heap.size w w' := by
  obtain ⟨W0, hW0⟩ : ∃ W, w.alloc (.cells #[.int .u16 0, .int .u8 0, .int .u8 0, .int .u32 0] 47) = W := ⟨_, rfl⟩
  have hb0 : Below w.heap.size w W0 := by rw [← hW0]; exact (Below.refl _ _).alloc (Nat.le_refl _) _
  have r0 : RowC W0 w.heap.size #[.int .u16 0, .int .u8 0, .int .u8 0, .int .u32 0] 47 := by rw [← hW0]; exact RowC.new _ _ _ _ rfl
  have HS := Lib.hid (split_words s (by omega) (by omega) W0)
  have hrd : ∀ A W, Below w.heap.size w W → WdP W A 0 (wsOf s.data.toList).length (wsN s.data.toList) → Calls Tryz.prog 31 #[.slice (some ⟨A, 0, none⟩) (wsOf s.data.toList).length (wsOf s.data.toList).length] W fun e w' => e = .returned (.tuple #[.agg (instA c t f k), .int .i64 x]) ∧ Below W.heap.size W w' := by
    intro A W hB hWd
    rcases hx with ⟨rfl, j, hj, hf, hno, hE⟩ | ⟨rfl, rfl, rfl, rfl, rfl, hE⟩
    · refine readW_ok _ c t f k W fun X hX => ?_
      have h := instOf_fits A 0 (wsOf s.data.toList).length (wsOf s.data.toList).length (wsN s.data.toList) hW (by omega) j hj hf hno X (hWd.below hX) (envN_on (envN_on he hB (Nat.le_refl _)) hX (Nat.le_refl _))
      rw [hE] at h
      exact h
    · refine readW_bad _ W fun X hX => ?_
      rcases hE with hno | ⟨j, hj, hf, hno, hE⟩
      · exact instOf_none A 0 (wsOf s.data.toList).length (wsOf s.data.toList).length (wsN s.data.toList) hW (by omega) hno X (hWd.below hX) (envN_on (envN_on he hB (Nat.le_refl _)) hX (Nat.le_refl _))
      · have h := instOf_fits A 0 (wsOf s.data.toList).length (wsOf s.data.toList).length (wsN s.data.toList) hW (by omega) j hj hf hno X (hWd.below hX) (envN_on (envN_on he hB (Nat.le_refl _)) hX (Nat.le_refl _))
        rw [hE] at h
        exact h
  have HRD := Lib.hid hrd
  have HB := Lib.hid hb0
  have HR := Lib.hid r0
  have HW := Lib.hid hW0
  clear hb0 r0 hW0 hrd hx hW he hL
  generalize wsN s.data.toList = WW at HS HRD
  generalize (wsOf s.data.toList).length = n at HS HRD hn0 hn1
  have g0 : ((n : Int) == 0) = false := beq_eq_false_iff_ne.2 (by omega)
  go_enter Tryz.func15, Tryz.ntmps15
  go_upto_region 1 with fail
  rw [HW.out]
  go_wp2_with fail
  refine HS.out.mono ?_
  rintro e w1 ⟨A, rfl, hWd, hB1⟩
  have HR1 := Lib.hid (HR.out.below hB1 HR.out.lt)
  have HB1 := Lib.hid (HB.out.trans (hB1.mono HB.out.size))
  have HX := Lib.hid (HRD.out A w1 HB1.out hWd)
  clear hWd hB1 HS HRD HB HR HW
  go_wp2_with fail
  refine HX.out.mono ?_
  rintro e w2 ⟨rfl, hB2⟩
  have r2 := HR1.out.below hB2 HR1.out.lt
  have HR2 := Lib.hid r2
  have HB2 := Lib.hid (HB1.out.trans (hB2.mono HB1.out.size))
  have z0 := r2.cell 0 _ rfl
  have z1 := r2.cell 1 _ rfl
  have z2 := r2.cell 2 _ rfl
  have z3 := r2.cell 3 _ rfl
  have f0 := r2.frozen 0
  have f1 := r2.frozen 1
  have f2 := r2.frozen 2
  have f3 := r2.frozen 3
  clear hB2 r2 HX HR1
  go_wp2
  exact bodyPost_ret (results_cell_row2L Tryz.results15 _ _ w.heap.size _ (instA c t f k) (0, 0) _ (.int .i64 x) (by rfl) (by rfl) (show RowC _ w.heap.size (instA c t f k) 47 from (((HR2.out.set 0 (.int .u16 c)).set 1 (.int .u8 t)).set 2 (.int .u8 f)).set 3 (.int .u32 k)) Tryz.underlying47 (by rfl) (show _ = some 4 by kernel_rfl)) rfl
    ⟨rfl, (((HB2.out.setCell (Nat.le_refl _) _).setCell (Nat.le_refl _) _).setCell (Nat.le_refl _) _).setCell (Nat.le_refl _) _⟩
end Go.Proofs.YtilelhhnbbjaaaaGreatDoor

/-
  The words of an instruction's line, and the form that they have. Nothing here speaks of a program.
-/
namespace Go.Proofs.YtilelhhnbbjaaaaGreatDoor
open Go.RowKit Go.Shelf
set_option linter.unusedVariables false

theorem dgL_nat {d : Nat} (h : d < 10) : (UInt8.ofNat (48 + d)).toNat = 48 + d := by
  rw [UInt8.toNat_ofNat']
  omega
theorem parse_decML (M : Nat) (hM : M ≤ 18446744073709551615) : ∀ (u : Nat), u ≤ M → ∀ r, Lib.parseUintM M 0 (Lib.decDigits u ++ r) = Lib.parseUintM M u r := by
  intro u
  induction u using Nat.strongRecOn with
  | _ u ih =>
    intro hu r
    by_cases h : u < 10
    · rw [Lib.decDigits_one h, List.singleton_append, Lib.parseUintM, dgL_nat h, if_pos (by omega), if_neg (by omega), if_neg (by omega)]
      congr 1
      omega
    · rw [Lib.decDigits, dif_neg h, List.append_assoc, ih (u / 10) (by omega) (by omega), List.singleton_append, Lib.parseUintM, dgL_nat (Nat.mod_lt _ (by omega)), if_pos (by omega), if_neg (by omega), if_neg (by omega)]
      congr 1
      omega
theorem numW_dd (wd : Nat) (hw : Wd wd) (u : Nat) (hu : u < 2 ^ wd) : numW wd (dd u) = some u := by
  have h : Lib.parseUintB wd (dd u) = .ok u := by
    rw [Lib.parseUintB, if_neg (dd_ne u)]
    have := parse_decML (2 ^ wd - 1) (by rcases hw with rfl | rfl | rfl <;> decide) u (by omega) []
    rw [List.append_nil] at this
    exact this
  unfold numW
  rw [h]
  simp only
  rw [if_pos trivial]
theorem subst_app (c t f k : Nat) : ∀ a b : List UInt8, subst c t f k (a ++ b) = subst c t f k a ++ subst c t f k b := by
  intro a
  induction a with
  | nil => intro b; rfl
  | cons x l ih => intro b; rw [List.cons_append, subst, subst, ih, List.append_assoc]
theorem mkAt_none : ∀ {p : List UInt8}, mkAt p = none → ∀ b ∈ p, isMk b = false := by
  intro p
  induction p with
  | nil => intro _ b hb; cases hb
  | cons x l ih =>
    intro h b hb
    rw [mkAt] at h
    split at h
    · cases h
    · rename_i hx
      rcases List.mem_cons.1 hb with rfl | hb
      · simpa using hx
      · exact ih (by cases hl : mkAt l with
          | none => rfl
          | some q => rw [hl] at h; cases h) b hb
theorem mkAt_some : ∀ {p : List UInt8} {i : Nat}, mkAt p = some i → ∃ m, isMk m = true ∧ p = p.take i ++ m :: p.drop (i + 1) ∧ ∀ b ∈ p.take i, isMk b = false := by
  intro p
  induction p with
  | nil => intro i h; cases h
  | cons x l ih =>
    intro i h
    rw [mkAt] at h
    split at h
    · rename_i hx
      obtain rfl : 0 = i := by simpa using h
      exact ⟨x, hx, by simp, fun b hb => by simp at hb⟩
    · rename_i hx
      cases hl : mkAt l with
      | none => rw [hl] at h; cases h
      | some q =>
        rw [hl] at h
        obtain rfl : q + 1 = i := by simpa using h
        obtain ⟨m, h1, h2, h3⟩ := ih hl
        refine ⟨m, h1, ?_, ?_⟩
        · rw [List.take_succ_cons, List.drop_succ_cons, List.cons_append, ← h2]
        · intro b hb
          rw [List.take_succ_cons] at hb
          rcases List.mem_cons.1 hb with rfl | hb
          · simpa using hx
          · exact h3 b hb
theorem subst_lit (c t f k : Nat) : ∀ {p : List UInt8}, (∀ b ∈ p, isMk b = false) → subst c t f k p = p := by
  intro p
  induction p with
  | nil => intro _; rfl
  | cons x l ih => intro h; rw [subst, mkv_non (h x (by simp)), ih fun b hb => h b (by simp [hb])]; rfl
/-- A pattern's word has one mark, or none. -/
def oneP (p : List UInt8) : Bool := match mkAt p with
  | none => true
  | some i => (mkAt (p.drop (i + 1))).isNone
theorem mrk_fit (c t f k : Nat) (p : List UInt8) (h : oneP p = true) : (mrk p (subst c t f k p)).2 = true ∧ ∀ i, mkAt p = some i → ∃ m, p[i]? = some m ∧ (mrk p (subst c t f k p)).1 = mkv c t f k m := by
  unfold oneP at h
  unfold mrk
  cases hm : mkAt p with
  | none =>
    rw [subst_lit c t f k (mkAt_none hm)]
    exact ⟨by simp, fun i hi => by cases hi⟩
  | some i =>
    rw [hm] at h
    obtain ⟨m, h1, h2, h3⟩ := mkAt_some hm
    have h4 : ∀ b ∈ p.drop (i + 1), isMk b = false := mkAt_none (Option.isNone_iff_eq_none.1 h)
    have e : subst c t f k p = p.take i ++ (mkv c t f k m ++ p.drop (i + 1)) := by
      conv => lhs; rw [h2]
      rw [subst_app, subst_lit c t f k h3, subst, subst_lit c t f k h4]
    have a1 : Lib.hasPrefix (subst c t f k p) (p.take i) = true := by
      rw [e]; unfold Lib.hasPrefix
      exact List.isPrefixOf_iff_prefix.2 (List.prefix_append _ _)
    have a2 : Lib.trimPrefix (subst c t f k p) (p.take i) = mkv c t f k m ++ p.drop (i + 1) := by
      unfold Lib.trimPrefix
      rw [if_pos a1, e, List.drop_left]
    have a3 : Lib.hasSuffix (mkv c t f k m ++ p.drop (i + 1)) (p.drop (i + 1)) = true := by
      unfold Lib.hasSuffix
      exact List.isSuffixOf_iff_suffix.2 (List.suffix_append _ _)
    have a4 : Lib.trimSuffix (mkv c t f k m ++ p.drop (i + 1)) (p.drop (i + 1)) = mkv c t f k m := by
      unfold Lib.trimSuffix
      rw [if_pos a3, List.length_append, Nat.add_sub_cancel, List.take_left]
    simp only [a2, a1, a3, a4, Bool.and_true, true_and]
    intro i' hi'
    obtain rfl : i = i' := by simpa using hi'
    refine ⟨m, ?_, rfl⟩
    have hlt := mkAt_lt hm
    conv => lhs; rw [h2]
    rw [List.getElem?_append_right (by simp; omega)]
    simp [List.length_take, Nat.min_eq_left (Nat.le_of_lt hlt)]
/-- Two words of patterns that no numbers make alike. -/
def clash (p q : List UInt8) : Bool := ((mkAt p).isNone && (mkAt q).isNone && p != q) || (match p, q with
  | a :: _, b :: _ => !isMk a && !isMk b && a != b
  | _, _ => false)
theorem clash_no (c t f k : Nat) (p q : List UInt8) (h : clash p q = true) : (mrk p (subst c t f k q)).2 = false := by
  unfold clash at h
  rcases Bool.or_eq_true_iff.1 h with h | h
  · simp only [Bool.and_eq_true, Option.isNone_iff_eq_none, bne_iff_ne] at h
    unfold mrk
    rw [h.1.1, subst_lit c t f k (mkAt_none h.1.2)]
    exact beq_eq_false_iff_ne.2 fun e => h.2 e.symm
  · cases p with
    | nil => cases h
    | cons a p =>
      cases q with
      | nil => cases h
      | cons b q =>
        simp only [Bool.and_eq_true, Bool.not_eq_true', bne_iff_ne] at h
        obtain ⟨⟨ha, hb⟩, hne⟩ := h
        have e : subst c t f k (b :: q) = b :: subst c t f k q := by rw [subst, mkv_non hb]; rfl
        rw [e]
        unfold mrk
        rw [mkAt, ha, if_neg (by decide)]
        cases hm : mkAt p with
        | none => exact beq_eq_false_iff_ne.2 fun e2 => hne (List.cons.inj e2).1.symm
        | some i =>
          simp only [Option.map_some, List.take_succ_cons]
          have : Lib.hasPrefix (b :: subst c t f k q) (a :: p.take i) = false := by
            unfold Lib.hasPrefix
            rw [List.isPrefixOf, beq_eq_false_iff_ne.2 hne]
            rfl
          rw [this]
          rfl
theorem one_chk : ∀ j, j < 42 → ∀ i, i < (flds j).length → oneP (fldN j i) = true := by decide +kernel
def clashJ (i j : Nat) : Bool := (flds i).length != (flds j).length || (List.range (flds j).length).any fun q => clash (fldN i q) (fldN j q)
theorem clash_chk : ∀ j, j < 42 → ∀ i, i < j → clashJ i j = true := by decide +kernel
def markJ (j : Nat) (m : UInt8) : Bool := match fldAt (fldN j) m (flds j).length with
  | none => !(patQ j).contains m
  | some i => match mkAt (fldN j i) with
    | none => false
    | some q => (fldN j i)[q]? == some m
theorem mark_chk : ∀ j, j < 42 → markJ j 67 = true ∧ markJ j 84 = true ∧ markJ j 70 = true ∧ markJ j 75 = true := by decide +kernel
theorem wds_chk : ∀ j, j < 42 → wds (patQ j) = flds j := by decide +kernel
theorem fits_of (n : Nat) (P W : Nat → List UInt8) (h : ∀ i, i < n → (mrk (P i) (W i)).2 = true) : fitsN P W n = true := by
  induction n with
  | zero => rfl
  | succ n ih => rw [fitsN, ih fun i hi => h i (by omega), h n (by omega)]; rfl
/-- The form of an instruction's words is the first one that fits. -/
theorem form_first (c t f k : Nat) (j : Nat) (hj : j < 42) (W : Nat → List UInt8) (hW : ∀ i, i < (flds j).length → W i = subst c t f k (fldN j i)) :
    fitQ (flds j).length W j = true ∧ ∀ i, i < j → fitQ (flds j).length W i = false := by
  constructor
  · unfold fitQ
    rw [decide_eq_true rfl, Bool.true_and]
    exact fits_of _ _ _ fun i hi => by rw [hW i hi]; exact (mrk_fit c t f k _ (one_chk j hj i hi)).1
  · intro i hi
    have h := clash_chk j hj i hi
    unfold clashJ at h
    unfold fitQ
    rcases Bool.or_eq_true_iff.1 h with h | h
    · rw [decide_eq_false (by simpa using h)]; rfl
    · by_cases hl : (flds i).length = (flds j).length
      · rw [decide_eq_true hl, Bool.true_and, hl]
        obtain ⟨q, hq, hc⟩ := List.any_eq_true.1 h
        have hq' := List.mem_range.1 hq
        refine fitsN_false (q := q + 1) ?_ _ (by omega)
        rw [fitsN, hW q hq', clash_no c t f k _ _ hc, Bool.and_false]
      · rw [decide_eq_false hl]; rfl
theorem instO_line (c t f k : Nat) (j : Nat) (hj : j < 42) (W : Nat → List UInt8) (hW : ∀ i, i < (flds j).length → W i = subst c t f k (fldN j i)) (m : UInt8) (v : Nat) (hmv : mkv c t f k m = dd v) (hm : markJ j m = true) (wd : Nat) (hw : Wd wd) (hv : v < 2 ^ wd) (other : Nat) (ho : m ∈ patQ j ∨ other = v) :
    instO (fldN j) W (flds j).length m wd other = some v := by
  unfold markJ at hm
  unfold instO
  cases hf : fldAt (fldN j) m (flds j).length with
  | none =>
    rw [hf] at hm
    rcases ho with ho | ho
    · rw [List.contains_iff_mem.2 ho] at hm; cases hm
    · simp only; rw [ho]
  | some i =>
    have hi := fldAt_lt hf
    rw [hf] at hm
    simp only at hm ⊢
    cases hk : mkAt (fldN j i) with
    | none => rw [hk] at hm; cases hm
    | some q =>
      rw [hk] at hm
      obtain ⟨m', h1, h2⟩ := (mrk_fit c t f k _ (one_chk j hj i hi)).2 q hk
      have h3 : (fldN j i)[q]? = some m := by simpa using hm
      rw [h3] at h1
      obtain rfl : m = m' := by simpa using h1
      rw [hW i hi, h2, hmv]
      exact numW_dd wd hw v hv
/-- The words of a line are the pattern's words, filled. -/
theorem inst_line (c t f k : Nat) (hc : c < 65536) (ht : t < 256) (hf : f < 256) (hk : k < 4294967296) (j : Nat) (hj : j < 42) (W : Nat → List UInt8) (hW : ∀ i, i < (flds j).length → W i = subst c t f k (fldN j i))
    (h1 : 67 ∈ patQ j ∨ codeQ j = c) (h2 : 84 ∈ patQ j ∨ t = 0) (h3 : 70 ∈ patQ j ∨ f = 0) (h4 : 75 ∈ patQ j ∨ k = 0) : instE j W = .returned (.agg (instA c t f k)) := by
  obtain ⟨m1, m2, m3, m4⟩ := mark_chk j hj
  unfold instE
  rw [instO_line c t f k j hj W hW 67 c rfl m1 16 (.inr (.inl rfl)) hc _ h1, instO_line c t f k j hj W hW 84 t rfl m2 8 (.inl rfl) ht _ (h2.imp id Eq.symm), instO_line c t f k j hj W hW 70 f rfl m3 8 (.inl rfl) hf _ (h3.imp id Eq.symm), instO_line c t f k j hj W hW 75 k rfl m4 32 (.inr (.inr rfl)) hk _ (h4.imp id Eq.symm)]
  rfl
end Go.Proofs.YtilelhhnbbjaaaaGreatDoor

/-
  The words of a line with blanks and a note; list.Read at it, and where there are no words.
-/
namespace Go.Proofs.YtilelhhnbbjaaaaGreatDoor
open Go.RowKit Go.Shelf
set_option linter.unusedVariables false

theorem subst_nil (c t f k : Nat) {w : List UInt8} (h : subst c t f k w = []) : w = [] := by
  cases w with
  | nil => rfl
  | cons b l =>
    rw [subst, List.append_eq_nil_iff] at h
    exfalso
    by_cases hb : isMk b = true
    · obtain ⟨v, hv⟩ := mkv_dg (c := c) (t := t) (f := f) (k := k) hb
      rw [hv] at h
      exact dd_ne v h.1
    · rw [mkv_non (by simpa using hb)] at h
      cases h.1
theorem psh_map (c t f k : Nat) (out : List (List UInt8)) (w : List UInt8) : psh (out.map (subst c t f k)) (subst c t f k w) = (psh out w).map (subst c t f k) := by
  by_cases h : w = []
  · subst h; rfl
  · rw [psh_ne _ h, psh_ne _ fun e => h (subst_nil c t f k e), List.map_append]
    rfl
theorem dg_blk {b : UInt8} (h : isDg b = true) : blk b = false ∧ okS b = true ∧ b ≠ 59 := by
  have h1 : 48 ≤ b.toNat ∧ b.toNat ≤ 57 := of_decide_eq_true h
  have h2 : blk b = false := by
    rw [blk_iff, decide_eq_false (by omega), decide_eq_false (by omega), decide_eq_false (by omega)]; rfl
  refine ⟨h2, ?_, ?_⟩
  · rw [okS_iff, h2, decide_eq_true (by omega), decide_eq_true (by omega)]; rfl
  · rintro rfl
    revert h1
    decide
theorem mkv_in (c t f k : Nat) (b : UInt8) : (isMk b = true ∧ ∀ x ∈ mkv c t f k b, isDg x = true) ∨ (isMk b = false ∧ mkv c t f k b = [b]) := by
  by_cases hb : isMk b = true
  · obtain ⟨v, hv⟩ := mkv_dg (c := c) (t := t) (f := f) (k := k) hb
    rw [hv]
    exact .inl ⟨hb, dd_isDg v⟩
  · have hb' : isMk b = false := by simpa using hb
    exact .inr ⟨hb', mkv_non hb'⟩
theorem mk_blk {b : UInt8} (h : isMk b = true) : blk b = false := by
  unfold isMk at h
  simp only [Bool.or_eq_true, beq_iff_eq] at h
  rcases h with ((h | h) | h) | h <;> (subst h; decide)
theorem wdF_subst (c t f k : Nat) : ∀ (p w : List UInt8) (out : List (List UInt8)), wdF (subst c t f k p) (subst c t f k w) (out.map (subst c t f k)) = (wdF p w out).map (subst c t f k) := by
  intro p
  induction p with
  | nil => intro w out; exact psh_map c t f k out w
  | cons b l ih =>
    intro w out
    rw [subst]
    by_cases hb : blk b = true
    · have hm : isMk b = false := by
        cases hq : isMk b with
        | false => rfl
        | true => rw [mk_blk hq] at hb; cases hb
      rw [mkv_non hm, List.singleton_append, wdF, wdF, if_pos hb, if_pos hb, psh_map]
      exact ih [] (psh out w)
    · have hb' : blk b = false := by simpa using hb
      have hx : ∀ x ∈ mkv c t f k b, blk x = false := fun x hx => by
        rcases mkv_in c t f k b with ⟨_, h⟩ | ⟨_, h⟩
        · exact (dg_blk (h x hx)).1
        · rw [h, List.mem_singleton] at hx; subst hx; exact hb'
      rw [wdF_app _ _ _ _ hx, wdF, if_neg hb]
      have e : subst c t f k w ++ mkv c t f k b = subst c t f k (w ++ [b]) := by rw [subst_app, subst, subst, List.append_nil]
      rw [e]
      exact ih (w ++ [b]) out
/-- Each blank made three. -/
def wid : List UInt8 → List UInt8
  | [] => []
  | b :: l => (if b = 32 then [13, 32, 32] else [b]) ++ wid l
theorem wid_snoc : ∀ (l : List UInt8) (b : UInt8), wid (l ++ [b]) = wid l ++ (if b = 32 then [13, 32, 32] else [b]) := by
  intro l
  induction l with
  | nil => intro b; simp [wid]
  | cons x l ih => intro b; rw [List.cons_append, wid, wid, ih, List.append_assoc]
theorem wdF_wid : ∀ (l w : List UInt8) (out : List (List UInt8)), wdF (wid l) w out = wdF l w out := by
  intro l
  induction l with
  | nil => intro w out; rfl
  | cons b l ih =>
    intro w out
    rw [wid]
    by_cases hb : b = 32
    · subst hb
      rw [if_pos rfl]
      show wdF (wid l) [] (psh out w) = _
      rw [ih]
      rfl
    · rw [if_neg hb, List.singleton_append, wdF, wdF, ih, ih]
theorem wdF_end : ∀ (x w : List UInt8) (out : List (List UInt8)), wdF (x ++ [9]) w out = wdF x w out := by
  intro x
  induction x with
  | nil => intro w out; show psh (psh out w) [] = psh out w; rfl
  | cons b l ih => intro w out; rw [List.cons_append, wdF, wdF, ih, ih]
theorem cut_at (a r : List UInt8) (c : UInt8) (h : ∀ x ∈ a, x ≠ c) : (Lib.cut (a ++ c :: r) [c]).1 = a := by
  rcases cut_one (a ++ c :: r) c with ⟨h1, _⟩ | ⟨a', r', h1, h2, h3⟩
  · exact absurd rfl (h1 c (by simp))
  · rw [h3]
    show a' = a
    have e : ∀ (x y : List UInt8), (∀ z ∈ x, z ≠ c) → (x ++ c :: y).takeWhile (· != c) = x := fun x y hx => by
      rw [List.takeWhile_append_of_pos (fun z hz => by simpa using hx z hz)]
      simp
    rw [← e a' r' h2, ← h1, e a r h]
/-- The line of an instruction is a pattern filled. -/
theorem line_pat (c t f k : Nat) : ∃ j, j < 42 ∧ lineL c t f k = subst c t f k (patQ j) ∧ (67 ∈ patQ j ∨ codeQ j = c) ∧ (84 ∈ patQ j ∨ t = 0) ∧ (70 ∈ patQ j ∨ f = 0) ∧ (75 ∈ patQ j ∨ k = 0) := by
  rcases line_shape c t f k with ⟨j, h1, h2, h3, h4, h5, h6⟩ | h
  · have e1 : patQ j = patP j := by unfold patQ; rw [if_pos h1]
    have e2 : codeQ j = codeP j := by unfold codeQ; rw [if_pos h1]
    exact ⟨j, by omega, by rw [e1]; exact h6, .inr (by rw [e2]; exact h2), by rw [e1]; exact h3, by rw [e1]; exact h4, by rw [e1]; exact h5⟩
  · exact ⟨41, by omega, h, .inl (by decide), .inl (by decide), .inl (by decide), .inl (by decide)⟩
theorem pat_ok : ∀ j, j < 42 → ∀ b ∈ patQ j, okS b = true ∧ b ≠ 59 := by decide +kernel
theorem line_ok (c t f k : Nat) : ∀ b ∈ lineL c t f k, okS b = true ∧ b ≠ 59 := by
  obtain ⟨j, hj, e, _⟩ := line_pat c t f k
  rw [e]
  have h : ∀ p : List UInt8, (∀ b ∈ p, okS b = true ∧ b ≠ 59) → ∀ b ∈ subst c t f k p, okS b = true ∧ b ≠ 59 := by
    intro p
    induction p with
    | nil => intro _ b hb; cases hb
    | cons x l ih =>
      intro hp b hb
      rw [subst, List.mem_append] at hb
      rcases hb with hb | hb
      · rcases mkv_in c t f k x with ⟨_, h⟩ | ⟨_, h⟩
        · exact (dg_blk (h b hb)).2
        · rw [h, List.mem_singleton] at hb; subst hb; exact hp b (by simp)
      · exact ih (fun y hy => hp y (by simp [hy])) b hb
  exact h _ (pat_ok j hj)
theorem wid_ok : ∀ l : List UInt8, (∀ b ∈ l, okS b = true ∧ b ≠ 59) → ∀ b ∈ wid l, okS b = true ∧ b ≠ 59 := by
  intro l
  induction l with
  | nil => intro _ b hb; cases hb
  | cons x l ih =>
    intro h b hb
    rw [wid, List.mem_append] at hb
    rcases hb with hb | hb
    · split at hb
      · simp only [List.mem_cons, List.not_mem_nil, or_false] at hb
        rcases hb with rfl | rfl | rfl <;> decide
      · rw [List.mem_singleton] at hb; subst hb; exact h b (by simp)
    · exact ih (fun y hy => h y (by simp [hy])) b hb
/-- A line's text with blanks and a note. -/
def widT (l note : List UInt8) : List UInt8 := (32 :: 9 :: wid l) ++ [9] ++ 59 :: note
theorem widT_cut (c t f k : Nat) (note : List UInt8) : (Lib.cut (widT (lineL c t f k) note) [59]).1 = (32 :: 9 :: wid (lineL c t f k)) ++ [9] ∧ ((32 :: 9 :: wid (lineL c t f k)) ++ [9]).all okS = true := by
  have h : ∀ b ∈ (32 :: 9 :: wid (lineL c t f k)) ++ [9], okS b = true ∧ b ≠ 59 := by
    intro b hb
    simp only [List.mem_append, List.mem_cons, List.not_mem_nil, or_false] at hb
    rcases hb with (rfl | rfl | hb) | rfl
    · decide
    · decide
    · exact wid_ok _ (line_ok c t f k) b hb
    · decide
  exact ⟨cut_at _ _ _ fun x hx => (h x hx).2, List.all_eq_true.2 fun x hx => (h x hx).1⟩
theorem widT_words (c t f k : Nat) (note : List UInt8) (j : Nat) (hj : j < 42) (e : lineL c t f k = subst c t f k (patQ j)) : wsOf (widT (lineL c t f k) note) = (flds j).map (subst c t f k) := by
  unfold wsOf
  rw [(widT_cut c t f k note).1]
  unfold wds
  rw [wdF_end]
  show wdF (wid (lineL c t f k)) [] [] = _
  rw [wdF_wid, e, ← wds_chk j hj]
  exact wdF_subst c t f k (patQ j) [] []
theorem flds_pos : ∀ j, j < 42 → 0 < (flds j).length := by decide +kernel
theorem subst_len (c t f k : Nat) (hc : c < 65536) (ht : t < 256) (hf : f < 256) (hk : k < 4294967296) : ∀ p : List UInt8, (subst c t f k p).length ≤ p.length * 11 := by
  intro p
  induction p with
  | nil => simp [subst]
  | cons b l ih =>
    have h : (mkv c t f k b).length ≤ 11 := by
      have hd : ∀ u, u < 4294967296 → (dd u).length ≤ 11 := fun u hu => by have := dd_len 9 u (by omega); omega
      unfold mkv
      split
      · exact hd c (by omega)
      · split
        · exact hd t (by omega)
        · split
          · exact hd f (by omega)
          · split
            · exact hd k hk
            · simp
    rw [subst, List.length_append, List.length_cons, Nat.add_mul]
    omega
theorem line_len (c t f k : Nat) (hc : c < 65536) (ht : t < 256) (hf : f < 256) (hk : k < 4294967296) : (lineL c t f k).length ≤ 220 := by
  obtain ⟨j, hj, e, _⟩ := line_pat c t f k
  have h := subst_len c t f k hc ht hf hk (patQ j)
  have h2 := (flds_chk j hj).2.2.1
  rw [e]
  omega
theorem wid_len : ∀ l : List UInt8, (wid l).length ≤ l.length * 3 := by
  intro l
  induction l with
  | nil => simp [wid]
  | cons b l ih =>
    rw [wid, List.length_append, List.length_cons]
    split <;> simp <;> omega
/-- Blanks around words, and a note behind a line, change nothing. -/
theorem readL_wide (c t f k : Nat) (hc : c < 65536) (ht : t < 256) (hf : f < 256) (hk : k < 4294967296) (note : List UInt8) (hn : note.length ≤ 1000) (w : World) (he : EnvN w) :
    Calls Tryz.prog 15 #[.string ⟨(widT (lineL c t f k) note).toArray⟩] w fun e w' => e = .returned (.tuple #[.agg (instA c t f k), .int .i64 0]) ∧ Below w.heap.size w w' := by
  obtain ⟨j, hj, e, h1, h2, h3, h4⟩ := line_pat c t f k
  have hws := widT_words c t f k note j hj e
  obtain ⟨hcut, hok⟩ := widT_cut c t f k note
  have hll := line_len c t f k hc ht hf hk
  have hwl := wid_len (lineL c t f k)
  have hlen : (wsOf (widT (lineL c t f k) note)).length = (flds j).length := by rw [hws, List.length_map]
  have hW : ∀ i, i < (flds j).length → wsN (widT (lineL c t f k) note) i = subst c t f k (fldN j i) := fun i hi => by
    unfold wsN fldN
    rw [hws, List.getD_eq_getElem?_getD, List.getElem?_map, List.getD_eq_getElem?_getD, List.getElem?_eq_getElem hi]
    rfl
  obtain ⟨q1, q2, q3, q4⟩ := flds_chk j hj
  obtain ⟨f1, f2⟩ := form_first c t f k j hj _ hW
  refine readL_any ⟨(widT (lineL c t f k) note).toArray⟩ ?_ ?_ ?_ ?_ ?_ c t f k 0 ?_ w he
  · show (widT (lineL c t f k) note).toArray.size ≤ _
    simp [widT]; omega
  · show (Lib.cut (widT (lineL c t f k) note) [59]).1.length ≤ _
    rw [hcut]; simp; omega
  · show 0 < (wsOf (widT (lineL c t f k) note)).length
    rw [hlen]; exact flds_pos j hj
  · show (wsOf (widT (lineL c t f k) note)).length ≤ _
    rw [hlen]; omega
  · show ∀ i, i < (wsOf (widT (lineL c t f k) note)).length → (wsN (widT (lineL c t f k) note) i).length ≤ _
    rw [hlen]
    intro i hi
    rw [hW i hi]
    have h5 := subst_len c t f k hc ht hf hk (fldN j i)
    have h6 := (q2 i (by omega)).1
    omega
  · refine .inl ⟨rfl, j, hj, ?_, ?_, ?_⟩
    · show fitQ (wsOf (widT (lineL c t f k) note)).length _ j = true
      rw [hlen]; exact f1
    · show ∀ i, i < j → fitQ (wsOf (widT (lineL c t f k) note)).length _ i = false
      rw [hlen]; exact f2
    · exact inst_line c t f k hc ht hf hk j hj _ hW h1 h2 h3 h4
set_option maxRecDepth 100000 in
set_option maxHeartbeats 4000000 in
theorem readL_empty (s : ByteArray) (hs : s.size ≤ 100000) (hL : (Lib.cut s.data.toList [59]).1.length ≤ 100000) (hn0 : (wsOf s.data.toList).length = 0) (w : World) :
    Calls Tryz.prog 15 #[.string s] w fun e w' => e = .returned (.tuple #[.agg zI, .int .i64 4]) ∧ Below w.heap.size w w' := by
  obtain ⟨W0, hW0⟩ : ∃ W, w.alloc (.cells zI 47) = W := ⟨_, rfl⟩
  have hb0 : Below w.heap.size w W0 := by rw [← hW0]; exact (Below.refl _ _).alloc (Nat.le_refl _) _
  have r0 : RowC W0 w.heap.size zI 47 := by rw [← hW0]; exact RowC.new _ _ _ _ rfl
  have hsp := split_words s (by omega) (by omega) W0
  rw [hn0] at hsp
  have HS := Lib.hid hsp
  have HB := Lib.hid hb0
  have HR := Lib.hid r0
  have HW := Lib.hid hW0
  clear hsp hb0 r0 hW0 hL
  go_enter Tryz.func15, Tryz.ntmps15
  go_upto_region 1 with fail
  rw [HW.out]
  go_wp2_with fail
  refine HS.out.mono ?_
  rintro e w1 ⟨A, rfl, _, hB1⟩
  have r1 := HR.out.below hB1 HR.out.lt
  have HR1 := Lib.hid r1
  have HB1 := Lib.hid (HB.out.trans (hB1.mono HB.out.size))
  have z0 := r1.cell 0 (.int .u16 0) rfl
  have z1 := r1.cell 1 (.int .u8 0) rfl
  have z2 := r1.cell 2 (.int .u8 0) rfl
  have z3 := r1.cell 3 (.int .u32 0) rfl
  have g0 := r1.frozen 0
  have g1 := r1.frozen 1
  have g2 := r1.frozen 2
  have g3 := r1.frozen 3
  clear hB1 r1 HS HB HR HW
  go_wp2
  exact bodyPost_ret (results_cell_row2L Tryz.results15 _ _ w.heap.size _ _ (0, 0) _ (.int .i64 4) (by rfl) (by rfl) (show RowC _ w.heap.size zI 47 from (((HR1.out.set 0 (.int .u16 0)).set 1 (.int .u8 0)).set 2 (.int .u8 0)).set 3 (.int .u32 0)) Tryz.underlying47 (by rfl) (show _ = some 4 by kernel_rfl)) rfl
    ⟨rfl, (((HB1.out.setCell (Nat.le_refl _) _).setCell (Nat.le_refl _) _).setCell (Nat.le_refl _) _).setCell (Nat.le_refl _) _⟩
theorem readL_note (note : List UInt8) (hn : note.length ≤ 1000) (w : World) :
    Calls Tryz.prog 15 #[.string ⟨(32 :: 59 :: note).toArray⟩] w fun e w' => e = .returned (.tuple #[.agg zI, .int .i64 4]) ∧ Below w.heap.size w w' := by
  have hcut : (Lib.cut (32 :: 59 :: note) [59]).1 = [32] := cut_at [32] note 59 (by decide)
  refine readL_empty ⟨(32 :: 59 :: note).toArray⟩ ?_ ?_ ?_ w
  · show (32 :: 59 :: note).toArray.size ≤ _
    simp; omega
  · show (Lib.cut (32 :: 59 :: note) [59]).1.length ≤ _
    rw [hcut]; decide
  · show (wsOf (32 :: 59 :: note)).length = 0
    unfold wsOf
    rw [hcut]; decide
end Go.Proofs.YtilelhhnbbjaaaaGreatDoor

/-
  list.Read at an instruction's own line.
-/
namespace Go.Proofs.YtilelhhnbbjaaaaGreatDoor
open Go.RowKit Go.Shelf
set_option linter.unusedVariables false

theorem line_cut (c t f k : Nat) : (Lib.cut (lineL c t f k) [59]).1 = lineL c t f k := by rw [cut_noC _ 59 fun x hx => (line_ok c t f k x hx).2]
theorem line_words (c t f k : Nat) (j : Nat) (hj : j < 42) (e : lineL c t f k = subst c t f k (patQ j)) : wsOf (lineL c t f k) = (flds j).map (subst c t f k) := by
  unfold wsOf
  rw [line_cut, e]
  unfold wds
  rw [← wds_chk j hj]
  exact wdF_subst c t f k (patQ j) [] []
/-- What is told is read as it was. -/
theorem readL_line (c t f k : Nat) (hc : c < 65536) (ht : t < 256) (hf : f < 256) (hk : k < 4294967296) (w : World) (he : EnvN w) :
    Calls Tryz.prog 15 #[.string ⟨(lineL c t f k).toArray⟩] w fun e w' => e = .returned (.tuple #[.agg (instA c t f k), .int .i64 0]) ∧ Below w.heap.size w w' := by
  obtain ⟨j, hj, e, h1, h2, h3, h4⟩ := line_pat c t f k
  have hws := line_words c t f k j hj e
  have hcut := line_cut c t f k
  have hll := line_len c t f k hc ht hf hk
  have hlen : (wsOf (lineL c t f k)).length = (flds j).length := by rw [hws, List.length_map]
  have hW : ∀ i, i < (flds j).length → wsN (lineL c t f k) i = subst c t f k (fldN j i) := fun i hi => by
    unfold wsN fldN
    rw [hws, List.getD_eq_getElem?_getD, List.getElem?_map, List.getD_eq_getElem?_getD, List.getElem?_eq_getElem hi]
    rfl
  obtain ⟨q1, q2, q3, q4⟩ := flds_chk j hj
  obtain ⟨f1, f2⟩ := form_first c t f k j hj _ hW
  refine readL_any ⟨(lineL c t f k).toArray⟩ ?_ ?_ ?_ ?_ ?_ c t f k 0 ?_ w he
  · show (lineL c t f k).toArray.size ≤ _
    simp; omega
  · show (Lib.cut (lineL c t f k) [59]).1.length ≤ _
    rw [hcut]; omega
  · show 0 < (wsOf (lineL c t f k)).length
    rw [hlen]; exact flds_pos j hj
  · show (wsOf (lineL c t f k)).length ≤ _
    rw [hlen]; omega
  · show ∀ i, i < (wsOf (lineL c t f k)).length → (wsN (lineL c t f k) i).length ≤ _
    rw [hlen]
    intro i hi
    rw [hW i hi]
    have h5 := subst_len c t f k hc ht hf hk (fldN j i)
    have h6 := (q2 i (by omega)).1
    omega
  · refine .inl ⟨rfl, j, hj, ?_, ?_, ?_⟩
    · show fitQ (wsOf (lineL c t f k)).length _ j = true
      rw [hlen]; exact f1
    · show ∀ i, i < j → fitQ (wsOf (lineL c t f k)).length _ i = false
      rw [hlen]; exact f2
    · exact inst_line c t f k hc ht hf hk j hj _ hW h1 h2 h3 h4
end Go.Proofs.YtilelhhnbbjaaaaGreatDoor

/-
  Instructions in memory: in this seat layer 2 has them.
-/
namespace Go.Proofs.YtilelhhnbbjaaaaGreatDoor
end Go.Proofs.YtilelhhnbbjaaaaGreatDoor

/-
  Lines behind one another, and strings.Split at them; a row of instructions grown by what is read.
-/
namespace Go.Proofs.YtilelhhnbbjaaaaGreatDoor
open Go.RowKit

/-- Lines, each with its end. -/
def joinL (L : List (List UInt8)) : List UInt8 := (L.map (· ++ [10])).flatten
theorem joinL_snoc (L : List (List UInt8)) (x : List UInt8) : joinL (L ++ [x]) = joinL L ++ (x ++ [10]) := by
  unfold joinL
  rw [List.map_append, List.flatten_append]
  simp
theorem joinL_app (L M : List (List UInt8)) : joinL (L ++ M) = joinL L ++ joinL M := by
  unfold joinL
  rw [List.map_append, List.flatten_append]
theorem joinL_cons (x : List UInt8) (L : List (List UInt8)) : joinL (x :: L) = x ++ 10 :: joinL L := by
  unfold joinL
  simp
theorem indexByte_at : ∀ (x r : List UInt8), (∀ c ∈ x, c ≠ 10) → Lib.indexByte (x ++ 10 :: r) 10 = (x.length : Int) := by
  intro x
  induction x with
  | nil => intro r _; simp [Lib.indexByte]
  | cons b l ih =>
    intro r h
    have h1 := ih r fun c hc => h c (List.mem_cons_of_mem _ hc)
    have h2 : (b == 10) = false := beq_eq_false_iff_ne.2 (h b List.mem_cons_self)
    rw [List.cons_append, Lib.indexByte, h2, h1]
    have h3 : ((l.length : Int) == -1) = false := beq_eq_false_iff_ne.2 (by omega)
    rw [h3]
    simp
theorem splitK_lines : ∀ (L : List (List UInt8)), (∀ x ∈ L, ∀ c ∈ x, c ≠ 10) → Lib.splitK [10] 0 L.length (joinL L) = L ++ [[]] := by
  intro L
  induction L with
  | nil => intro _; rfl
  | cons x L ih =>
    intro h
    have h1 := indexByte_at x (joinL L) fun c hc => h x List.mem_cons_self c hc
    have h2 := ih fun y hy => h y (List.mem_cons_of_mem _ hy)
    rw [joinL_cons, List.length_cons, Lib.splitK, Lib.index_one, h1]
    have h3 : ((x.length : Int) == -1) = false := beq_eq_false_iff_ne.2 (by omega)
    rw [h3]
    simp only [Bool.false_eq_true, if_false, Int.toNat_natCast, Nat.add_zero, List.length_cons, List.length_nil, List.cons_append]
    rw [List.take_left' rfl, show x ++ 10 :: joinL L = (x ++ [10]) ++ joinL L by simp, List.drop_left' (by simp), h2]
theorem count_lines : ∀ (L : List (List UInt8)), (∀ x ∈ L, ∀ c ∈ x, c ≠ 10) → (joinL L).count 10 = L.length := by
  intro L
  induction L with
  | nil => intro _; rfl
  | cons x L ih =>
    intro h
    have h1 : x.count 10 = 0 := List.count_eq_zero.2 fun hc => h x List.mem_cons_self 10 hc rfl
    rw [joinL_cons, List.count_append, List.count_cons_self, h1, ih fun y hy => h y (List.mem_cons_of_mem _ hy), List.length_cons]
    omega
theorem joinL_len (L : List (List UInt8)) (m : Nat) (h : ∀ x ∈ L, x.length ≤ m) : (joinL L).length ≤ L.length * (m + 1) := by
  induction L with
  | nil => simp [joinL]
  | cons x L ih =>
    have h1 := ih fun y hy => h y (List.mem_cons_of_mem _ hy)
    have h2 := h x List.mem_cons_self
    rw [joinL_cons, List.length_append, List.length_cons, List.length_cons, Nat.add_mul]
    omega
/-- strings.Split's pieces of lines. -/
theorem splitB_lines (L : List (List UInt8)) (h : ∀ x ∈ L, ∀ c ∈ x, c ≠ 10) :
    Lib.countB ⟨(joinL L).toArray⟩ ⟨#[10]⟩ = L.length ∧ Lib.splitB ⟨#[10]⟩ 0 L.length ⟨(joinL L).toArray⟩ = (L ++ [[]]).map fun x : List UInt8 => (⟨x.toArray⟩ : ByteArray) := by
  constructor
  · show Lib.count (joinL L).toArray.toList [10] = _
    rw [Lib.count_one, List.toList_toArray, count_lines L h]
  · have h1 := Lib.splitB_data ⟨#[10]⟩ 0 L.length ⟨(joinL L).toArray⟩
    have h2 : (⟨(joinL L).toArray⟩ : ByteArray).data.toList = joinL L := by simp
    rw [h2, show (⟨#[10]⟩ : ByteArray).data.toList = [10] from rfl, splitK_lines L h] at h1
    have h3 : ∀ l : List ByteArray, (l.map fun s => s.data.toList).map (fun x : List UInt8 => (⟨x.toArray⟩ : ByteArray)) = l := fun l => by
      rw [List.map_map]
      refine (List.map_congr_left fun s _ => ?_).trans (List.map_id l)
      exact ByteArray.ext (by simp)
    rw [← h3 (Lib.splitB _ _ _ _), h1]
/-- What is read so far. -/
def accL (rs : Nat → IV) (xs : Nat → Int) : Nat → List IV
  | 0 => []
  | q + 1 => if xs q = 0 then accL rs xs q ++ [rs q] else accL rs xs q
def gOf (l : List IV) (i : Nat) : IV := l.getD i ⟨0, 0, 0, 0⟩
theorem accL_len (rs : Nat → IV) (xs : Nat → Int) : ∀ q, (accL rs xs q).length ≤ q := by
  intro q
  induction q with
  | zero => simp [accL]
  | succ q ih =>
    unfold accL
    split
    · simp; omega
    · omega
theorem accL_all (rs : Nat → IV) (xs : Nat → Int) : ∀ q, (∀ i, i < q → xs i = 0) → accL rs xs q = (List.range q).map rs := by
  intro q
  induction q with
  | zero => intro _; rfl
  | succ q ih =>
    intro h
    rw [accL, if_pos (h q (by omega)), ih fun i hi => h i (by omega), List.range_succ, List.map_append]
    rfl
theorem gOf_map (rs : Nat → IV) (q i : Nat) (hi : i < q) : gOf ((List.range q).map rs) i = rs i := by
  unfold gOf
  rw [List.getD_eq_getElem?_getD, List.getElem?_map, List.getElem?_range hi]
  rfl
theorem icell_gcat (l : List IV) (v : IV) : ∀ i, i < (l.length + 1) * 4 → catC (l.length * 4) (icell (gOf l)) (icell fun _ => v) i = icell (gOf (l ++ [v])) i := fun i hi => by
  unfold catC; split
  · have e2 : i / 4 < l.length := by omega
    have e : gOf (l ++ [v]) (i / 4) = gOf l (i / 4) := by
      unfold gOf
      rw [List.getD_eq_getElem?_getD, List.getD_eq_getElem?_getD, List.getElem?_append_left e2]
    unfold icell
    rw [e]
  · have e1 : (i - l.length * 4) % 4 = i % 4 := by omega
    have e2 : i / 4 = l.length := by omega
    have e : gOf (l ++ [v]) (i / 4) = v := by
      unfold gOf
      rw [e2, List.getD_eq_getElem?_getD, List.getElem?_append_right (Nat.le_refl _), Nat.sub_self]
      rfl
    unfold icell
    rw [e, e1]
theorem icell_gcongr (l : List IV) (g : Nat → IV) (n : Nat) (h : ∀ i, i < n → gOf l i = g i) : ∀ i, i < n * 4 → icell (gOf l) i = icell g i := fun i hi => by
  unfold icell
  rw [h (i / 4) (by omega)]
theorem one_instK (w : World) (k : Nat) (hk : k = w.heap.size) (v : IV) (E : TypeId) : Cel (w.alloc (.cells #[.int .u16 v.c, .int .u8 v.t, .int .u8 v.f, .int .u32 v.k] E)) (w.heap.size + 1) 4 (some ⟨k, 0, none⟩) 1 1 (icell fun _ => v) := by
  subst hk
  exact one_inst w v E
end Go.Proofs.YtilelhhnbbjaaaaGreatDoor

/-
  list.Text and list.Program: a program's text; the instructions of lines.
-/
namespace Go.Proofs.YtilelhhnbbjaaaaGreatDoor
open Go.RowKit Go.Shelf
set_option linter.unusedVariables false

def Tryz.layw_ren : Go.Shelf.Ren := ⟨fun | 167 => 18 | 240 => 32 | 276 => 55 | n => n, fun | 80 => 63 | 0 => 0 | 4 => 4 | 5 => 5 | 9 => 9 | 20 => 20 | 37 => 29 | 70 => 54 | 72 => 56 | 75 => 58 | 164 => 119 | n => n, fun | n => n⟩
theorem Tryz.layw : Go.Proofs.Lays.n167 Tryz.prog Tryz.layw_ren := {
  mixed := by kernel_rfl
  f167 := Tryz.func18.trans (congrArg some (by kernel_rfl))
  f240 := Tryz.func32.trans (congrArg some (by kernel_rfl))
  f276 := Tryz.func55.trans (congrArg some (by kernel_rfl))
  t0 := Tryz.underlying0
  a0 := Tryz.isAgg0
  z0 := Tryz.sizeOf0
  v0 := Tryz.zeroValue0
  t4 := Tryz.underlying4
  a4 := Tryz.isAgg4
  z4 := Tryz.sizeOf4
  v4 := Tryz.zeroValue4
  t5 := Tryz.underlying5
  a5 := Tryz.isAgg5
  z5 := Tryz.sizeOf5
  v5 := Tryz.zeroValue5
  t9 := Tryz.underlying9
  a9 := Tryz.isAgg9
  z9 := Tryz.sizeOf9
  v9 := Tryz.zeroValue9
  t20 := Tryz.underlying20
  a20 := Tryz.isAgg20
  z20 := Tryz.sizeOf20
  v20 := Tryz.zeroValue20
  t37 := Tryz.underlying29
  a37 := Tryz.isAgg29
  z37 := Tryz.sizeOf29
  v37 := Tryz.zeroValue29
  t70 := Tryz.underlying54
  a70 := Tryz.isAgg54
  z70 := Tryz.sizeOf54
  v70 := Tryz.zeroValue54
  t72 := Tryz.underlying56
  a72 := Tryz.isAgg56
  z72 := Tryz.sizeOf56
  v72 := Tryz.zeroValue56
  t75 := Tryz.underlying58
  a75 := Tryz.isAgg58
  z75 := Tryz.sizeOf58
  v75 := Tryz.zeroValue58
  t164 := Tryz.underlying119
  a164 := Tryz.isAgg119
  z164 := Tryz.sizeOf119
  v164 := Tryz.zeroValue119 }
theorem Tryz.Builder_Extra_w : Builder.Extra Tryz.prog Tryz.layw_ren := {
  sizeBuilder := by kernel_rfl
  liesBuilder := by kernel_rfl
  t5 := Tryz.underlying5
  a5 := Tryz.isAgg5
  z5 := Tryz.sizeOf5
  v5 := Tryz.zeroValue5
  infoByte := by kernel_rfl
  cellsByte := by kernel_rfl
  sizeByte := by kernel_rfl
  neB5 := by decide }
theorem wsK (B b : Nat) (bs : List Value) (s : ByteArray) (w : World) (h : Lib.IsBuilderF 56 5 B b bs w) (hlen : bs.length + s.size ≤ 140737488355328) (hBw : B ≤ w.heap.size) :
    Calls Tryz.prog 16 #[.pointer (some ⟨b, 0, none⟩), .string s] w fun e w' => e = .returned (.tuple #[.int .i64 s.size, .nilIface]) ∧ (Lib.BuilderAtF 56 5 B b (.pointer (some ⟨b, 0, none⟩)) (bs ++ Lib.strCells s) w' ∧ Below B w w' ∧ Lib.OthersKept 5 (some b) w w') :=
  Any.Builder_WriteString_k { Tryz.lays155 with } Tryz.Builder_Extra_155 B b bs s w h hlen hBw
theorem bfBelow {T e : TypeId} {B b : Nat} {bs : List Value} {W W' : World} (h : Lib.IsBuilderF T e B b bs W) (hb : Below W.heap.size W W') : Lib.IsBuilderF T e B b bs W' := by
  have one : ∀ p, Lib.BuilderAtF T e B b p bs W → Lib.BuilderAtF T e B b p bs W' := fun p h => by
    have hlt := h.lt
    obtain ⟨h1, v, h2, h3, h4⟩ := h
    exact ⟨h1, v, (hb.block b hlt).trans h2, h3.kept (row := none) ⟨hb.os, hb.tape, hb.output, hb.size, fun k hk _ => hb.block k hk⟩ (Classical.em _), h4⟩
  exact h.elim (fun x => .inl (one _ x)) (fun x => .inr (one _ x))
/-- The lines of instructions. -/
def linesG (g : Nat → IV) (n : Nat) : List (List UInt8) := (List.range n).map fun i => lineL (g i).c (g i).t (g i).f (g i).k
theorem linesG_succ (g : Nat → IV) (n : Nat) : joinL (linesG g (n + 1)) = joinL (linesG g n) ++ (lineL (g n).c (g n).t (g n).f (g n).k ++ [10]) := by
  unfold linesG
  rw [List.range_succ, List.map_append]
  exact joinL_snoc _ _
theorem linesG_ok (g : Nat → IV) (n m : Nat) (h : ∀ i, i < n → (g i).ok) (hm : m ≤ n) : (joinL (linesG g m)).length ≤ m * 221 := by
  have h1 := joinL_len (linesG g m) 220 fun x hx => by
    unfold linesG at hx
    obtain ⟨i, hi, rfl⟩ := List.mem_map.1 hx
    obtain ⟨h1, h2, h3, h4⟩ := h i (by have := List.mem_range.1 hi; omega)
    exact line_len _ _ _ _ h1 h2 h3 h4
  rw [show (linesG g m).length = m by unfold linesG; simp] at h1
  omega
set_option maxRecDepth 100000 in
set_option maxHeartbeats 8000000 in
theorem textL_any (A : Option Addr) (n c : Nat) (g : Nat → IV) (hn : n ≤ 1000000) (w : World) (hr : Ins w w.heap.size A n c g) (he : EnvL w) :
    Calls Tryz.prog 8 #[.slice A n c] w fun e w' => e = .returned (.string ⟨(joinL (linesG g n)).toArray⟩) ∧ Below w.heap.size w w' := by
  have HC := Lib.hid hr
  have HE := Lib.hid he
  clear hr he
  go_enter Tryz.func8, Tryz.ntmps8
  go_wp2
  go_loopw [8] (fun i wr => ∃ k : Nat, k ≤ n ∧ i = .int .i64 k ∧ Lib.IsBuilderF 56 5 w.heap.size w.heap.size (Lib.byteCells (joinL (linesG g k))) wr ∧ Below w.heap.size w wr) (fun i _ => n - (intOf i).toNat)
  case atStart => exact ⟨0, Nat.zero_le _, rfl, Lib.IsBuilderF.of (Lib.fresh_isBuilder 56 5 w), (Below.refl _ w).alloc (Nat.le_refl _) _⟩
  case round =>
    obtain ⟨k, hk, rfl, hI, hbw⟩ := hrel
    by_cases hlt : k < n
    · obtain ⟨b1, o1, rfl, hb1, hcc⟩ := (HC.out.below hbw).at_ (by omega)
      obtain ⟨q0, q1, q2, q3⟩ := hcc k hlt
      obtain ⟨k1, k2, k3, k4⟩ := HC.out.2 k hlt
      have hle := linesG_ok g n k HC.out.2 hk
      have HLN := Lib.hid fun X (hX : EnvL X) => lineP_any _ _ _ _ k1 k2 k3 k4 X hX
      have hll := line_len _ _ _ _ k1 k2 k3 k4
      have HST := Lib.hid (linesG_succ g k)
      have hb2 : Below w.heap.size w (wr.alloc (.cells #[.int .u16 (g k).c, .int .u8 (g k).t, .int .u8 (g k).f, .int .u32 (g k).k] 47)) := hbw.alloc hbw.size _
      have HE2 := Lib.hid (env_on HE.out hb2 (Nat.le_refl _))
      have HI := Lib.hid hI
      have HBW := Lib.hid hbw
      generalize joinL (linesG g k) = J at *
      generalize lineL (g k).c (g k).t (g k).f (g k).k = LN at *
      generalize g k = v at *
      have i1 : (0 : Int) ≤ (k : Int) := by omega
      have i2 : (k : Int) < (n : Int) := by omega
      clear hcc hI hbw hb2
      have hsz := HBW.out.size
      go_wp2_with (go_at_call 17; refine (HLN.out _ HE2.out).mono ?_; rintro e w4 ⟨rfl, hB4⟩)
      have I4 := bfBelow (HI.out.alloc (.cells #[.int .u16 v.c, .int .u8 v.t, .int .u8 v.f, .int .u32 v.k] 47)) hB4
      have b4 : Below w.heap.size w w4 := (HBW.out.alloc hsz _).trans (hB4.mono (by simp; omega))
      refine (wsK w.heap.size w.heap.size _ ⟨LN.toArray⟩ w4 I4 (by rw [Lib.byteCells_length]; show J.length + LN.toArray.size ≤ _; rw [List.size_toArray]; omega) b4.size).mono ?_
      rintro e w5 ⟨rfl, hA5, hB5, _⟩
      have I5 : Lib.IsBuilderF 56 5 w.heap.size w.heap.size (Lib.byteCells (J ++ LN)) w5 := by
        rw [Lib.byteCells_append]
        exact Or.inr hA5
      have b5 := b4.trans hB5
      clear hA5 I4
      go_wp2_with fail
      refine (Any.Builder_WriteByte_k Tryz.layw Tryz.Builder_Extra_w w.heap.size w.heap.size _ 10 w5 I5 (by rw [Lib.byteCells_length, List.length_append]; omega) b5.size).mono ?_
      rintro e w6 ⟨rfl, hA6, hB6, _⟩
      have I6 : Lib.IsBuilderF 56 5 w.heap.size w.heap.size (Lib.byteCells (J ++ (LN ++ [10]))) w6 := by
        rw [← List.append_assoc, Lib.byteCells_append]
        exact Or.inr hA6
      rw [← HST.out] at I6
      have b6 := b5.trans hB6
      have HI6 := Lib.hid (And.intro I6 b6)
      clear I6 b6 hA6
      go_wp2
      exact ⟨⟨k + 1, hlt, by go_num, HI6.out.1, HI6.out.2⟩, by simp [intOf]; omega⟩
    · obtain rfl : k = n := by omega
      have i2 : ¬ (k : Int) < (k : Int) := by omega
      have HI := Lib.hid hI
      have HBW := Lib.hid hbw
      clear hI hbw
      go_wp2_with (go_at_call 19; refine (Tryz.Builder_String_any_k w.heap.size w.heap.size _ _ HI.out HBW.out.size).mono ?_; rintro e w3 ⟨rfl, _, hB3, _⟩)
      go_ret
      exact ⟨rfl, HBW.out.trans hB3⟩
end Go.Proofs.YtilelhhnbbjaaaaGreatDoor

/-
  list.Program at lines: the instructions that are read, or the first line that is wrong.
-/
namespace Go.Proofs.YtilelhhnbbjaaaaGreatDoor
open Go.RowKit Go.Shelf
set_option linter.unusedVariables false

/-- The pieces of lines. -/
def pcs (L : List (List UInt8)) : List (List UInt8) := L ++ [[]]
def pcN (L : List (List UInt8)) (i : Nat) : List UInt8 := (pcs L).getD i []
theorem pcs_len (L : List (List UInt8)) : (pcs L).length = L.length + 1 := by simp [pcs]
theorem pcN_at (L : List (List UInt8)) (i : Nat) (h : i < L.length) : pcN L i = L.getD i [] := by
  unfold pcN pcs
  rw [List.getD_eq_getElem?_getD, List.getD_eq_getElem?_getD, List.getElem?_append_left h]
theorem pcN_last (L : List (List UInt8)) : pcN L L.length = [] := by
  unfold pcN pcs
  rw [List.getD_eq_getElem?_getD, List.getElem?_append_right (Nat.le_refl _), Nat.sub_self]
  rfl
def pcA (L : List (List UInt8)) : Array Value := (((pcs L).map fun x => (⟨x.toArray⟩ : ByteArray)).map Value.string).toArray
theorem pcA_at (L : List (List UInt8)) (i : Nat) (h : i < L.length + 1) : (pcA L)[i]? = some (.string ⟨(pcN L i).toArray⟩) := by
  unfold pcA pcN
  have h2 : i < (pcs L).length := by rw [pcs_len]; exact h
  rw [List.getElem?_toArray, List.getElem?_map, List.getElem?_map, List.getD_eq_getElem?_getD, List.getElem?_eq_getElem h2]
  rfl
set_option maxRecDepth 100000 in
set_option maxHeartbeats 16000000 in
theorem progL_any (L : List (List UInt8)) (hL : ∀ x ∈ L, ∀ c ∈ x, c ≠ 10) (hsz : (joinL L).length ≤ 65536) (rs : Nat → IV) (xs : Nat → Int) (m : Nat) (hm : m ≤ L.length + 1)
    (hok : ∀ i, i < m → xs i = 0 ∨ xs i = 4) (hbad : m ≤ L.length → (xs m == 0) = false ∧ (xs m == 4) = false) (w : World) (he : EnvL w)
    (HRD0 : ∀ i, i < L.length + 1 → ∀ X, Below w.heap.size w X → Calls Tryz.prog 15 #[.string ⟨(pcN L i).toArray⟩] X fun e w' => e = .returned (.tuple #[.agg (instA (rs i).c (rs i).t (rs i).f (rs i).k), .int .i64 (xs i)]) ∧ Below X.heap.size X w') :
    Calls Tryz.prog 7 #[.string ⟨(joinL L).toArray⟩] w fun e w' => ((m = L.length + 1 ∧ ∃ A c, e = .returned (.tuple #[.slice A (accL rs xs m).length c, .int .i64 0, .int .i64 0]) ∧ Cel w' w'.heap.size 4 A (accL rs xs m).length c (icell (gOf (accL rs xs m)))) ∨ (m ≤ L.length ∧ e = .returned (.tuple #[.slice none 0 0, .int .i64 ((m : Int) + 1), .int .i64 (xs m)]))) ∧ Below w.heap.size w w' := by
  obtain ⟨S, hS⟩ : ∃ S : ByteArray, (⟨(joinL L).toArray⟩ : ByteArray) = S := ⟨_, rfl⟩
  have hSs : S.size ≤ 65536 := by rw [← hS]; show (joinL L).toArray.size ≤ _; simpa using hsz
  have q1 : ¬ (S.size : Int) > 65536 := by omega
  have q2 : decide ((S.size : Int) > 65536) = false := decide_eq_false q1
  obtain ⟨mx, hmx⟩ := he.max
  have hsp := Tryz.strings_Split S ⟨#[10]⟩ mx w (by omega) hmx (Nat.le_refl 1)
  have hN : L.length ≤ 65536 := by
    have h1 : L.length ≤ (joinL L).length := by
      have h2 := (splitB_lines L hL).1
      have h3 := Lib.countB_le ⟨#[10]⟩ (Nat.le_refl 1) _ ⟨(joinL L).toArray⟩ (Nat.le_refl _)
      rw [h2] at h3
      have h4 : (⟨(joinL L).toArray⟩ : ByteArray).size = (joinL L).length := by show (joinL L).toArray.size = _; simp
      omega
    omega
  rw [← hS, (splitB_lines L hL).1, (splitB_lines L hL).2, hS] at hsp
  obtain ⟨W0, hW0⟩ : ∃ W, w.alloc (.cells (pcA L) 9) = W := ⟨_, rfl⟩
  have hb0 : Below w.heap.size w W0 := by rw [← hW0]; exact (Below.refl _ _).alloc (Nat.le_refl _) _
  have hz0 : W0.heap.size = w.heap.size + 1 := by rw [← hW0]; simp
  have r0 : RowC W0 w.heap.size (pcA L) 9 := by rw [← hW0]; exact RowC.new _ _ _ _ rfl
  have HSP : Hid (Calls Tryz.prog 14 #[.string S, .string ⟨#[10]⟩] w fun e w' => e = .returned (.slice (some ⟨w.heap.size, 0, none⟩) (L.length + 1) (L.length + 1)) ∧ w' = W0) := Lib.hid (by rw [← hW0]; exact hsp)
  have HRD := Lib.hid HRD0
  have HOK := Lib.hid (And.intro hok hbad)
  have HAT := Lib.hid (pcA_at L)
  have HB := Lib.hid hb0
  have HR := Lib.hid r0
  have HZ := Lib.hid hz0
  obtain ⟨N, hNN⟩ : ∃ N, L.length = N := ⟨_, rfl⟩
  rw [hS]
  rw [hNN] at HSP HRD HOK HAT hm hN ⊢
  generalize pcN L = P at *
  generalize pcA L = PA at *
  clear he hmx hsp hW0 hb0 r0 hz0 HRD0 hok hbad hS hL hsz hNN
  go_enter Tryz.func7, Tryz.ntmps7
  go_wp2_with fail
  refine HSP.out.mono ?_
  rintro e w1 ⟨rfl, rfl⟩
  go_wp2_with fail
  go_loopw [5, 16] (fun l i wr => ∃ (q : Nat) (A : Option Addr) (c : Nat), q ≤ m ∧ l = .slice A (accL rs xs q).length c ∧ i = .int .i64 q ∧ OwnC wr w1.heap.size 47 4 A (accL rs xs q).length c (icell (gOf (accL rs xs q))) ∧ Below w1.heap.size w1 wr) (fun _ i _ => N + 1 - (intOf i).toNat)
  case atStart => exact ⟨0, none, 0, by omega, rfl, rfl, OwnC.nil_, Below.refl _ _⟩
  case round =>
    obtain ⟨q, A, c, hq, rfl, rfl, hown, hB⟩ := hrel
    by_cases hqN : q < N + 1
    · have g1 : (q : Int) < ((N : Int) + 1) := by omega
      have g2 : (0 : Int) ≤ (q : Int) := by omega
      have g3 : ((q : Int) < (((N + 1 : Nat)) : Int)) := by omega
      have c0 := (HR.out.below hB HR.out.lt).cell q _ (HAT.out q hqN)
      have hb01 : Below w.heap.size w wr := HB.out.trans (hB.mono HB.out.size)
      have HX := Lib.hid (HRD.out q hqN wr hb01)
      have HBR := Lib.hid hB
      have HOW := Lib.hid hown
      have hal : (accL rs xs q).length ≤ q := accL_len rs xs q
      by_cases hqm : q < m
      · rcases HOK.out.1 q hqm with h0 | h4
        · have HAC := Lib.hid (show accL rs xs (q + 1) = accL rs xs q ++ [rs q] by rw [accL, if_pos h0])
          rw [h0] at HX
          obtain ⟨ac, hac⟩ : ∃ ac, accL rs xs q = ac := ⟨_, rfl⟩
          obtain ⟨v, hv⟩ : ∃ v, rs q = v := ⟨_, rfl⟩
          rw [hac, hv] at HAC
          rw [hv] at HX
          rw [hac] at HOW hal
          rw [hac]
          clear hown hB h0 hac hv hb01
          go_wp2_with fail
          refine HX.out.mono ?_
          rintro e w2 ⟨rfl, hB2⟩
          have HO2 := Lib.hid (HOW.out.below hB2 (Nat.le_refl _))
          have HB2 := Lib.hid (HBR.out.trans (hB2.mono HBR.out.size))
          clear hB2 HX HOW
          have hs2 : w1.heap.size ≤ w2.heap.size := HB2.out.size
          go_wp2_with (at_builtin; go_must (refine app_cells _ (by rfl) _ _ _ 47 (by rfl) Tryz.underlying24 infoI (by rfl) (by decide) rfl ((HO2.out.alloc _).alloc _) rfl (one_instK _ (w2.heap.size + 1) (by simp) v 47) (fun i _ => icell_one _ i) (by unfold maxLen; omega) (by omega) (by simp; omega) (ac.length + 1) rfl (icell (gOf (ac ++ [v]))) (icell_gcat ac v) ?_; rintro A7 c7 w7 hown7 hB7))
          exact ⟨⟨q + 1, A7, c7, by omega, by rw [HAC.out, List.length_append]; rfl, by go_num, by rw [HAC.out, List.length_append]; exact hown7, ((HB2.out.alloc hs2 _).alloc (by simp; omega) _).trans hB7⟩, by simp [intOf]; omega⟩
        · have HAC := Lib.hid (show accL rs xs (q + 1) = accL rs xs q by rw [accL, if_neg (by rw [h4]; decide)])
          rw [h4] at HX
          obtain ⟨ac, hac⟩ : ∃ ac, accL rs xs q = ac := ⟨_, rfl⟩
          obtain ⟨v, hv⟩ : ∃ v, rs q = v := ⟨_, rfl⟩
          rw [hac] at HAC
          rw [hv] at HX
          rw [hac] at HOW hal
          rw [hac]
          clear hown hB h4 hac hv hb01
          go_wp2_with fail
          refine HX.out.mono ?_
          rintro e w2 ⟨rfl, hB2⟩
          have HO2 := Lib.hid (HOW.out.below hB2 (Nat.le_refl _))
          have HB2 := Lib.hid (HBR.out.trans (hB2.mono HBR.out.size))
          clear hB2 HX HOW
          have hs2 : w1.heap.size ≤ w2.heap.size := HB2.out.size
          go_wp2
          exact ⟨⟨q + 1, A, c, by omega, by rw [HAC.out], by go_num, by rw [HAC.out]; exact HO2.out.alloc _, HB2.out.alloc hs2 _⟩, by simp [intOf]; omega⟩
      · obtain rfl : q = m := by omega
        obtain ⟨b0, b4⟩ := HOK.out.2 (by omega)
        have hqN2 : q ≤ N := by omega
        obtain ⟨x, hx⟩ : ∃ x, xs q = x := ⟨_, rfl⟩
        rw [hx] at HX b0 b4
        have HXE := Lib.hid hx
        clear hx
        obtain ⟨v, hv⟩ : ∃ v, rs q = v := ⟨_, rfl⟩
        rw [hv] at HX
        clear hown hB hv hb01
        go_wp2_with fail
        refine HX.out.mono ?_
        rintro e w2 ⟨rfl, hB2⟩
        have HB2 := Lib.hid (HBR.out.trans (hB2.mono HBR.out.size))
        clear hB2 HX
        have hs2 : w1.heap.size ≤ w2.heap.size := HB2.out.size
        go_wp2
        go_ret3
        exact ⟨.inr ⟨hqN2, by rw [HXE.out]; go_num⟩, HB.out.trans ((HB2.out.alloc hs2 _).mono HB.out.size)⟩
    · obtain rfl : m = N + 1 := by omega
      obtain rfl : q = N + 1 := by omega
      have g1 : ¬ ((N : Int) + 1) < ((N : Int) + 1) := by omega
      have HO2 := Lib.hid hown
      clear hown
      go_wp2
      go_ret3
      exact ⟨.inl (by first | exact ⟨rfl, _, _, rfl, HO2.out.cel⟩ | exact ⟨_, _, rfl, HO2.out.cel⟩), HB.out.trans (hB.mono HB.out.size)⟩
end Go.Proofs.YtilelhhnbbjaaaaGreatDoor
