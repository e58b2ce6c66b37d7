/-
  The text of a right condition: cond.Text.
-/
import Derived.Test.YtlpcallgkciklaaGreatDoorGd
import Derived.Test.YtlpcallgkciklaaGreatDoorGg
import Derived.Test.YtlpcallgkciklaaGreatDoorShb
import Derived.RegionTactic
import Derived.Deep.Cut
import Derived.Test.YtlpcallgkciklaaGreatDoorMp
import Derived.Deep.RegionHeld3
namespace Go.Proofs.YtlpcallgkciklaaGreatDoor
open Go.Shelf Go.RowKit
set_option linter.unusedVariables false
/-- Words with a blank between. -/
def joinV : List (List UInt8) → List UInt8
  | [] => []
  | [w] => w
  | w :: r => w ++ 32 :: joinV r
theorem sgO_size (j : Nat) : (sgO j).size ≤ 2 := by unfold sgO; split <;> decide

/-- A right condition's words. -/
def wordsL (i j m v : Nat) : List (List UInt8) := if j = 6 then [[97, UInt8.ofNat (48 + i)], [38], Lib.decDigits m, [61, 61], Lib.decDigits v] else [[97, UInt8.ofNat (48 + i)], (sgO j).data.toList, Lib.decDigits v]
abbrev textC (i j m v : Nat) : ByteArray := ⟨(joinV (wordsL i j m v)).toArray⟩
theorem itoa6 (i : Nat) (hi : i < 6) (w : World) : Calls Tryz.prog 71 #[.int .i64 i] w fun e w' => e = .returned (.string ⟨#[UInt8.ofNat (48 + i)]⟩) ∧ w' = w := by
  have h := Tryz.strconv_Itoa_small i (by omega) w
  rw [Lib.decDigits_one (by omega)] at h
  exact h
set_option maxRecDepth 100000 in
set_option maxHeartbeats 8000000 in
theorem text3_ok (i : Nat) (hi : i < 6) (j : Nat) (hj : j < 6) (v : Nat) (hv : v < 18446744073709551616) (w : World) (ht : TabP w) :
    Calls Tryz.prog 72 #[.agg (condA i ((j : Int) + 1) 0 v)] w fun e w' => e = .returned (.string (textC i j 0 v)) ∧ Below w.heap.size w w' := by
  have hres : ((((((ByteArray.mk #[97]) ++ ⟨#[UInt8.ofNat (48 + i)]⟩) ++ ⟨#[32]⟩) ++ sgO j) ++ ⟨#[32]⟩) ++ dec v) = textC i j 0 v := by
    apply ByteArray.ext
    rw [textC, wordsL, if_neg (by omega)]
    simp [joinV]
  have hsD : (ByteArray.mk #[UInt8.ofNat (48 + i)]).size = 1 := rfl
  have hsV : (dec v).size ≤ 20 := by
    show (Lib.decDigits v).toArray.size ≤ _
    have h := nDigits_le v hv
    rw [← Lib.decDigits_length] at h
    simpa using h
  have hsS := sgO_size j
  have hI := itoa6 i hi
  have hD := fun W h => decimal_any v hv W h
  generalize (ByteArray.mk #[UInt8.ofNat (48 + i)]) = D at hres hsD hI
  generalize dec v = DV at hres hsV hD
  have hR := operatorOf_ok i ((j : Int) + 1) 0 v j ⟨by omega, by omega, by omega, rfl, by simp⟩ (w.alloc (.cells (condA i ((j : Int) + 1) 0 v) 62))
  have HRES := Lib.hid hres
  have HI := Lib.hid hI
  have HD := Lib.hid hD
  have HF := Lib.hid hR
  have r0 : RowC (w.alloc (.cells (condA i ((j : Int) + 1) 0 v) 62)) w.heap.size (condA i ((j : Int) + 1) 0 v) 62 := RowC.new _ _ _ _ rfl
  have R0 := Lib.hid r0
  have HB := Lib.hid (show Below w.heap.size w (w.alloc (.cells (condA i ((j : Int) + 1) 0 v) 62)) from (Below.refl _ _).alloc (Nat.le_refl _) _)
  have HT := Lib.hid ht
  obtain ⟨F, hkm⟩ := fnO_func j
  have HK := Lib.hid hkm
  have hmk : Hid (mkO j = false) := Lib.hid (by simp [mkO]; omega)
  clear hres hI hD hR hkm ht r0
  go_enter Tryz.func72, Tryz.ntmps72
  go_wp2_with fail
  refine HF.out.mono ?_
  rintro e w1 ⟨rfl, hB1⟩
  simp only [opA, HK.out]
  rw [hmk.out]
  have hr1 := (R0.out.below hB1 R0.out.lt).alloc (.cells #[.string (sgO j), .bool false, .func (.func F) #[] #[]] 165)
  have hr2 : RowC (w1.alloc (.cells #[.string (sgO j), .bool false, .func (.func F) #[] #[]] 165)) w1.heap.size #[.string (sgO j), .bool false, .func (.func F) #[] #[]] 165 := RowC.new _ _ _ _ rfl
  have hbe := (HB.out.trans (hB1.mono HB.out.size)).alloc (by have := HB.out.size; have := hB1.size; omega) (.cells #[.string (sgO j), .bool false, .func (.func F) #[] #[]] 165)
  have HBE := Lib.hid hbe
  clear hB1 hbe
  go_upto_region 4 with fail
  generalize w1.alloc (.cells #[.string (sgO j), .bool false, .func (.func F) #[] #[]] 165) = W at *
  have k0 := hr1.cell 0 (.int .i64 i) rfl
  have k3 := hr1.cell 3 (.int .u64 v) rfl
  have d0 := hr2.cell 0 (.string (sgO j)) rfl
  have d1 := hr2.cell 1 (.bool false) rfl
  clear hr1 hr2
  have s1 : ¬ 9223372036854775807 < 1 + D.size := by omega
  have s2 : ¬ 9223372036854775807 < 1 + D.size + 1 := by omega
  have s3 : ¬ 9223372036854775807 < 1 + D.size + 1 + (sgO j).size := by omega
  have s4 : ¬ 9223372036854775807 < 1 + D.size + 1 + (sgO j).size + 1 := by omega
  first
  | (go_region_with (go_at_call 71; refine (HI.out _).mono ?_; rintro e w2 ⟨rfl, rfl⟩))
  | fail "four"
  all_goals
    have s5 : ¬ 9223372036854775807 < 1 + D.size + 1 + (sgO j).size + 1 + DV.size := by omega
    have HDW := Lib.hid (HD.out W.drew (tab_on HT.out HBE.out.drew (Nat.le_refl _)))
    go_wp2_with (go_at_call 95; refine HDW.out.mono ?_; rintro e w3 ⟨rfl, hB3⟩)
    go_ret
    exact ⟨by show Ending.returned (.string (((((⟨#[97]⟩ ++ D) ++ ⟨#[32]⟩) ++ sgO j) ++ ⟨#[32]⟩) ++ DV)) = _; rw [HRES.out], HBE.out.drew.trans (hB3.mono HBE.out.size)⟩
set_option maxRecDepth 100000 in
set_option maxHeartbeats 8000000 in
theorem text5_ok (i : Nat) (hi : i < 6) (m : Nat) (hm : m < 18446744073709551616) (v : Nat) (hv : v < 18446744073709551616) (w : World) (ht : TabP w) :
    Calls Tryz.prog 72 #[.agg (condA i 7 m v)] w fun e w' => e = .returned (.string (textC i 6 m v)) ∧ Below w.heap.size w w' := by
  have hres : ((((((ByteArray.mk #[97]) ++ ⟨#[UInt8.ofNat (48 + i)]⟩) ++ ⟨#[32]⟩) ++ sgO 6) ++ ⟨#[32]⟩) ++ (((dec m ++ ⟨#[32]⟩) ++ ⟨#[61, 61]⟩) ++ ⟨#[32]⟩)) ++ dec v = textC i 6 m v := by
    apply ByteArray.ext
    rw [textC, wordsL, if_pos rfl]
    simp [joinV, sgO]
  have hsD : (ByteArray.mk #[UInt8.ofNat (48 + i)]).size = 1 := rfl
  have hsV : (dec v).size ≤ 20 := by
    show (Lib.decDigits v).toArray.size ≤ _
    have h := nDigits_le v hv
    rw [← Lib.decDigits_length] at h
    simpa using h
  have hsM : (dec m).size ≤ 20 := by
    show (Lib.decDigits m).toArray.size ≤ _
    have h := nDigits_le m hm
    rw [← Lib.decDigits_length] at h
    simpa using h
  have hsS := sgO_size 6
  have hI := itoa6 i hi
  have hD := fun W h => decimal_any v hv W h
  have hDm := fun W h => decimal_any m hm W h
  generalize (ByteArray.mk #[UInt8.ofNat (48 + i)]) = D at hres hsD hI
  obtain ⟨DV, hDV⟩ : ∃ D, dec v = D := ⟨_, rfl⟩
  obtain ⟨DM, hDM⟩ : ∃ D, dec m = D := ⟨_, rfl⟩
  rw [hDV] at hres hsV hD
  rw [hDM] at hres hsM hDm
  have HDM := Lib.hid hDm
  clear hDV hDM hDm
  have hR := operatorOf_ok i 7 m v 6 ⟨by omega, by omega, by omega, rfl, by simp [mkO]⟩ (w.alloc (.cells (condA i 7 m v) 62))
  have HRES := Lib.hid hres
  have HI := Lib.hid hI
  have HD := Lib.hid hD
  have HF := Lib.hid hR
  have r0 : RowC (w.alloc (.cells (condA i 7 m v) 62)) w.heap.size (condA i 7 m v) 62 := RowC.new _ _ _ _ rfl
  have R0 := Lib.hid r0
  have HB := Lib.hid (show Below w.heap.size w (w.alloc (.cells (condA i 7 m v) 62)) from (Below.refl _ _).alloc (Nat.le_refl _) _)
  have HT := Lib.hid ht
  obtain ⟨F, hkm⟩ := fnO_func 6
  have HK := Lib.hid hkm
  clear hres hI hD hR hkm ht r0
  go_enter Tryz.func72, Tryz.ntmps72
  go_wp2_with fail
  refine HF.out.mono ?_
  rintro e w1 ⟨rfl, hB1⟩
  simp only [opA, HK.out]
  try rw [show mkO 6 = true by rfl]
  have hr1 := (R0.out.below hB1 R0.out.lt).alloc (.cells #[.string (sgO 6),   .bool true, .func (.func F) #[] #[]] 165)
  have hr2 : RowC (w1.alloc (.cells #[.string (sgO 6),   .bool true, .func (.func F) #[] #[]] 165)) w1.heap.size #[.string (sgO 6),   .bool true, .func (.func F) #[] #[]] 165 := RowC.new _ _ _ _ rfl
  have hbe := (HB.out.trans (hB1.mono HB.out.size)).alloc (by have := HB.out.size; have := hB1.size; omega) (.cells #[.string (sgO 6),   .bool true, .func (.func F) #[] #[]] 165)
  have HBE := Lib.hid hbe
  clear hB1 hbe
  go_upto_region 4 with fail
  generalize w1.alloc (.cells #[.string (sgO 6),   .bool true, .func (.func F) #[] #[]] 165) = W at *
  have k0 := hr1.cell 0 (.int .i64 i) rfl
  have k2 := hr1.cell 2 (.int .u64 m) rfl
  have k3 := hr1.cell 3 (.int .u64 v) rfl
  have d0 := hr2.cell 0 (.string (sgO 6)) rfl
  have d1 := hr2.cell 1 (.bool true) rfl
  clear hr1 hr2
  have s1 : ¬ 9223372036854775807 < 1 + D.size := by omega
  have s2 : ¬ 9223372036854775807 < 1 + D.size + 1 := by omega
  have s3 : ¬ 9223372036854775807 < 1 + D.size + 1 + (sgO 6).size := by omega
  have s4 : ¬ 9223372036854775807 < 1 + D.size + 1 + (sgO 6).size + 1 := by omega
  first
  | (go_region_with (go_at_call 71; refine (HI.out _).mono ?_; rintro e w2 ⟨rfl, rfl⟩))
  | fail "four"
  all_goals
    have s5 : ¬ 9223372036854775807 < DM.size + 1 := by omega
    have s6 : ¬ 9223372036854775807 < DM.size + 1 + 2 := by omega
    have s7 : ¬ 9223372036854775807 < DM.size + 1 + 2 + 1 := by omega
    have s8 : ¬ 9223372036854775807 < 1 + D.size + 1 + (sgO 6).size + 1 + (DM.size + 1 + 2 + 1) := by omega
    have s9 : ¬ 9223372036854775807 < 1 + D.size + 1 + (sgO 6).size + 1 + (DM.size + 1 + 2 + 1) + DV.size := by omega
    have HDW := Lib.hid (HDM.out W.drew (tab_on HT.out HBE.out.drew (Nat.le_refl _)))
    have LK := Lib.hid (World.block_lt_of_cell? _ _ k3)
    have K3 := Lib.hid k3
    go_wp2_with fail
    refine HDW.out.mono ?_
    rintro e w3 ⟨rfl, hB3⟩
    have kk3 : w3.cell? ⟨w.heap.size, 3, none⟩ = some (.int .u64 v) := (hB3.cell (p := ⟨w.heap.size, 3, none⟩) LK.out).trans K3.out
    have HB3 := Lib.hid (HBE.out.drew.trans (hB3.mono HBE.out.size))
    have HDV := Lib.hid (HD.out w3 (tab_on HT.out HB3.out (Nat.le_refl _)))
    clear hB3 k0 k2 k3 d0 d1
    go_wp2_with fail
    refine HDV.out.mono ?_
    rintro e w4 ⟨rfl, hB4⟩
    go_wp2
    go_ret
    exact ⟨by show Ending.returned (.string ((((((⟨#[97]⟩ ++ D) ++ ⟨#[32]⟩) ++ sgO 6) ++ ⟨#[32]⟩) ++ (((DM ++ ⟨#[32]⟩) ++ ⟨#[61, 61]⟩) ++ ⟨#[32]⟩)) ++ DV)) = _; rw [HRES.out], HB3.out.trans (hB4.mono HB3.out.size)⟩
end Go.Proofs.YtlpcallgkciklaaGreatDoor

/-
  Layer 14: the words of a rule's line: policy.wordsOf.
-/
namespace Go.Proofs.YtlpcallgkciklaaGreatDoor
open Go.RowKit Go.Shelf
set_option linter.unusedVariables false

/-- The pieces of the conditions from j on: words with blanks in them. -/
def piecesC : Nat → List CD → List (List UInt8)
  | _, [] => []
  | j, c :: t => (aheadW j).data.toList :: joinW (cndL c) :: piecesC (j + 1) t
def pieceR (r : RV) : List (List UInt8) := r.nm.data.toList :: joinW (actL r.k r.u) :: piecesC 0 r.L
theorem jt_app (a b : List (List UInt8)) : Lib.joinTail [32] (a ++ b) = Lib.joinTail [32] a ++ Lib.joinTail [32] b := by
  unfold Lib.joinTail
  rw [List.map_append, List.flatten_append]
theorem jt_cons (x : List UInt8) (r : List (List UInt8)) : Lib.joinTail [32] (x :: r) = 32 :: x ++ Lib.joinTail [32] r := by
  unfold Lib.joinTail
  simp
theorem joinW_tail (x : List UInt8) (r : List (List UInt8)) : joinW (x :: r) = x ++ Lib.joinTail [32] r := Lib.join_cons x r [32]
theorem jt_piece {c : List (List UInt8)} (h : c ≠ []) (r : List (List UInt8)) : Lib.joinTail [32] (joinW c :: r) = Lib.joinTail [32] (c ++ r) := by
  cases c with
  | nil => exact absurd rfl h
  | cons x t =>
    show _ = Lib.joinTail [32] (x :: (t ++ r))
    rw [jt_cons, jt_cons, joinW_tail, jt_app]
    simp
theorem actL_ne (k u : Int) : actL k u ≠ [] := by unfold actL; split <;> simp
theorem cndL_ne (c : CD) : cndL c ≠ [] := by unfold cndL; split <;> simp
theorem jt_pieces : ∀ (L : List CD) (j : Nat), Lib.joinTail [32] (piecesC j L) = Lib.joinTail [32] (cndsL j L)
  | [], j => rfl
  | c :: t, j => by
    unfold piecesC cndsL
    rw [jt_cons, jt_piece (cndL_ne c), jt_app, jt_pieces t (j + 1), jt_cons, jt_app]
theorem join_pieces (r : RV) : joinW (pieceR r) = joinW (rulL r) := by
  unfold pieceR rulL
  rw [joinW_tail, joinW_tail, jt_piece (actL_ne _ _), jt_app, jt_app, jt_pieces]
theorem piecesC_len : ∀ (L : List CD) (j : Nat), (piecesC j L).length = 2 * L.length
  | [], _ => rfl
  | c :: t, j => by
    unfold piecesC
    simp only [List.length_cons]
    rw [piecesC_len t (j + 1)]
    omega
theorem piecesC_at : ∀ (L : List CD) (j q : Nat) (h : q < L.length), (piecesC j L)[2 * q]? = some (aheadW (j + q)).data.toList ∧ (piecesC j L)[2 * q + 1]? = some (joinW (cndL L[q]!))
  | [], _, q, h => by simp at h
  | c :: t, j, q, h => by
    unfold piecesC
    cases q with
    | zero => exact ⟨rfl, rfl⟩
    | succ q =>
      simp only [List.length_cons] at h
      obtain ⟨h1, h2⟩ := piecesC_at t (j + 1) q (by omega)
      rw [show 2 * (q + 1) = 2 * q + 1 + 1 by omega]
      simp only [List.getElem?_cons_succ]
      refine ⟨?_, ?_⟩
      · rw [h1, show j + 1 + q = j + (q + 1) by omega]
      · rw [show 2 * q + 1 = (2 * q) + 1 from rfl] at h2
        rw [h2]
        simp
theorem pieceR_at (r : RV) (q : Nat) (h : q < r.L.length) : (pieceR r)[2 + 2 * q]? = some (aheadW q).data.toList ∧ (pieceR r)[2 + 2 * q + 1]? = some (joinW (cndL r.L[q]!)) := by
  have h1 := piecesC_at r.L 0 q h
  rw [Nat.zero_add] at h1
  unfold pieceR
  rw [show 2 + 2 * q = 2 * q + 1 + 1 by omega]
  simp only [List.getElem?_cons_succ]
  exact h1
theorem strs_of {ws : List (List UInt8)} {i : Nat} {x : List UInt8} (h : ws[i]? = some x) : strs ws i = .string ⟨x.toArray⟩ := by
  unfold strs
  rw [List.getD_eq_getElem?_getD, h]
  rfl
theorem two_str (w : World) (s t : ByteArray) (E : TypeId) : Cel (w.alloc (.cells #[.string s, .string t] E)) (w.heap.size + 1) 1 (some ⟨w.heap.size, 0, none⟩) 2 2 (fun i => if i = 0 then .string s else .string t) :=
  Cel.mk_ (by omega) (Nat.le_refl _) (by decide) fun i hi => by
    have hr : RowC (w.alloc (.cells #[.string s, .string t] E)) w.heap.size #[.string s, .string t] E := RowC.new _ _ _ _ rfl
    match i, hi with
    | 0, _ => exact hr.cell 0 _ rfl
    | 1, _ => exact hr.cell 1 _ rfl
theorem own_two (w : World) (base : Nat) (hb : base ≤ w.heap.size) (s t : ByteArray) (E : TypeId) (F : Nat → Value) (h0 : F 0 = .string s) (h1 : F 1 = .string t) : OwnC (w.alloc (.cells #[.string s, .string t] E)) base E 1 (some ⟨w.heap.size, 0, none⟩) 2 2 F := by
  have e : (List.range (2 * 1)).map F = [.string s, .string t] := by
    show [F 0, F 1] = _
    rw [h0, h1]
  unfold OwnC
  rw [e]
  exact ⟨by simp, .inr ⟨w.heap.size, 2, #[.string s, .string t], rfl, hb, heap_alloc_new w _, Nat.le_refl _, by decide, rfl, rfl⟩⟩
/-- A row of one's own as words of a line. -/
theorem WR.of_ownS {w : World} {base n c : Nat} {A : Option Addr} {ws : List (List UInt8)} (h : OwnC w base 9 1 A n c (strs ws)) (hn : ws.length = n) (hp : 0 < n) : ∃ b, A = some ⟨b, 0, none⟩ ∧ base ≤ b ∧ WR w b ws := by
  obtain ⟨h1, h2⟩ := h
  rcases h2 with ⟨hv, h0⟩ | ⟨gg, cap, cur, hv, hg, hh, h3, h4, h5, h6⟩
  · omega
  · injection hv with e1 e2 e3
    refine ⟨gg, e1, hg, cur, hh, fun j x hx => ?_⟩
    have hj : j < ws.length := (List.getElem?_eq_some_iff.1 hx).1
    have := congrArg (·[j]?) h6
    simp only [Nat.mul_one] at this
    rw [List.getElem?_take_of_lt (by omega), List.getElem?_map, List.getElem?_range (by omega), Option.map_some, strs_of hx] at this
    rw [← Array.getElem?_toList]
    exact this
/-- act.Text of a right action. -/
theorem actText_ok {k u : Int} (h : actB k u = true) (w : World) (ht : TabP w) : Calls Tryz.prog 45 #[.agg #[.int .i64 k, .int .i64 u]] w fun e w' => e = .returned (.string ⟨(joinW (actL k u)).toArray⟩) ∧ Below w.heap.size w w' := by
  obtain ⟨j, hj, rfl, hm⟩ := actB_ok h
  have e : ((j : Int) + 1 - 1).toNat = j := by omega
  have hm' := hm
  unfold mayA at hm'
  simp only [Bool.and_eq_true, decide_eq_true_eq] at hm'
  cases hk : knA j with
  | false =>
    have h1 := text_plain j hj u hm hk w
    have e2 : (⟨(joinW (actL ((j : Int) + 1) u)).toArray⟩ : ByteArray) = kwA j := by
      unfold actL
      rw [e, hk]
      exact (congrArg (fun z : List UInt8 => (⟨z.toArray⟩ : ByteArray)) (Lib.join_one _ _)).trans (bytes_back _)
    rw [e2]
    exact h1
  | true =>
    have h1 := text_num j hj u hm hk w ht
    have e2 : (⟨(joinW (actL ((j : Int) + 1) u)).toArray⟩ : ByteArray) = (kwA j ++ ⟨#[32]⟩) ++ ⟨(Lib.itoa u).toArray⟩ := by
      unfold actL
      rw [e, hk]
      obtain ⟨v, rfl⟩ := Int.eq_ofNat_of_zero_le hm'.1
      rw [Lib.itoa_nonneg]
      apply ByteArray.ext
      simp [joinW_tail, Lib.joinTail]
    rw [e2]
    exact h1
theorem joinV_eq : ∀ l : List (List UInt8), joinV l = joinW l
  | [] => rfl
  | [w] => (Lib.join_one _ _).symm
  | w :: x :: r => by
    rw [joinW_tail, jt_cons]
    show w ++ 32 :: joinV (x :: r) = _
    rw [joinV_eq (x :: r), joinW_tail]
    rfl
/-- cond.Text of a right condition. -/
theorem condText_ok {c : CD} (h : RiC c) (hm : c.m ≤ 18446744073709551615) (hv : c.v ≤ 18446744073709551615) (w : World) (ht : TabP w) : Calls Tryz.prog 72 #[.agg (condA c.a c.o c.m c.v)] w fun e w' => e = .returned (.string ⟨(joinW (cndL c)).toArray⟩) ∧ Below w.heap.size w w' := by
  obtain ⟨h1, h2, h3, h4, h5⟩ := h
  obtain ⟨a, o, m, v⟩ := c
  simp only at h1 h2 h3 h4 h5 hm hv
  obtain ⟨i, rfl⟩ := Int.eq_ofNat_of_zero_le h1
  by_cases h7 : o = 7
  · subst h7
    have ht5 := text5_ok i (by omega) m (by omega) v (by omega) w ht
    have e : textC i 6 m v = ⟨(joinW (cndL ⟨(i : Int), 7, m, v⟩)).toArray⟩ := by
      show (⟨(joinV (wordsL i 6 m v)).toArray⟩ : ByteArray) = _
      rw [joinV_eq]
      rfl
    rw [e] at ht5
    exact ht5
  · have hm0 : m = 0 := h5.resolve_left h7
    subst hm0
    obtain ⟨j, hj⟩ : ∃ j : Nat, o = (j : Int) + 1 := ⟨(o - 1).toNat, by omega⟩
    subst hj
    have ht3 := text3_ok i (by omega) j (by omega) v (by omega) w ht
    have e : textC i j 0 v = ⟨(joinW (cndL ⟨(i : Int), (j : Int) + 1, 0, v⟩)).toArray⟩ := by
      show (⟨(joinV (wordsL i j 0 v)).toArray⟩ : ByteArray) = _
      rw [joinV_eq]
      unfold wordsL cndL
      rw [if_neg (by omega), if_neg h7]
      simp
    rw [e] at ht3
    exact ht3

set_option maxRecDepth 100000 in
set_option maxHeartbeats 8000000 in
theorem wordsOf_any (r : RL) (w : World) (hr : ConA w r.A r.n r.C) (hm : mayV r.val = true) (hs : SmallV r.val) (hnm : r.nm.size ≤ 1000) (ht : TabP w) :
    Calls Tryz.prog 46 #[.agg (rulA r.nm r.k r.u r.A r.n r.c)] w fun e w' => ∃ b c', e = .returned (.slice (some ⟨b, 0, none⟩) (pieceR r.val).length c') ∧ (pieceR r.val).length ≤ c' ∧ WR w' b (pieceR r.val) ∧ w.heap.size ≤ b ∧ Below w.heap.size w w' := by
  have hm' := hm
  unfold mayV at hm'
  simp only [Bool.and_eq_true, decide_eq_true_eq, List.all_eq_true] at hm'
  obtain ⟨m1, m2, m3, m4⟩ := hm'
  have hLn : r.val.L.length = r.n := by simp [RL.val]
  have hL : ∀ q, q < r.n → r.val.L[q]! = r.C q := fun q hq => by
    rw [getElem!_pos _ _ (by rw [hLn]; exact hq)]
    simp [RL.val]
  have hP : ∀ q, q < r.n → (pieceR r.val)[2 + 2 * q]? = some (aheadW q).data.toList ∧ (pieceR r.val)[2 + 2 * q + 1]? = some (joinW (cndL (r.C q))) := fun q hq => by
    have := pieceR_at r.val q (by rw [hLn]; exact hq)
    rw [hL q hq] at this
    exact this
  have hC : ∀ q, q < r.n → RiC (r.C q) ∧ (r.C q).m ≤ 18446744073709551615 ∧ (r.C q).v ≤ 18446744073709551615 := fun q hq => by
    have hmem : r.C q ∈ r.val.L := List.mem_map.2 ⟨q, List.mem_range.2 hq, rfl⟩
    exact ⟨by simpa using m4 _ hmem, hs _ hmem⟩
  have hlen : (pieceR r.val).length = 2 + 2 * r.n := by
    show (piecesC 0 r.val.L).length + 1 + 1 = _
    rw [piecesC_len, hLn]
    omega
  have hp0 : strs (pieceR r.val) 0 = .string r.nm := (strs_of (x := r.nm.data.toList) rfl).trans (by rw [bytes_back])
  have hp1 : strs (pieceR r.val) 1 = .string ⟨(joinW (actL r.k r.u)).toArray⟩ := strs_of rfl
  rw [hLn] at m3
  obtain ⟨P, hPe⟩ : ∃ P, pieceR r.val = P := ⟨_, rfl⟩
  rw [hPe] at hP hlen hp0 hp1 ⊢
  obtain ⟨W0, hW0⟩ : ∃ W, w.alloc (.cells (rulA r.nm r.k r.u r.A r.n r.c) 58) = W := ⟨_, rfl⟩
  obtain ⟨H, hH⟩ : ∃ H, w.heap.size = H := ⟨_, rfl⟩
  have hB0 : Below H w W0 := by rw [← hW0, ← hH]; exact (Below.refl _ _).alloc (Nat.le_refl _) _
  have hP0 : RowC W0 H (rulA r.nm r.k r.u r.A r.n r.c) 58 := by rw [← hW0, ← hH]; exact RowC.new _ _ _ _ rfl
  have hs0 : W0.heap.size = H + 1 := by rw [← hW0, ← hH]; simp
  have p0 := hP0.cell 0 (.string r.nm) rfl
  have p1 := hP0.cell 1 (.int .i64 r.k) rfl
  have p2 := hP0.cell 2 (.int .i64 r.u) rfl
  have HS3 : Hid (∀ W, Below W0.heap.size W0 W → W.cell? ⟨H, 0, none⟩ = some (.string r.nm) ∧ W.cell? ⟨H, 1, none⟩ = some (.int .i64 r.k) ∧ W.cell? ⟨H, 2, none⟩ = some (.int .i64 r.u)) := Lib.hid fun W hW => by
    have h := hP0.below hW hP0.lt
    exact ⟨h.cell 0 _ rfl, h.cell 1 _ rfl, h.cell 2 _ rfl⟩
  have KA : Hid (∀ W, Below W0.heap.size W0 W → Calls Tryz.prog 45 #[.agg #[.int .i64 r.k, .int .i64 r.u]] W fun e w' => e = .returned (.string ⟨(joinW (actL r.k r.u)).toArray⟩) ∧ Below W.heap.size W w') := Lib.hid fun W hW => actText_ok m2 W (tab_on (tab_on ht hB0 (by omega)) hW (Nat.le_refl _))
  have hlr := hr.below hB0 (by omega)
  have HR := Lib.hid hlr
  have HRC := Lib.hid hr
  have HT := Lib.hid (tab_on ht hB0 (by omega))
  have HTW := Lib.hid ht
  have HB0 := Lib.hid hB0
  have HP0 := Lib.hid hP0
  have HW := Lib.hid hW0
  have HH := Lib.hid hH
  have HS0 := Lib.hid hs0
  have HP := Lib.hid (And.intro hP (And.intro hC hlen))
  have HPP := Lib.hid (And.intro hp0 hp1)
  obtain ⟨T, hT⟩ : ∃ T, (⟨(joinW (actL r.k r.u)).toArray⟩ : ByteArray) = T := ⟨_, rfl⟩
  rw [hT] at KA HPP
  have hbr : Below W0.heap.size W0 W0.drew := (Below.refl _ _).drew
  clear hr hm hs ht m1 m2 m4 hLn hL hP hC hlen hp0 hp1 hW0 hB0 hP0 hs0 hlr hT
  go_enter Tryz.func46, Tryz.ntmps46
  go_upto_region 1 with fail
  rw [HW.out]
  (try rw [hH])
  clear hH
  go_wp2_with fail
  go_region_held3 (fun w' => w'.cell? ⟨H, 0, none⟩ = some (.string r.nm) ∧ w'.cell? ⟨H, 1, none⟩ = some (.int .i64 r.k) ∧ w'.cell? ⟨H, 2, none⟩ = some (.int .i64 r.u))
    (first | (with_reducible exact HS3.out _ hbr) | (with_reducible exact HS3.out _ hb6) | (with_reducible exact HS3.out _ (hb6.alloc hb6.size _)) | (with_reducible exact HS3.out _ (Below.alloc hb6 hb6.size _)))
    (first
      | (go_at_call 45
         (with_reducible refine (KA.out _ hbr).mono ?_)
         rintro e w6 ⟨rfl, hB6⟩
         have hb6 : Below W0.heap.size W0 w6 := bTr hbr hB6
         clear hB6))
  obtain ⟨X, hX⟩ : ∃ X, w6.heap.size = X := ⟨_, rfl⟩
  obtain ⟨W6, hW6⟩ : ∃ W, w6.alloc (.cells #[.string r.nm, .string T] 9) = W := ⟨_, rfl⟩
  have hs6 : H + 1 ≤ X := by rw [← hX, ← HS0.out]; exact hb6.size
  have hB6 : Below W0.heap.size W0 W6 := by rw [← hW6]; exact hb6.alloc hb6.size _
  have hown6 : OwnC W6 H 9 1 (some ⟨X, 0, none⟩) 2 2 (strs P) := by
    rw [← hW6, ← hX]
    exact own_two w6 H (by omega) _ _ _ _ HPP.out.1 HPP.out.2
  have hP6 := HP0.out.below hB6 HP0.out.lt
  have p3 := hP6.cell 3 (.slice r.A r.n r.c) rfl
  have HO6 := Lib.hid hown6
  have HBW := Lib.hid (show Below H w W6 from HB0.out.trans (hB6.mono (by rw [HS0.out]; omega)))
  have HB6 := Lib.hid hB6
  (try rw [hX])
  rw [hW6]
  clear hX hW6 hs6 hB6 hown6 hP6 hb6 KA HS3
  go_wp2_with fail
  go_loopw [3, 4, 16] (fun v a i wr => ∃ (q : Nat) (A' : Option Addr) (c' : Nat), q ≤ r.n ∧ i = .int .i64 q ∧ a = .string (aheadW q) ∧ v = .slice A' (2 + 2 * q) c' ∧ Hid (OwnC wr H 9 1 A' (2 + 2 * q) c' (strs P) ∧ Below H w wr ∧ H ≤ wr.heap.size)) (fun _ _ i _ => r.n - (intOf i).toNat)
  case atStart => exact ⟨0, some ⟨X, 0, none⟩, 2, Nat.zero_le _, rfl, rfl, rfl, Lib.hid ⟨HO6.out, HBW.out, by rw [← HH.out]; exact HBW.out.size⟩⟩
  case round =>
    obtain ⟨q, A', c', hq, rfl, rfl, rfl, HI⟩ := hrel
    by_cases hlt : q < r.n
    · obtain ⟨cd, hcd⟩ : ∃ cd, r.C q = cd := ⟨_, rfl⟩
      obtain ⟨b, o, hA, q0, q1, q2, q3⟩ := (HRC.out.below HI.out.2.1 (Nat.le_of_eq HH.out)).four hlt hcd
      have hpq := HP.out.1 q hlt
      have hcq := HP.out.2.1 q hlt
      rw [hcd] at hpq hcq
      obtain ⟨W1, hW1⟩ : ∃ W, wr.alloc (.cells #[.int .i64 cd.a, .int .i64 cd.o, .int .u64 cd.m, .int .u64 cd.v] 62) = W := ⟨_, rfl⟩
      obtain ⟨Y, hY⟩ : ∃ Y, wr.heap.size = Y := ⟨_, rfl⟩
      have hb1 : Below Y wr W1 := by rw [← hW1, ← hY]; exact (Below.refl _ _).alloc (Nat.le_refl _) _
      have hr1 : RowC W1 Y #[.int .i64 cd.a, .int .i64 cd.o, .int .u64 cd.m, .int .u64 cd.v] 62 := by rw [← hW1, ← hY]; exact RowC.new _ _ _ _ rfl
      have hHY : H ≤ Y := by rw [← hY]; exact HI.out.2.2
      have c0 := hr1.cell 0 (.int .i64 cd.a) rfl
      have c1 := hr1.cell 1 (.int .i64 cd.o) rfl
      have c2 := hr1.cell 2 (.int .u64 cd.m) rfl
      have c3 := hr1.cell 3 (.int .u64 cd.v) rfl
      have hown1 := HI.out.1.below hb1 (Nat.le_of_eq hY)
      have hbw1 := HI.out.2.1.trans (hb1.mono hHY)
      have KC := Lib.hid (condText_ok hcq.1 hcq.2.1 hcq.2.2 W1 (tab_on HTW.out hbw1 (Nat.le_of_eq HH.out)))
      have HO1 := Lib.hid hown1
      have HB1 := Lib.hid hb1
      have HBW1 := Lib.hid hbw1
      have HPQ := Lib.hid hpq
      have HW1 := Lib.hid hW1
      have HY := Lib.hid hY
      have hs1 : Y ≤ W1.heap.size := by rw [← hY]; exact hb1.size
      obtain ⟨T2, hT2⟩ : ∃ T2, (⟨(joinW (cndL cd)).toArray⟩ : ByteArray) = T2 := ⟨_, rfl⟩
      rw [hT2] at KC
      have HT2 := Lib.hid hT2
      have i1 : (0 : Int) ≤ (q : Int) := by omega
      have i2 : (q : Int) < (r.n : Int) := by omega
      have hsY := Lib.hid (show Y < W1.heap.size from hr1.lt)
      clear hcd hpq hcq hW1 hb1 hr1 hown1 hbw1 hT2
      rw [hA]
      clear hA
      go_upto_region 6 with fail
      (try rw [hY])
      rw [HW1.out]
      clear hY q0 q1 q2 q3
      go_wp2_with fail
      refine KC.out.mono ?_
      rintro e w3 ⟨rfl, hB3⟩
      have HO3 := Lib.hid (HO1.out.below hB3 (Nat.le_refl _))
      have HB3 := Lib.hid (HBW1.out.trans (hB3.mono (by omega)))
      have hs3 : Y ≤ w3.heap.size := Nat.le_trans hs1 hB3.size
      have HCat : Hid (∀ i, i < (2 + 2 * (q + 1)) * 1 → catC ((2 + 2 * q) * 1) (strs P) (fun i => if i = 0 then .string (aheadW q) else .string T2) i = strs P i) := Lib.hid fun i hi => by
        unfold catC
        split
        · rfl
        · have hcase : i = 2 + 2 * q ∨ i = 2 + 2 * q + 1 := by omega
          rcases hcase with rfl | rfl
          · have e0 : 2 + 2 * q - (2 + 2 * q) * 1 = 0 := by omega
            rw [e0, strs_of HPQ.out.1, bytes_back]
            rfl
          · have e1 : 2 + 2 * q + 1 - (2 + 2 * q) * 1 = 1 := by omega
            rw [e1, strs_of HPQ.out.2, HT2.out]
            rfl
      clear hB3 hs1
      go_wp2_with (at_builtin; go_must (refine app_cells _ rfl _ _ _ 9 rfl Tryz.underlying95 infoS rfl (by decide) rfl (HO3.out.alloc _) rfl (two_str w3 _ _ 9) (fun i _ => by show (if i = 0 then Value.string (aheadW q) else Value.string T2).oneCell' = true; split <;> rfl) (by unfold maxLen; omega) (by omega) (by simp; omega) (2 + 2 * (q + 1)) (by omega) (strs P) HCat.out ?_; rintro A2 c2 w5 ho2 hb5))
      exact ⟨⟨q + 1, A2, c2, by omega, by go_num, by first | rfl | (unfold aheadW; rw [if_neg (by omega)]), rfl, Lib.hid ⟨ho2, (HB3.out.alloc (by rw [← HH.out]; exact HB3.out.size) _).trans hb5, Nat.le_trans (by omega) ((Below.refl _ _).alloc (by omega) _ |>.trans hb5).size⟩⟩, by simp [intOf]; omega⟩
    · obtain rfl : q = r.n := by omega
      go_wp2
      go_ret
      obtain ⟨b, rfl, hb, hwr⟩ := WR.of_ownS HI.out.1 HP.out.2.2 (by omega)
      exact ⟨b, c', by rw [HP.out.2.2]; rfl, by rw [HP.out.2.2]; exact HI.out.1.cel.le.1, hwr, by rw [HH.out]; exact hb, by rw [HH.out]; exact HI.out.2.1⟩
end Go.Proofs.YtlpcallgkciklaaGreatDoor

/-
  Layer 14: the lines of a policy: policy.linesOf; policy.Print.
-/
namespace Go.Proofs.YtlpcallgkciklaaGreatDoor
open Go.RowKit Go.Shelf
set_option linter.unusedVariables false

theorem WR.two {w : World} {b : Nat} {s t : List UInt8} (h : RowC w b #[.string ⟨s.toArray⟩, .string ⟨t.toArray⟩] 9) : WR w b [s, t] := by
  refine ⟨_, h, fun j x hx => ?_⟩
  match j, hx with
  | 0, hx => injection hx with hx; subst hx; rfl
  | 1, hx => injection hx with hx; subst hx; rfl
theorem own_line (w : World) (base : Nat) (hb : base ≤ w.heap.size) (y : Ln) : OwnC (w.alloc (.cells #[.int .i64 (y.num : Nat), .slice (some ⟨y.b, 0, none⟩) y.ws.length y.cap] 97)) base 97 2 (some ⟨w.heap.size, 0, none⟩) 1 1 (lcell [y]) :=
  ⟨by simp, .inr ⟨w.heap.size, 1, #[.int .i64 (y.num : Nat), .slice (some ⟨y.b, 0, none⟩) y.ws.length y.cap], rfl, hb, heap_alloc_new w _, Nat.le_refl _, by decide, rfl, rfl⟩⟩
theorem LR.alloc {w : World} {ls : List Ln} (h : LR w ls) (o : Obj) : LR (w.alloc o) ls := h.below ((Below.refl _ w).alloc (Nat.le_refl _) o)
/-- A line appended. -/
theorem app_line {w : World} {ops : Array Oper} {rest : List Oper} {o : Oper} {a : Act} {Q : Exit → Act → World → Prop} (hgd : o.guard = none) (s x : Operand)
    (ho : o.op = .call { callee := .builtin .append, args := #[s, x], argTypes := #[72, 72] })
    {base n c d g1 : Nat} {A : Option Addr} {ls : List Ln} (y : Ln) (hs : a.eval s = .slice A n c) (hn : ls.length = n) (hown : OwnC w base 97 2 A n c (lcell ls)) (hlr : LR w ls) (hx : a.eval x = .slice (some ⟨g1, 0, none⟩) 1 d) (hd : 1 ≤ d ∧ d ≤ maxLen)
    (hg1 : RowC w g1 #[.int .i64 (y.num : Nat), .slice (some ⟨y.b, 0, none⟩) y.ws.length y.cap] 97) (hy : LR w [y]) (hn2 : n ≤ 100000) (hbase : base ≤ w.heap.size)
    (h : ∀ A' c' w', OwnC w' base 97 2 A' (n + 1) c' (lcell (ls ++ [y])) → LR w' (ls ++ [y]) → Below base w w' → wpList Tryz.prog ops Q rest (a.put o.dst (.slice A' (n + 1) c')) w') : wpList Tryz.prog ops Q (o :: rest) a w := by
  subst hn
  have hcel : Cel w (g1 + 1) 2 (some ⟨g1, 0, none⟩) 1 d (fun i => if i = 0 then .int .i64 (y.num : Nat) else .slice (some ⟨y.b, 0, none⟩) y.ws.length y.cap) :=
    Cel.mk_ (by omega) hd.1 hd.2 fun i hi => by
      match i, hi with
      | 0, _ => exact hg1.cell 0 _ rfl
      | 1, _ => exact hg1.cell 1 _ rfl
  refine wpList_plain hgd fun _ hK => wp_cells w s x 72 97 ho Tryz.underlying72 infoLn rfl (by decide) hs hown hx hcel (fun i _ => by show (if i = 0 then Value.int .i64 (y.num : Nat) else .slice (some ⟨y.b, 0, none⟩) y.ws.length y.cap).oneCell' = true; split <;> rfl) (by unfold maxLen; omega) (by omega) hbase fun A' c' w' h1 hg h3 => hK _ _ (h A' c' w' (h1.congr fun i hi => lcell_snoc ls y i hi) ?_ h3)
  have hall : LR w (ls ++ [y]) := fun z hz => by
    rcases List.mem_append.1 hz with hz | hz
    · exact hlr z hz
    · exact hy z hz
  refine hall.of fun b' hlt ⟨cur, T, hc, hT⟩ => hg.block b' hlt (OwnC.not_row hown hc (by rw [hT]; decide))
/-- The lines' pieces. -/
def chunkL (k u : Int) (x : Bool) (L : List RV) : List (List (List UInt8)) := [dfW.data.toList, joinW (actL k u)] :: ((if x then [[x3W.data.toList, (onW true).data.toList]] else []) ++ L.map pieceR)
theorem join_chunks (k u : Int) (x : Bool) (L : List RV) : joinF (chunkL k u x L) = joinF (polL k u x L) := by
  have h0 : ∀ a b : List (List (List UInt8)), a.map joinW = b.map joinW → joinF a = joinF b := fun a b h => by
    unfold joinF
    have e : ∀ l : List (List (List UInt8)), (l.map fun ws => joinW ws ++ [10]) = (l.map joinW).map (· ++ [10]) := fun l => by rw [List.map_map]; rfl
    rw [e, e, h]
  apply h0
  unfold chunkL polL
  simp only [List.map_cons, List.map_append, List.map_map]
  congr 1
  · rw [joinW_tail, jt_piece (actL_ne k u), List.append_nil, joinW_tail]
  · congr 1
    exact List.map_congr_left fun r _ => join_pieces r
theorem chunk_split (k u : Int) (x : Bool) (L : List RV) : chunkL k u x L = chunkL k u x [] ++ L.map pieceR := by
  unfold chunkL
  simp
theorem chunk_len (k u : Int) (x : Bool) (L : List RV) : (chunkL k u x L).length ≤ L.length + 2 := by
  unfold chunkL
  cases x <;> simp

set_option maxRecDepth 100000 in
set_option maxHeartbeats 8000000 in
theorem linesOf_any (k u : Int) (x : Bool) (A : Option Addr) (l : List RL) (c : Nat) (w : World) (hl : RlL w A l) (hn : l.length ≤ 500) (hk : actB k u = true) (hm : ∀ r ∈ l, mayV r.val = true ∧ SmallV r.val ∧ r.nm.size ≤ 1000) (ht : TabP w) :
    Calls Tryz.prog 28 #[.agg (polA k u x A l.length c)] w fun e w' => ∃ A' c' ls, e = .returned (.slice A' (ls : List Ln).length c') ∧ OwnC w' w.heap.size 97 2 A' ls.length c' (lcell ls) ∧ LR w' ls ∧ ls.map (·.ws) = chunkL k u x (l.map RL.val) ∧ Below w.heap.size w w' := by
  obtain ⟨n, hnl⟩ : ∃ n, l.length = n := ⟨_, rfl⟩
  have HNL := Lib.hid hnl
  have HRL := Lib.hid hl
  have HM := Lib.hid hm
  rw [hnl] at hn ⊢
  obtain ⟨H, hH⟩ : ∃ H, w.heap.size = H := ⟨_, rfl⟩
  obtain ⟨W0, hW0⟩ : ∃ W, w.alloc (.cells (polA k u x A n c) 31) = W := ⟨_, rfl⟩
  have hB0 : Below H w W0 := by rw [← hW0, ← hH]; exact (Below.refl _ _).alloc (Nat.le_refl _) _
  have hP0 : RowC W0 H (polA k u x A n c) 31 := by rw [← hW0, ← hH]; exact RowC.new _ _ _ _ rfl
  have hs0 : W0.heap.size = H + 1 := by rw [← hW0, ← hH]; simp
  have p0 := hP0.cell 0 (.int .i64 k) rfl
  have p1 := hP0.cell 1 (.int .i64 u) rfl
  have KA := Lib.hid (actText_ok hk W0 (tab_on ht hB0 (by omega)))
  have HTW := Lib.hid ht
  have HB0 := Lib.hid hB0
  have HP0 := Lib.hid hP0
  have HW := Lib.hid hW0
  have HH := Lib.hid hH
  have HS0 := Lib.hid hs0
  obtain ⟨T, hT⟩ : ∃ T, (⟨(joinW (actL k u)).toArray⟩ : ByteArray) = T := ⟨_, rfl⟩
  rw [hT] at KA
  have HT := Lib.hid hT
  clear hl hm hnl hW0 hB0 hP0 hs0 ht hT
  go_enter Tryz.func28, Tryz.ntmps28
  go_upto_region 1 with fail
  rw [HW.out]
  (try rw [hH])
  clear hH
  go_wp2_with fail
  refine KA.out.mono ?_
  rintro e w1 ⟨rfl, hB1⟩
  obtain ⟨Z, hZ⟩ : ∃ Z, w1.heap.size = Z := ⟨_, rfl⟩
  have hZH : H + 1 ≤ Z := by rw [← hZ, ← HS0.out]; exact hB1.size
  obtain ⟨W1, hW1⟩ : ∃ W, w1.alloc (.cells #[.string ⟨#[100, 101, 102, 97, 117, 108, 116]⟩, .string T] 9) = W := ⟨_, rfl⟩
  have hb11 : Below Z w1 W1 := by rw [← hW1, ← hZ]; exact (Below.refl _ _).alloc (Nat.le_refl _) _
  have hz1 : RowC W1 Z #[.string ⟨#[100, 101, 102, 97, 117, 108, 116]⟩, .string T] 9 := by rw [← hW1, ← hZ]; exact RowC.new _ _ _ _ rfl
  have hs1 : W1.heap.size = Z + 1 := by rw [← hW1, ← hZ]; simp
  obtain ⟨W2, hW2⟩ : ∃ W, W1.alloc (.cells #[.int .i64 0, .slice (some ⟨Z, 0, none⟩) 2 2] 97) = W := ⟨_, rfl⟩
  have hb12 : Below (Z + 1) W1 W2 := by rw [← hW2, ← hs1]; exact (Below.refl _ _).alloc (Nat.le_refl _) _
  have hown2 : OwnC W2 (H + 1) 97 2 (some ⟨Z + 1, 0, none⟩) 1 1 (lcell [⟨0, Z, 2, [dfW.data.toList, joinW (actL k u)]⟩]) := by
    rw [← hW2, ← hs1]
    exact own_line W1 (H + 1) (by omega) ⟨0, Z, 2, [dfW.data.toList, joinW (actL k u)]⟩
  have hlr2 : LR W2 [⟨0, Z, 2, [dfW.data.toList, joinW (actL k u)]⟩] := fun y hy => by
    rw [List.mem_singleton] at hy
    subst hy
    refine ⟨List.cons_ne_nil _ _, Nat.le_refl _, ?_⟩
    refine (WR.two (w := W1) ?_).below hb12 (Nat.lt_succ_self _)
    rw [HT.out]
    exact hz1
  have hB2 : Below H w W2 := HB0.out.trans ((hB1.trans ((hb11.mono (by rw [← hZ]; exact hB1.size)).trans (hb12.mono (by rw [← hs1, HS0.out]; omega)))).mono (by rw [HS0.out]; omega))
  have hP2 : RowC W2 H (polA k u x A n c) 31 := ((HP0.out.below hB1 HP0.out.lt).below hb11 (by omega)).below hb12 (by omega)
  have p2 := hP2.cell 2 (.bool x) rfl
  have HO2 := Lib.hid (And.intro hown2 hlr2)
  have HB2 := Lib.hid hB2
  have HP2 := Lib.hid hP2
  have hs2 : Z + 2 = W2.heap.size := by rw [← hW2]; simp [hs1]
  have HS2 := Lib.hid hs2
  have HW1 := Lib.hid hW1
  have HW2 := Lib.hid hW2
  have HS1 := Lib.hid hs1
  clear hB1 hb11 hz1 hs1 hb12 hown2 hlr2 hB2 hP2 hs2 hW1 hW2 KA p0 p1
  go_upto_region 2 with fail
  (try rw [hZ])
  rw [HW1.out]
  (try rw [HW2.out])
  clear hZ
  have HZH := Lib.hid hZH
  obtain ⟨hdr, hhdr⟩ : ∃ h, chunkL k u x [] = h := ⟨_, rfl⟩
  have HHD := Lib.hid hhdr
  clear hhdr
  cases x
  case' false =>
    go_upto_region 4 with fail
    obtain ⟨ls0, hls0⟩ : ∃ ls0 : List Ln, [⟨0, Z, 2, [dfW.data.toList, joinW (actL k u)]⟩] = ls0 := ⟨_, rfl⟩
    obtain ⟨V0, hV0⟩ : ∃ V, Value.slice (some ⟨Z + 1, 0, none⟩) 1 1 = V := ⟨_, rfl⟩
    have HV : Hid (∃ A3 c3, V0 = .slice A3 ls0.length c3 ∧ OwnC W2 (H + 1) 97 2 A3 ls0.length c3 (lcell ls0) ∧ LR W2 ls0 ∧ ls0.map (·.ws) = hdr ∧ ls0.length ≤ 2) := Lib.hid (by
      rw [← hls0, ← hV0]
      exact ⟨_, _, rfl, HO2.out.1, HO2.out.2, HHD.out, by simp⟩)
    rw [hV0]
    have HB3 := HB2
    have HP3 := HP2
    have HS3 : Hid (H + 1 ≤ W2.heap.size) := Lib.hid (by have := HS2.out; have := HZH.out; omega)
    clear hls0 hV0 HS2 HW1 HW2 HB2 HP2
    rename World => W3
  case' true =>
    obtain ⟨S, hS⟩ : ∃ S, W2.heap.size = S := ⟨_, rfl⟩
    have hSH : H + 3 ≤ S := by rw [← hS, ← HS2.out]; have := HZH.out; omega
    obtain ⟨V1, hV1⟩ : ∃ V, W2.alloc (.cells #[.string ⟨#[120, 51, 50]⟩, .string ⟨#[111, 110]⟩] 9) = V := ⟨_, rfl⟩
    have hv1 : RowC V1 S #[.string ⟨#[120, 51, 50]⟩, .string ⟨#[111, 110]⟩] 9 := by rw [← hV1, ← hS]; exact RowC.new _ _ _ _ rfl
    have hbv1 : Below S W2 V1 := by rw [← hV1, ← hS]; exact (Below.refl _ _).alloc (Nat.le_refl _) _
    have hsv1 : V1.heap.size = S + 1 := by rw [← hV1, ← hS]; simp
    obtain ⟨V2, hV2⟩ : ∃ V, V1.alloc (.cells #[.int .i64 0, .slice (some ⟨S, 0, none⟩) 2 2] 97) = V := ⟨_, rfl⟩
    have hbv2 : Below (S + 1) V1 V2 := by rw [← hV2, ← hsv1]; exact (Below.refl _ _).alloc (Nat.le_refl _) _
    have hv2 : RowC V2 (S + 1) #[.int .i64 0, .slice (some ⟨S, 0, none⟩) 2 2] 97 := by rw [← hV2, ← hsv1]; exact RowC.new _ _ _ _ rfl
    have hbW : Below S W2 V2 := hbv1.trans (hbv2.mono (Nat.le_succ _))
    have HOW := Lib.hid (And.intro (HO2.out.1.below hbW (Nat.le_of_eq hS)) (HO2.out.2.below (by rw [hS]; exact hbW)))
    have hly : LR V2 [⟨0, S, 2, [x3W.data.toList, (onW true).data.toList]⟩] := fun y hy => by
      rw [List.mem_singleton] at hy
      subst hy
      exact ⟨List.cons_ne_nil _ _, Nat.le_refl _, (WR.two (w := V1) hv1).below hbv2 (Nat.lt_succ_self _)⟩
    have HLY := Lib.hid hly
    have HV2 := Lib.hid hv2
    have HBV := Lib.hid (show Below H w V2 from HB2.out.trans (hbW.mono (by omega)))
    have HPV := Lib.hid (HP2.out.below hbW (by rw [← hS]; exact HP2.out.lt))
    have hsv2 : H + 3 ≤ V2.heap.size := by have := hbv2.size; omega
    have hsz2 := Lib.hid hsv2
    have hSH' := Lib.hid hSH
    clear hv1 hbv1 hsv1 hbv2 hv2 hbW hly hSH hsv2
    subst hV2
    subst hV1
    subst hS
    go_upto_region 4 with (at_builtin; go_must (refine app_line rfl _ _ rfl (ls := [⟨0, Z, 2, [dfW.data.toList, joinW (actL k u)]⟩]) ⟨0, W2.heap.size, 2, [x3W.data.toList, (onW true).data.toList]⟩ rfl rfl HOW.out.1 HOW.out.2 rfl ⟨by decide, by decide⟩ HV2.out HLY.out (by decide) (Nat.le_trans (by omega) hsz2.out) ?_; rintro A3 c3 w5 ho5 hlr5 hb5))
    obtain ⟨ls0, hls0⟩ : ∃ ls0 : List Ln, [⟨0, Z, 2, [dfW.data.toList, joinW (actL k u)]⟩] ++ [⟨0, W2.heap.size, 2, [x3W.data.toList, (onW true).data.toList]⟩] = ls0 := ⟨_, rfl⟩
    obtain ⟨V0, hV0⟩ : ∃ V, Value.slice A3 (1 + 1) c3 = V := ⟨_, rfl⟩
    have HV : Hid (∃ A3 c3, V0 = .slice A3 ls0.length c3 ∧ OwnC w5 (H + 1) 97 2 A3 ls0.length c3 (lcell ls0) ∧ LR w5 ls0 ∧ ls0.map (·.ws) = hdr ∧ ls0.length ≤ 2) := Lib.hid (by
      rw [← hls0, ← hV0]
      exact ⟨A3, c3, rfl, ho5, hlr5, HHD.out, by simp⟩)
    rw [hV0]
    have HB3 := Lib.hid (HBV.out.trans (hb5.mono (Nat.le_succ H)))
    have HP3 : Hid (RowC w5 H (polA k u true A n c) 31) := Lib.hid (HPV.out.below hb5 (Nat.lt_succ_self H))
    have HS3 : Hid (H + 1 ≤ w5.heap.size) := Lib.hid (by have := hsz2.out; have := hb5.size; omega)
    clear hls0 hV0 ho5 hlr5 hb5 HOW HLY HV2 HBV HPV hsz2 hSH' HO2 HB2 HP2 HS2 HW1 HW2
    rename World => W3
  all_goals
    have p3 := HP3.out.cell 3 (.slice A n c) rfl
    go_wp2_with fail
    go_loopw [3, 22] (fun v i wr => ∃ (q : Nat) (A' : Option Addr) (c' m : Nat), q ≤ n ∧ i = .int .i64 q ∧ v = .slice A' m c' ∧ m ≤ q + 2 ∧ Hid (∃ ls : List Ln, ls.length = m ∧ OwnC wr (H + 1) 97 2 A' m c' (lcell ls) ∧ LR wr ls ∧ ls.map (·.ws) = hdr ++ ((l.take q).map RL.val).map pieceR ∧ Below H w wr ∧ H + 1 ≤ wr.heap.size)) (fun _ i _ => n - (intOf i).toNat)
    case atStart =>
      obtain ⟨A3, c3, hv0, ho, hl0, hc0, hlen0⟩ := HV.out
      exact ⟨0, A3, c3, ls0.length, Nat.zero_le _, rfl, hv0, by omega, Lib.hid ⟨ls0, rfl, ho, hl0, by rw [hc0]; simp, HB3.out, HS3.out⟩⟩
    case round =>
      obtain ⟨q, A', c', m, hq, rfl, rfl, hmq, HI⟩ := hrel
      by_cases hlt : q < n
      · obtain ⟨ls, hlm, hown, hlr, hch, hbw, hsz⟩ := HI.out
        have hlq : q < l.length := by rw [HNL.out]; exact hlt
        have hmem : l[q]! ∈ l := by rw [getElem!_pos l q hlq]; exact List.getElem_mem hlq
        have hRr := HRL.out.below hbw (Nat.le_of_eq HH.out)
        have hru := hRr.2 _ hmem
        rcases hRr.1 with h0 | ⟨bb, o, hA, hbl, hcs⟩
        · rw [h0] at hlq; exact absurd hlq (Nat.not_lt_zero _)
        obtain ⟨q0, q1, q2, q3⟩ := hcs q hlq
        obtain ⟨r, hr⟩ : ∃ r, l[q]! = r := ⟨_, rfl⟩
        rw [hr] at q0 q1 q2 q3 hmem hru
        rw [Nat.add_zero] at q0
        have HTK := Lib.hid (show (l.take (q + 1)).map RL.val = (l.take q).map RL.val ++ [r.val] by rw [List.take_add_one, List.getElem?_eq_getElem hlq, List.map_append, ← hr, getElem!_pos l q hlq]; rfl)
        obtain ⟨Y, hY⟩ : ∃ Y, wr.heap.size = Y := ⟨_, rfl⟩
        obtain ⟨W4, hW4⟩ : ∃ W, wr.alloc (.cells (rulA r.nm r.k r.u r.A r.n r.c) 58) = W := ⟨_, rfl⟩
        have hb4 : Below Y wr W4 := by rw [← hW4, ← hY]; exact (Below.refl _ _).alloc (Nat.le_refl _) _
        have hr4 : RowC W4 Y (rulA r.nm r.k r.u r.A r.n r.c) 58 := by rw [← hW4, ← hY]; exact RowC.new _ _ _ _ rfl
        have s0 := hr4.cell 0 (.string r.nm) rfl
        have s1 := hr4.cell 1 (.int .i64 r.k) rfl
        have s2 := hr4.cell 2 (.int .i64 r.u) rfl
        have s3 := hr4.cell 3 (.slice r.A r.n r.c) rfl
        have hbw4 : Below H w W4 := hbw.trans (hb4.mono (by rw [← hY]; omega))
        have hmr := HM.out r hmem
        have KW := Lib.hid (wordsOf_any r W4 ((hru.2.2.2.2.2.keep (KeepC.of_below hb4 (Nat.le_of_eq hY))).conA) hmr.1 hmr.2.1 hmr.2.2 (tab_on HTW.out hbw4 (Nat.le_of_eq HH.out)))
        have HO4 := Lib.hid (And.intro (hown.below hb4 (Nat.le_of_eq hY)) (hlr.below (by rw [hY]; exact hb4)))
        have HCH := Lib.hid hch
        have HLM := Lib.hid hlm
        have HBW4 := Lib.hid hbw4
        have HW4 := Lib.hid hW4
        have hsz4 := Lib.hid (show H + 1 ≤ W4.heap.size by have := hb4.size; omega)
        have i1 : (0 : Int) ≤ (q : Int) := by omega
        have i2 : (q : Int) < (n : Int) := by omega
        rw [hA]
        clear hown hlr hch hbw hsz hlq hmem hRr hru hcs hr hb4 hr4 hbw4 hmr hlm hW4 hA
        go_upto_region 7 with fail
        (try rw [hY])
        rw [HW4.out]
        clear hY q0 q1 q2 q3
        go_wp2_with fail
        refine KW.out.mono ?_
        rintro e w5 ⟨b5, c5, rfl, hc5, hwr5, hb5, hB5⟩
        have hly5 : LR w5 [⟨0, b5, c5, pieceR r.val⟩] := fun z hz => by
          rw [List.mem_singleton] at hz
          subst hz
          exact ⟨List.cons_ne_nil _ _, hc5, hwr5⟩
        have HLY5 := Lib.hid hly5
        have HO5 := Lib.hid (And.intro (HO4.out.1.below hB5 (Nat.le_refl _)) (HO4.out.2.below hB5))
        have hs5 : H + 1 ≤ w5.heap.size := Nat.le_trans hsz4.out hB5.size
        have hs4 : H ≤ W4.heap.size := Nat.le_trans (Nat.le_succ H) hsz4.out
        have HB5 := Lib.hid (HBW4.out.trans (hB5.mono hs4))
        clear hly5 hB5 hwr5 hb5 hc5 s0 s1 s2 s3 p2 p3
        go_wp2_with (at_builtin; go_must (refine app_line rfl _ _ rfl (ls := ls) ⟨0, b5, c5, pieceR r.val⟩ rfl HLM.out (HO5.out.1.alloc _) (HO5.out.2.alloc _) rfl ⟨by decide, by decide⟩ (RowC.new _ _ _ _ rfl) (HLY5.out.alloc _) (by omega) (by simp; omega) ?_; rintro A6 c6 w6 ho6 hlr6 hb6))
        have hs6 := hb6.size
        simp only [World.size_alloc] at hs6
        exact ⟨⟨q + 1, A6, c6, m + 1, by omega, by go_num, rfl, by omega, Lib.hid ⟨ls ++ [⟨0, b5, c5, pieceR r.val⟩], by simp [HLM.out], ho6, hlr6, by rw [List.map_append, HCH.out, HTK.out, List.map_append, List.append_assoc]; rfl, (HB5.out.alloc (show H ≤ w5.heap.size by omega) _).trans (hb6.mono (Nat.le_succ H)), by omega⟩⟩, by simp [intOf]; omega⟩
      · obtain rfl : q = n := by omega
        obtain ⟨ls, hlm, hown, hlr, hch, hbw, hsz⟩ := HI.out
        have htk : l.take q = l := List.take_of_length_le (by rw [HNL.out]; exact Nat.le_refl _)
        go_wp2
        go_ret
        subst hlm
        exact ⟨A', c', ls, rfl, hown.lower (by rw [HH.out]; omega), hlr, by rw [hch, htk, chunk_split, HHD.out], by rw [HH.out]; exact hbw⟩
end Go.Proofs.YtlpcallgkciklaaGreatDoor

/-
  Layer 14: policy.Print.
-/
namespace Go.Proofs.YtlpcallgkciklaaGreatDoor
open Go.RowKit Go.Shelf
set_option linter.unusedVariables false

theorem dec_short {v : Nat} (h : v ≤ 18446744073709551615) : (Lib.decDigits v).length ≤ 30 := by
  have h1 := nDigits_le v (by omega)
  rw [← Lib.decDigits_length] at h1
  omega
theorem kw_short (j : Nat) : (kwA j).data.toList.length ≤ 30 := by
  have h := kw_size j
  have e : (kwA j).data.toList.length = (kwA j).size := Array.length_toList
  omega
theorem sg_short (j : Nat) : (sgO j).data.toList.length ≤ 30 := by
  have h := sgO_size j
  have e : (sgO j).data.toList.length = (sgO j).size := Array.length_toList
  omega
theorem act_short {k u : Int} (h : actB k u = true) : (actL k u).length ≤ 2 ∧ ∀ w ∈ actL k u, w.length ≤ 30 := by
  obtain ⟨j, hj, rfl, hm⟩ := actB_ok h
  unfold mayA at hm
  simp only [Bool.and_eq_true, decide_eq_true_eq] at hm
  have hmo := mostA_le j
  unfold actL
  split
  · refine ⟨by simp, fun w hw => ?_⟩
    simp only [List.mem_cons, List.not_mem_nil, or_false] at hw
    rcases hw with rfl | rfl
    · exact kw_short _
    · exact dec_short (by omega)
  · refine ⟨by simp, fun w hw => ?_⟩
    simp only [List.mem_cons, List.not_mem_nil, or_false] at hw
    subst hw
    exact kw_short _
theorem cnd_short {c : CD} (hm : c.m ≤ 18446744073709551615) (hv : c.v ≤ 18446744073709551615) : (cndL c).length ≤ 5 ∧ ∀ w ∈ cndL c, w.length ≤ 30 := by
  unfold cndL
  split
  · refine ⟨by simp, fun w hw => ?_⟩
    simp only [List.mem_cons, List.not_mem_nil, or_false] at hw
    rcases hw with rfl | rfl | rfl | rfl | rfl
    · simp
    · exact sg_short _
    · exact dec_short hm
    · decide
    · exact dec_short hv
  · refine ⟨by simp, fun w hw => ?_⟩
    simp only [List.mem_cons, List.not_mem_nil, or_false] at hw
    rcases hw with rfl | rfl | rfl
    · simp
    · exact sg_short _
    · exact dec_short hv
theorem cnds_short : ∀ (L : List CD) (j : Nat), (∀ c ∈ L, c.m ≤ 18446744073709551615 ∧ c.v ≤ 18446744073709551615) → (cndsL j L).length ≤ 6 * L.length ∧ ∀ w ∈ cndsL j L, w.length ≤ 30
  | [], j, _ => ⟨Nat.le_refl _, fun w hw => by cases hw⟩
  | c :: t, j, h => by
    have h1 := cnd_short (h c (List.mem_cons_self ..)).1 (h c (List.mem_cons_self ..)).2
    have h2 := cnds_short t (j + 1) (fun z hz => h z (List.mem_cons_of_mem _ hz))
    unfold cndsL
    refine ⟨by simp only [List.length_cons, List.length_append]; omega, fun w hw => ?_⟩
    rcases List.mem_cons.1 hw with rfl | hw
    · unfold aheadW
      split <;> decide
    · rcases List.mem_append.1 hw with hw | hw
      · exact h1.2 w hw
      · exact h2.2 w hw
theorem rul_short {r : RV} (h : mayV r = true) (hs : SmallV r) : (rulL r).length ≤ 39 ∧ ∀ w ∈ rulL r, w.length ≤ 30 := by
  unfold mayV at h
  simp only [Bool.and_eq_true, decide_eq_true_eq, List.all_eq_true] at h
  obtain ⟨h1, h2, h3, h4⟩ := h
  have a := act_short h2
  have b := cnds_short r.L 0 hs
  unfold rulL
  refine ⟨by simp only [List.length_cons, List.length_append]; omega, fun w hw => ?_⟩
  rcases List.mem_cons.1 hw with rfl | hw
  · have e : r.nm.data.toList.length = r.nm.size := Array.length_toList
    have := (nameB_nm h1).2.1
    omega
  · rcases List.mem_append.1 hw with hw | hw
    · exact a.2 w hw
    · exact b.2 w hw
theorem pol_short {k u : Int} (x : Bool) {L : List RV} (h : rightV k u L = true) (hs : ∀ r ∈ L, SmallV r) : ∀ ws ∈ polL k u x L, ws.length ≤ 39 ∧ ∀ w ∈ ws, w.length ≤ 30 := fun ws hws => by
  unfold rightV at h
  simp only [Bool.and_eq_true, decide_eq_true_eq, List.all_eq_true] at h
  obtain ⟨h1, h2, h3⟩ := h
  have a := act_short h1
  unfold polL at hws
  rcases List.mem_cons.1 hws with rfl | hws
  · refine ⟨by simp only [List.length_cons]; omega, fun w hw => ?_⟩
    rcases List.mem_cons.1 hw with rfl | hw
    · decide
    · exact a.2 w hw
  · rcases List.mem_append.1 hws with hws | hws
    · cases x with
      | false => cases hws
      | true =>
        simp only [if_true, List.mem_cons, List.not_mem_nil, or_false] at hws
        subst hws
        refine ⟨by decide, fun w hw => ?_⟩
        simp only [List.mem_cons, List.not_mem_nil, or_false] at hw
        rcases hw with rfl | rfl <;> decide
    · obtain ⟨r, hr, rfl⟩ := List.mem_map.1 hws
      exact rul_short (h3 r hr) (hs r hr)
theorem sum_short (ws : List (List UInt8)) (h : ∀ w ∈ ws, w.length ≤ 30) : (ws.map fun x => x.length + 1).sum ≤ ws.length * 31 := by
  induction ws with
  | nil => exact Nat.le_refl _
  | cons a t ih =>
    have h1 := ih fun w hw => h w (List.mem_cons_of_mem _ hw)
    have h2 := h a (List.mem_cons_self ..)
    simp only [List.map_cons, List.sum_cons, List.length_cons]
    omega
theorem joinF_short : ∀ (l : List (List (List UInt8))), (∀ ws ∈ l, ws.length ≤ 39 ∧ ∀ w ∈ ws, w.length ≤ 30) → (joinF l).length ≤ l.length * 1300
  | [], _ => Nat.le_refl _
  | ws :: t, h => by
    have h1 := joinF_short t fun z hz => h z (List.mem_cons_of_mem _ hz)
    have h2 := h ws (List.mem_cons_self ..)
    have h3 := joinW_len ws
    have h4 := sum_short ws h2.2
    have e : joinF (ws :: t) = (joinW ws ++ [10]) ++ joinF t := joinF_append [ws] t |>.trans (by simp [joinF])
    rw [e]
    simp only [List.length_append, List.length_cons, List.length_nil]
    omega
theorem polL_len (k u : Int) (x : Bool) (L : List RV) : (polL k u x L).length ≤ L.length + 2 := by
  unfold polL
  cases x <;> simp
theorem text_small {k u : Int} (x : Bool) {L : List RV} (h : rightV k u L = true) (hs : ∀ r ∈ L, SmallV r) : (joinF (polL k u x L)).length ≤ 1000000 := by
  have h1 := joinF_short _ (pol_short x h hs)
  have h2 := polL_len k u x L
  unfold rightV at h
  simp only [Bool.and_eq_true, decide_eq_true_eq] at h
  omega
theorem chunk_words {k u : Int} {x : Bool} {L : List RV} {ws : List (List UInt8)} (h : ws ∈ chunkL k u x L) (hL : ∀ r ∈ L, r.L.length ≤ 6) : ws.length ≤ 140737488355328 := by
  unfold chunkL at h
  rcases List.mem_cons.1 h with rfl | h
  · simp
  · rcases List.mem_append.1 h with h | h
    · cases x with
      | false => cases h
      | true =>
        simp only [if_true, List.mem_cons, List.not_mem_nil, or_false] at h
        subst h
        simp
    · obtain ⟨r, hr, rfl⟩ := List.mem_map.1 h
      have h1 := hL r hr
      unfold pieceR
      simp only [List.length_cons]
      rw [piecesC_len]
      omega
/-- What Print tells. -/
def PrintP (w : World) (k u : Int) (x : Bool) (L : List RV) (e : Ending) (w' : World) : Prop :=
  (∃ (s : ByteArray) (er : Int), e = .returned (.tuple #[.string s, .int .i64 er]) ∧ ((er = 0 ∧ rightV k u L = true ∧ s = ⟨(joinF (polL k u x L)).toArray⟩ ∧ s.size ≤ 65536) ∨ (er == 0) = false)) ∧ Below w.heap.size w w'

set_option maxRecDepth 100000 in
set_option maxHeartbeats 8000000 in
theorem printP_any (k u : Int) (x : Bool) (A : Option Addr) (l : List RL) (c : Nat) (w : World) (hl : RlL w A l) (hn : l.length ≤ 1000) (h12 : ∀ e ∈ l, e.n ≤ 100000) (hs : ∀ r ∈ l, SmallV r.val) (ht : TabP w) :
    Calls Tryz.prog 15 #[.agg (polA k u x A l.length c)] w (PrintP w k u x (l.map RL.val)) := by
  obtain ⟨n, hnl⟩ : ∃ n, l.length = n := ⟨_, rfl⟩
  obtain ⟨H, hH⟩ : ∃ H, w.heap.size = H := ⟨_, rfl⟩
  obtain ⟨W0, hW0⟩ : ∃ W, w.alloc (.cells (polA k u x A n c) 31) = W := ⟨_, rfl⟩
  have hB0 : Below H w W0 := by rw [← hW0, ← hH]; exact (Below.refl _ _).alloc (Nat.le_refl _) _
  have hP0 : RowC W0 H (polA k u x A n c) 31 := by rw [← hW0, ← hH]; exact RowC.new _ _ _ _ rfl
  have KR := Lib.hid (policyRight_any k u x A l c W0 (hl.below hB0 (Nat.le_of_eq hH)) hn h12)
  rw [hnl] at KR ⊢
  have p0 := hP0.cell 0 (.int .i64 k) rfl
  have p1 := hP0.cell 1 (.int .i64 u) rfl
  have p2 := hP0.cell 2 (.bool x) rfl
  have p3 := hP0.cell 3 (.slice A n c) rfl
  have HNL := Lib.hid hnl
  have HL := Lib.hid hl
  have HS := Lib.hid hs
  have HT := Lib.hid ht
  have HB0 := Lib.hid hB0
  have HP0 := Lib.hid hP0
  have HW := Lib.hid hW0
  have HH := Lib.hid hH
  obtain ⟨rv, hrv⟩ : ∃ rv, rightV k u (l.map RL.val) = rv := ⟨_, rfl⟩
  rw [hrv] at KR
  have HRV := Lib.hid hrv
  clear hnl hl hs ht hB0 hP0 hW0 hrv h12
  go_enter Tryz.func15, Tryz.ntmps15
  go_upto_region 1 with fail
  rw [HW.out]
  (try rw [hH])
  clear hH
  go_wp2_with fail
  refine KR.out.mono ?_
  rintro e w1 ⟨rfl, hB1⟩
  have HB1 := Lib.hid (show Below H w w1 from HB0.out.trans (hB1.mono (Nat.le_of_lt HP0.out.lt)))
  have HP1 := Lib.hid (HP0.out.below hB1 HP0.out.lt)
  clear hB1 p0 p1 p2 p3
  cases rv with
  | false =>
    go_wp2
    go_ret2
    exact ⟨⟨_, _, rfl, .inr rfl⟩, by rw [HH.out]; exact HB1.out⟩
  | true =>
    have p0 := HP1.out.cell 0 (.int .i64 k) rfl
    have p1 := HP1.out.cell 1 (.int .i64 u) rfl
    have p2 := HP1.out.cell 2 (.bool x) rfl
    have p3 := HP1.out.cell 3 (.slice A n c) rfl
    have hrv := HRV.out
    have hrv' := hrv
    unfold rightV at hrv'
    simp only [Bool.and_eq_true, decide_eq_true_eq, List.all_eq_true, List.length_map] at hrv'
    have KL := Lib.hid (linesOf_any k u x A l c w1 (HL.out.below HB1.out (Nat.le_of_eq HH.out)) hrv'.2.1 hrv'.1 (fun r hr => by
      have hm := hrv'.2.2 r.val (List.mem_map.2 ⟨r, hr, rfl⟩)
      refine ⟨hm, HS.out r hr, ?_⟩
      unfold mayV at hm
      simp only [Bool.and_eq_true] at hm
      have := (nameB_nm hm.1).2.1
      have e : r.val.nm = r.nm := rfl
      rw [e] at this
      omega) (tab_on HT.out HB1.out (Nat.le_of_eq HH.out)))
    rw [HNL.out] at KL
    have hsmall := text_small x hrv fun v hv => by
      obtain ⟨r, hr, rfl⟩ := List.mem_map.1 hv
      exact HS.out r hr
    have HSM := Lib.hid hsmall
    have hs1 := Lib.hid (show H ≤ w1.heap.size by rw [← HH.out]; exact HB1.out.size)
    clear hrv hrv' hsmall
    go_wp2_with fail
    refine KL.out.mono ?_
    rintro e w2 ⟨A2, c2, ls, rfl, hown, hlr, hch, hB2⟩
    have hjf : joinF (ls.map (·.ws)) = joinF (polL k u x (l.map RL.val)) := by rw [hch, join_chunks]
    have KJ := Lib.hid (join_any A2 c2 ls w2 hown.cel hlr (by rw [hjf]; have := HSM.out; omega) (fun y hy => by
      have hmem : y.ws ∈ chunkL k u x (l.map RL.val) := by rw [← hch]; exact List.mem_map.2 ⟨y, hy, rfl⟩
      exact chunk_words hmem (fun r hr => by
        have := HRV.out
        unfold rightV at this
        simp only [Bool.and_eq_true, List.all_eq_true] at this
        have hm := this.2.2 r hr
        unfold mayV at hm
        simp only [Bool.and_eq_true, decide_eq_true_eq] at hm
        exact hm.2.2.1)))
    rw [hjf] at KJ
    obtain ⟨S, hS⟩ : ∃ S : ByteArray, ⟨(joinF (polL k u x (l.map RL.val))).toArray⟩ = S := ⟨_, rfl⟩
    rw [hS] at KJ
    have hSz : S.size ≤ 1000000 := by
      rw [← hS]
      show (joinF (polL k u x (l.map RL.val))).toArray.size ≤ _
      rw [List.size_toArray]
      exact HSM.out
    have HSE := Lib.hid hS
    have HB2 := Lib.hid (HB1.out.trans (hB2.mono hs1.out))
    have hs2 := Lib.hid (Nat.le_trans hs1.out hB2.size)
    clear hown hlr hch hB2 hjf hS p0 p1 p2 p3
    go_wp2_with fail
    refine KJ.out.mono ?_
    rintro e w3 ⟨rfl, hB3⟩
    have HB3 := Lib.hid (HB2.out.trans (hB3.mono hs2.out))
    clear hB3
    by_cases hlong : S.size ≤ 65536
    · have i1 : ¬ (65536 : Int) < (S.size : Int) := by omega
      have HLG := Lib.hid hlong
      clear hlong hSz
      go_wp2
      go_ret2
      exact ⟨⟨_, _, rfl, .inl ⟨rfl, HRV.out, HSE.out.symm, HLG.out⟩⟩, by rw [HH.out]; exact HB3.out⟩
    · have i1 : (65536 : Int) < (S.size : Int) := by omega
      clear hlong hSz
      go_wp2
      go_ret2
      exact ⟨⟨_, _, rfl, .inr rfl⟩, by rw [HH.out]; exact HB3.out⟩
end Go.Proofs.YtlpcallgkciklaaGreatDoor

/-
  Layer 14: the document's rules, appended; a rule's line more.
-/
namespace Go.Proofs.YtlpcallgkciklaaGreatDoor
open Go.RowKit Go.Shelf
set_option linter.unusedVariables false

theorem polL_split (k u : Int) (x : Bool) (L : List RV) : polL k u x L = polL k u x [] ++ L.map rulL := by
  unfold polL
  simp
theorem join_more (k u : Int) (x : Bool) (L : List RV) (r : RV) : joinF (polL k u x (L ++ [r])) = joinF (polL k u x L) ++ joinF [rulL r] := by
  rw [polL_split k u x (L ++ [r]), polL_split k u x L, List.map_append, ← List.append_assoc, joinF_append]
  rfl
theorem right_more {k u : Int} {L : List RV} {r : RV} (h : rightV k u L = true) (h1 : rightV k u [r] = true) (hl : L.length ≤ 40) : rightV k u (L ++ [r]) = true := by
  unfold rightV at *
  simp only [Bool.and_eq_true, decide_eq_true_eq, List.all_eq_true] at *
  refine ⟨h.1, by simp; omega, fun z hz => ?_⟩
  rcases List.mem_append.1 hz with hz | hz
  · exact h.2.2 z hz
  · exact h1.2.2 z hz
theorem more_small {k u : Int} (x : Bool) {L : List RV} (h : rightV k u L = true) (hs : ∀ r ∈ L, SmallV r) (hl : L.length ≤ 41) : (joinF (polL k u x L)).length ≤ 65536 := by
  have h1 := joinF_short _ (pol_short x h hs)
  have h2 := polL_len k u x L
  omega
theorem infoRuE : (Tryz.prog.info? 44).map (fun i => (i.zero, i.size, i.bytes)) = some (some (.agg #[.string ⟨#[]⟩, .int .i64 0, .int .i64 0, .slice none 0 0]), 4, 56) := by kernel_rfl
/-- The cells of the document's rules. -/
def rF (R : Nat → RL) (i : Nat) : Value := (rrow (R (i / 4))).getD (i % 4) undef
theorem rF_at (R : Nat → RL) (i j : Nat) (hj : j < 4) : rF R (i * 4 + j) = (rrow (R i)).getD j undef := by
  unfold rF
  rw [show (i * 4 + j) / 4 = i by omega, show (i * 4 + j) % 4 = j by omega]
theorem rF_one (R : Nat → RL) (i : Nat) : (rF R i).oneCell' = true := by
  unfold rF
  have h : i % 4 = 0 ∨ i % 4 = 1 ∨ i % 4 = 2 ∨ i % 4 = 3 := by omega
  rcases h with h | h | h | h <;> rw [h] <;> rfl
theorem RlA.cel {w : World} {A : Option Addr} {n c : Nat} {R : Nat → RL} (h : RlA w A n R) (hn : 0 < n) (hnc : n ≤ c) (hcm : c ≤ maxLen) : Cel w w.heap.size 4 A n c (rF R) := by
  rcases h with h0 | ⟨b, o, rfl, hlt, hc⟩
  · omega
  · refine Cel.mk_ hlt hnc hcm fun i hi => ?_
    obtain ⟨q0, q1, q2, q3, _⟩ := hc (i / 4) (by omega)
    unfold rF
    have hm : i % 4 = 0 ∨ i % 4 = 1 ∨ i % 4 = 2 ∨ i % 4 = 3 := by omega
    rcases hm with hm | hm | hm | hm <;> rw [hm]
    · rw [show o + i = o + i / 4 * 4 + 0 by omega]; exact q0
    · rw [show o + i = o + i / 4 * 4 + 1 by omega]; exact q1
    · rw [show o + i = o + i / 4 * 4 + 2 by omega]; exact q2
    · rw [show o + i = o + i / 4 * 4 + 3 by omega]; exact q3
theorem run_append_zero {P : Program} {w : World} (base : Nat) (t ty e : TypeId) (i : TypeInfo) (size : Nat) (ht : P.underlying t = some (.slice e)) (hi : P.info? e = some i) (A : Option Addr) (c : Nat)
    (v : Value) (n : Nat) (xs : List Value) (hown : w.ownsRow base e size v n xs) :
    (Builtin.append_ #[t, t] ty #[v, .slice A 0 c]).run P w = .ok v w := by
  cases A <;> rcases hown.2 with ⟨rfl, rfl⟩ | ⟨g, cap, cur, rfl, _, _, hnc, _⟩ <;>
    simp [Builtin.append_, run_underlying ht, sizeOf, typeInfo, Builtin.lenOf, Builtin.firstCells, *, storeCells, loadCells, loadCellsFrom]
/-- The document's rules appended onto none. -/
theorem step_rulesA {w : World} {ops : Array Oper} {o : Oper} {a : Act} {K : Act → World → Prop} {Q : Exit → Act → World → Prop} {Z : Prop} (hgd : o.guard = none) (s x : Operand)
    (ho : o.op = .call { callee := .builtin .append, args := #[s, x], argTypes := #[24, 24] })
    {base n d g : Nat} {A5 : Option Addr} {R : Nat → RL} {F : Nat → Value} (hs : a.eval s = .slice (some ⟨g, 0, none⟩) 0 0) (hown : OwnC w base 44 4 (some ⟨g, 0, none⟩) 0 0 F) (hx : a.eval x = .slice A5 n d) (hR : RlA w A5 n R) (hnd : n ≤ d) (hdm : d ≤ maxLen) (hn : n ≤ 1000) (hbase : base ≤ w.heap.size)
    (h : ∀ A' c' w', OwnC w' base 44 4 A' n c' (rF R) → w.grownBy w' (Value.slice (some ⟨g, 0, none⟩) 0 0).ownBlock → Below base w w' → K (a.put o.dst (.slice A' n c')) w') :
    if Region.wanted o (yielded ops a.tmps) = true then Oper.wp Tryz.prog o a w K Q else Z := by
  have hw : Region.wanted o (yielded ops a.tmps) = true := by simp [Region.wanted, hgd]
  rw [if_pos hw]
  rcases Nat.eq_zero_or_pos n with h0 | hpos
  · subst h0
    obtain ⟨i0, hi, _, _, _⟩ := info_parts infoRuE
    have hrun := run_append_zero (P := Tryz.prog) (w := w) base 24 o.type 44 i0 4 Tryz.underlying24 hi A5 d (.slice (some ⟨g, 0, none⟩) 0 0) 0 _ hown
    have hK := h (some ⟨g, 0, none⟩) 0 w (hown.congr fun i hi => by omega) (World.grownBy.refl _ _) (Below.refl _ _)
    unfold Oper.wp execOp
    simp only [ho, resolve, invoke, builtin, Sem.run_bind, Sem.run_pure, Result.andThen_ok, List.map_toArray, List.map_cons, List.map_nil, hs, hx, hrun]
    exact hK
  · refine wp_cells w s x 24 44 ho Tryz.underlying24 infoRuE rfl (by decide) hs hown hx (hR.cel hpos hnd hdm) (fun i _ => rF_one R i) (by unfold maxLen; omega) (by omega) hbase fun A' c' w' h1 h2 h3 => ?_
    rw [Nat.zero_add] at h1 ⊢
    exact h A' c' w' (h1.congr fun i hi => by unfold catC; rw [if_neg (by omega)]; congr 1) h2 h3
/-- .. and one more. -/
theorem step_oneA {w : World} {ops : Array Oper} {o : Oper} {a : Act} {K : Act → World → Prop} {Q : Exit → Act → World → Prop} {Z : Prop} (hgd : o.guard = none) (s x : Operand)
    (ho : o.op = .call { callee := .builtin .append, args := #[s, x], argTypes := #[24, 24] })
    {base n c g1 : Nat} {A : Option Addr} {R : Nat → RL} {r : RL} (hs : a.eval s = .slice A n c) (hown : OwnC w base 44 4 A n c (rF R)) (hx : a.eval x = .slice (some ⟨g1, 0, none⟩) 1 1) (hg1 : RowC w g1 (rrow r).toArray 44) (hn : n ≤ 1000) (hbase : base ≤ w.heap.size)
    (h : ∀ A' c' w', OwnC w' base 44 4 A' (n + 1) c' (rF fun i => if i < n then R i else r) → Below base w w' → K (a.put o.dst (.slice A' (n + 1) c')) w') :
    if Region.wanted o (yielded ops a.tmps) = true then Oper.wp Tryz.prog o a w K Q else Z := by
  have hw : Region.wanted o (yielded ops a.tmps) = true := by simp [Region.wanted, hgd]
  rw [if_pos hw]
  have hcel : Cel w (g1 + 1) 4 (some ⟨g1, 0, none⟩) 1 1 (rF fun _ => r) := Cel.mk_ (by omega) (Nat.le_refl _) (by decide) fun i hi => by
    match i, hi with
    | 0, _ => exact hg1.cell 0 _ rfl
    | 1, _ => exact hg1.cell 1 _ rfl
    | 2, _ => exact hg1.cell 2 _ rfl
    | 3, _ => exact hg1.cell 3 _ rfl
  refine wp_cells w s x 24 44 ho Tryz.underlying24 infoRuE rfl (by decide) hs hown hx hcel (fun i _ => rF_one _ i) (by unfold maxLen; omega) (by omega) hbase fun A' c' w' h1 _ h3 => ?_
  refine h A' c' w' (h1.congr fun i hi => ?_) h3
  unfold catC
  split
  · show (rrow (R (i / 4))).getD (i % 4) undef = (rrow (if i / 4 < n then R (i / 4) else r)).getD (i % 4) undef
    rw [if_pos (show i / 4 < n by omega)]
  · show (rrow r).getD ((i - n * 4) % 4) undef = (rrow (if i / 4 < n then R (i / 4) else r)).getD (i % 4) undef
    rw [if_neg (show ¬ i / 4 < n by omega), show (i - n * 4) % 4 = i % 4 by omega]
/-- Rules in a row of one's own as the document's. -/
theorem rla_of_own {w w0 : World} {base n c : Nat} {A A0 : Option Addr} {R R0 : Nat → RL} (h : OwnC w base 44 4 A n c (rF R))
    (hr : ∀ i, i < n → (R i).nm.size ≤ maxLen ∧ (Lit.int .i64 (R i).k).wf = true ∧ (Lit.int .i64 (R i).u).wf = true ∧ (R i).n ≤ (R i).c ∧ (R i).c ≤ maxLen ∧ ConA w (R i).A (R i).n (R i).C) : RlA w A n R := by
  rcases Nat.eq_zero_or_pos n with h0 | hpos
  · exact .inl h0
  · obtain ⟨b, o, rfl, hb, hc⟩ := h.cel.at_ (by omega)
    refine .inr ⟨b, o, rfl, hb, fun i hi => ?_⟩
    have hq : ∀ j, j < 4 → w.cell? ⟨b, o + i * 4 + j, none⟩ = some ((rrow (R i)).getD j undef) := fun j hj => by
      rw [← rF_at R i j hj, Nat.add_assoc]
      exact hc _ (by omega)
    exact ⟨hq 0 (by decide), hq 1 (by decide), hq 2 (by decide), hq 3 (by decide), hr i hi⟩
theorem RlA.rest {w : World} {A : Option Addr} {n : Nat} {R : Nat → RL} (h : RlA w A n R) : ∀ i, i < n → (R i).nm.size ≤ maxLen ∧ (Lit.int .i64 (R i).k).wf = true ∧ (Lit.int .i64 (R i).u).wf = true ∧ (R i).n ≤ (R i).c ∧ (R i).c ≤ maxLen ∧ ConA w (R i).A (R i).n (R i).C := fun i hi => by
  rcases h with h0 | ⟨b, o, _, _, hc⟩
  · omega
  · exact (hc i hi).2.2.2.2
theorem RlA.take {w : World} {A : Option Addr} {n m : Nat} {R : Nat → RL} (h : RlA w A n R) (hm : m ≤ n) : RlA w A m R := by
  rcases h with h0 | ⟨b, o, hA, hb, hc⟩
  · exact .inl (by omega)
  · exact .inr ⟨b, o, hA, hb, fun i hi => hc i (by omega)⟩

end Go.Proofs.YtlpcallgkciklaaGreatDoor
