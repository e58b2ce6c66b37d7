/-
  Layer 14: the words of a rule's line: policy.wordsOf.
-/
import Derived.Test.YtccklmleaffgiaaGreatDoorJlq
import Derived.Test.YtccklmleaffgiaaGreatDoorGoq
import Derived.Deep.RegionHeld3
namespace Go.Proofs.YtccklmleaffgiaaGreatDoor
open Go.RowKit Go.Shelf
set_option linter.unusedVariables false

/-- The pieces of the conditions from j on: words with blanks in them. -/
def piecesC : Nat → List CD → List (List UInt8)
  | _, [] => []
  | j, c :: t => (aheadW j).data.toList :: joinW (cndL c) :: piecesC (j + 1) t
def pieceR (r : RV) : List (List UInt8) := r.nm.data.toList :: joinW (actL r.k r.u) :: piecesC 0 r.L
theorem jt_app (a b : List (List UInt8)) : Lib.joinTail [32] (a ++ b) = Lib.joinTail [32] a ++ Lib.joinTail [32] b := by
  unfold Lib.joinTail
  rw [List.map_append, List.flatten_append]
theorem jt_cons (x : List UInt8) (r : List (List UInt8)) : Lib.joinTail [32] (x :: r) = 32 :: x ++ Lib.joinTail [32] r := by
  unfold Lib.joinTail
  simp
theorem joinW_tail (x : List UInt8) (r : List (List UInt8)) : joinW (x :: r) = x ++ Lib.joinTail [32] r := Lib.join_cons x r [32]
theorem jt_piece {c : List (List UInt8)} (h : c ≠ []) (r : List (List UInt8)) : Lib.joinTail [32] (joinW c :: r) = Lib.joinTail [32] (c ++ r) := by
  cases c with
  | nil => exact absurd rfl h
  | cons x t =>
    show _ = Lib.joinTail [32] (x :: (t ++ r))
    rw [jt_cons, jt_cons, joinW_tail, jt_app]
    simp
theorem actL_ne (k u : Int) : actL k u ≠ [] := by unfold actL; split <;> simp
theorem cndL_ne (c : CD) : cndL c ≠ [] := by unfold cndL; split <;> simp
theorem jt_pieces : ∀ (L : List CD) (j : Nat), Lib.joinTail [32] (piecesC j L) = Lib.joinTail [32] (cndsL j L)
  | [], j => rfl
  | c :: t, j => by
    unfold piecesC cndsL
    rw [jt_cons, jt_piece (cndL_ne c), jt_app, jt_pieces t (j + 1), jt_cons, jt_app]
theorem join_pieces (r : RV) : joinW (pieceR r) = joinW (rulL r) := by
  unfold pieceR rulL
  rw [joinW_tail, joinW_tail, jt_piece (actL_ne _ _), jt_app, jt_app, jt_pieces]
theorem piecesC_len : ∀ (L : List CD) (j : Nat), (piecesC j L).length = 2 * L.length
  | [], _ => rfl
  | c :: t, j => by
    unfold piecesC
    simp only [List.length_cons]
    rw [piecesC_len t (j + 1)]
    omega
theorem piecesC_at : ∀ (L : List CD) (j q : Nat) (h : q < L.length), (piecesC j L)[2 * q]? = some (aheadW (j + q)).data.toList ∧ (piecesC j L)[2 * q + 1]? = some (joinW (cndL L[q]!))
  | [], _, q, h => by simp at h
  | c :: t, j, q, h => by
    unfold piecesC
    cases q with
    | zero => exact ⟨rfl, rfl⟩
    | succ q =>
      simp only [List.length_cons] at h
      obtain ⟨h1, h2⟩ := piecesC_at t (j + 1) q (by omega)
      rw [show 2 * (q + 1) = 2 * q + 1 + 1 by omega]
      simp only [List.getElem?_cons_succ]
      refine ⟨?_, ?_⟩
      · rw [h1, show j + 1 + q = j + (q + 1) by omega]
      · rw [show 2 * q + 1 = (2 * q) + 1 from rfl] at h2
        rw [h2]
        simp
theorem pieceR_at (r : RV) (q : Nat) (h : q < r.L.length) : (pieceR r)[2 + 2 * q]? = some (aheadW q).data.toList ∧ (pieceR r)[2 + 2 * q + 1]? = some (joinW (cndL r.L[q]!)) := by
  have h1 := piecesC_at r.L 0 q h
  rw [Nat.zero_add] at h1
  unfold pieceR
  rw [show 2 + 2 * q = 2 * q + 1 + 1 by omega]
  simp only [List.getElem?_cons_succ]
  exact h1
theorem strs_of {ws : List (List UInt8)} {i : Nat} {x : List UInt8} (h : ws[i]? = some x) : strs ws i = .string ⟨x.toArray⟩ := by
  unfold strs
  rw [List.getD_eq_getElem?_getD, h]
  rfl
theorem two_str (w : World) (s t : ByteArray) (E : TypeId) : Cel (w.alloc (.cells #[.string s, .string t] E)) (w.heap.size + 1) 1 (some ⟨w.heap.size, 0, none⟩) 2 2 (fun i => if i = 0 then .string s else .string t) :=
  Cel.mk_ (by omega) (Nat.le_refl _) (by decide) fun i hi => by
    have hr : RowC (w.alloc (.cells #[.string s, .string t] E)) w.heap.size #[.string s, .string t] E := RowC.new _ _ _ _ rfl
    match i, hi with
    | 0, _ => exact hr.cell 0 _ rfl
    | 1, _ => exact hr.cell 1 _ rfl
theorem own_two (w : World) (base : Nat) (hb : base ≤ w.heap.size) (s t : ByteArray) (E : TypeId) (F : Nat → Value) (h0 : F 0 = .string s) (h1 : F 1 = .string t) : OwnC (w.alloc (.cells #[.string s, .string t] E)) base E 1 (some ⟨w.heap.size, 0, none⟩) 2 2 F := by
  have e : (List.range (2 * 1)).map F = [.string s, .string t] := by
    show [F 0, F 1] = _
    rw [h0, h1]
  unfold OwnC
  rw [e]
  exact ⟨by simp, .inr ⟨w.heap.size, 2, #[.string s, .string t], rfl, hb, heap_alloc_new w _, Nat.le_refl _, by decide, rfl, rfl⟩⟩
/-- A row of one's own as words of a line. -/
theorem WR.of_ownS {w : World} {base n c : Nat} {A : Option Addr} {ws : List (List UInt8)} (h : OwnC w base 9 1 A n c (strs ws)) (hn : ws.length = n) (hp : 0 < n) : ∃ b, A = some ⟨b, 0, none⟩ ∧ base ≤ b ∧ WR w b ws := by
  obtain ⟨h1, h2⟩ := h
  rcases h2 with ⟨hv, h0⟩ | ⟨gg, cap, cur, hv, hg, hh, h3, h4, h5, h6⟩
  · omega
  · injection hv with e1 e2 e3
    refine ⟨gg, e1, hg, cur, hh, fun j x hx => ?_⟩
    have hj : j < ws.length := (List.getElem?_eq_some_iff.1 hx).1
    have := congrArg (·[j]?) h6
    simp only [Nat.mul_one] at this
    rw [List.getElem?_take_of_lt (by omega), List.getElem?_map, List.getElem?_range (by omega), Option.map_some, strs_of hx] at this
    rw [← Array.getElem?_toList]
    exact this
/-- act.Text of a right action. -/
theorem actText_ok {k u : Int} (h : actB k u = true) (w : World) (ht : TabP w) : Calls Tryz.prog 37 #[.agg #[.int .i64 k, .int .i64 u]] w fun e w' => e = .returned (.string ⟨(joinW (actL k u)).toArray⟩) ∧ Below w.heap.size w w' := by
  obtain ⟨j, hj, rfl, hm⟩ := actB_ok h
  have e : ((j : Int) + 1 - 1).toNat = j := by omega
  have hm' := hm
  unfold mayA at hm'
  simp only [Bool.and_eq_true, decide_eq_true_eq] at hm'
  cases hk : knA j with
  | false =>
    have h1 := text_plain j hj u hm hk w
    have e2 : (⟨(joinW (actL ((j : Int) + 1) u)).toArray⟩ : ByteArray) = kwA j := by
      unfold actL
      rw [e, hk]
      exact (congrArg (fun z : List UInt8 => (⟨z.toArray⟩ : ByteArray)) (Lib.join_one _ _)).trans (bytes_back _)
    rw [e2]
    exact h1
  | true =>
    have h1 := text_num j hj u hm hk w ht
    have e2 : (⟨(joinW (actL ((j : Int) + 1) u)).toArray⟩ : ByteArray) = (kwA j ++ ⟨#[32]⟩) ++ ⟨(Lib.itoa u).toArray⟩ := by
      unfold actL
      rw [e, hk]
      obtain ⟨v, rfl⟩ := Int.eq_ofNat_of_zero_le hm'.1
      rw [Lib.itoa_nonneg]
      apply ByteArray.ext
      simp [joinW_tail, Lib.joinTail]
    rw [e2]
    exact h1
theorem joinV_eq : ∀ l : List (List UInt8), joinV l = joinW l
  | [] => rfl
  | [w] => (Lib.join_one _ _).symm
  | w :: x :: r => by
    rw [joinW_tail, jt_cons]
    show w ++ 32 :: joinV (x :: r) = _
    rw [joinV_eq (x :: r), joinW_tail]
    rfl
/-- cond.Text of a right condition. -/
theorem condText_ok {c : CD} (h : RiC c) (hm : c.m ≤ 18446744073709551615) (hv : c.v ≤ 18446744073709551615) (w : World) (ht : TabP w) : Calls Tryz.prog 64 #[.agg (condA c.a c.o c.m c.v)] w fun e w' => e = .returned (.string ⟨(joinW (cndL c)).toArray⟩) ∧ Below w.heap.size w w' := by
  obtain ⟨h1, h2, h3, h4, h5⟩ := h
  obtain ⟨a, o, m, v⟩ := c
  simp only at h1 h2 h3 h4 h5 hm hv
  obtain ⟨i, rfl⟩ := Int.eq_ofNat_of_zero_le h1
  by_cases h7 : o = 7
  · subst h7
    have ht5 := text5_ok i (by omega) m (by omega) v (by omega) w ht
    have e : textC i 6 m v = ⟨(joinW (cndL ⟨(i : Int), 7, m, v⟩)).toArray⟩ := by
      show (⟨(joinV (wordsL i 6 m v)).toArray⟩ : ByteArray) = _
      rw [joinV_eq]
      rfl
    rw [e] at ht5
    exact ht5
  · have hm0 : m = 0 := h5.resolve_left h7
    subst hm0
    obtain ⟨j, hj⟩ : ∃ j : Nat, o = (j : Int) + 1 := ⟨(o - 1).toNat, by omega⟩
    subst hj
    have ht3 := text3_ok i (by omega) j (by omega) v (by omega) w ht
    have e : textC i j 0 v = ⟨(joinW (cndL ⟨(i : Int), (j : Int) + 1, 0, v⟩)).toArray⟩ := by
      show (⟨(joinV (wordsL i j 0 v)).toArray⟩ : ByteArray) = _
      rw [joinV_eq]
      unfold wordsL cndL
      rw [if_neg (by omega), if_neg h7]
      simp
    rw [e] at ht3
    exact ht3

set_option maxRecDepth 100000 in
set_option maxHeartbeats 8000000 in
theorem wordsOf_any (r : RL) (w : World) (hr : ConA w r.A r.n r.C) (hm : mayV r.val = true) (hs : SmallV r.val) (hnm : r.nm.size ≤ 1000) (ht : TabP w) :
    Calls Tryz.prog 38 #[.agg (rulA r.nm r.k r.u r.A r.n r.c)] w fun e w' => ∃ b c', e = .returned (.slice (some ⟨b, 0, none⟩) (pieceR r.val).length c') ∧ (pieceR r.val).length ≤ c' ∧ WR w' b (pieceR r.val) ∧ w.heap.size ≤ b ∧ Below w.heap.size w w' := by
  have hm' := hm
  unfold mayV at hm'
  simp only [Bool.and_eq_true, decide_eq_true_eq, List.all_eq_true] at hm'
  obtain ⟨m1, m2, m3, m4⟩ := hm'
  have hLn : r.val.L.length = r.n := by simp [RL.val]
  have hL : ∀ q, q < r.n → r.val.L[q]! = r.C q := fun q hq => by
    rw [getElem!_pos _ _ (by rw [hLn]; exact hq)]
    simp [RL.val]
  have hP : ∀ q, q < r.n → (pieceR r.val)[2 + 2 * q]? = some (aheadW q).data.toList ∧ (pieceR r.val)[2 + 2 * q + 1]? = some (joinW (cndL (r.C q))) := fun q hq => by
    have := pieceR_at r.val q (by rw [hLn]; exact hq)
    rw [hL q hq] at this
    exact this
  have hC : ∀ q, q < r.n → RiC (r.C q) ∧ (r.C q).m ≤ 18446744073709551615 ∧ (r.C q).v ≤ 18446744073709551615 := fun q hq => by
    have hmem : r.C q ∈ r.val.L := List.mem_map.2 ⟨q, List.mem_range.2 hq, rfl⟩
    exact ⟨by simpa using m4 _ hmem, hs _ hmem⟩
  have hlen : (pieceR r.val).length = 2 + 2 * r.n := by
    show (piecesC 0 r.val.L).length + 1 + 1 = _
    rw [piecesC_len, hLn]
    omega
  have hp0 : strs (pieceR r.val) 0 = .string r.nm := (strs_of (x := r.nm.data.toList) rfl).trans (by rw [bytes_back])
  have hp1 : strs (pieceR r.val) 1 = .string ⟨(joinW (actL r.k r.u)).toArray⟩ := strs_of rfl
  rw [hLn] at m3
  obtain ⟨P, hPe⟩ : ∃ P, pieceR r.val = P := ⟨_, rfl⟩
  rw [hPe] at hP hlen hp0 hp1 ⊢
  obtain ⟨W0, hW0⟩ : ∃ W, w.alloc (.cells (rulA r.nm r.k r.u r.A r.n r.c) 50) = W := ⟨_, rfl⟩
  obtain ⟨H, hH⟩ : ∃ H, w.heap.size = H := ⟨_, rfl⟩
  have hB0 : Below H w W0 := by rw [← hW0, ← hH]; exact (Below.refl _ _).alloc (Nat.le_refl _) _
  have hP0 : RowC W0 H (rulA r.nm r.k r.u r.A r.n r.c) 50 := by rw [← hW0, ← hH]; exact RowC.new _ _ _ _ rfl
  have hs0 : W0.heap.size = H + 1 := by rw [← hW0, ← hH]; simp
  have p0 := hP0.cell 0 (.string r.nm) rfl
  have p1 := hP0.cell 1 (.int .i64 r.k) rfl
  have p2 := hP0.cell 2 (.int .i64 r.u) rfl
  have HS3 : Hid (∀ W, Below W0.heap.size W0 W → W.cell? ⟨H, 0, none⟩ = some (.string r.nm) ∧ W.cell? ⟨H, 1, none⟩ = some (.int .i64 r.k) ∧ W.cell? ⟨H, 2, none⟩ = some (.int .i64 r.u)) := Lib.hid fun W hW => by
    have h := hP0.below hW hP0.lt
    exact ⟨h.cell 0 _ rfl, h.cell 1 _ rfl, h.cell 2 _ rfl⟩
  have KA : Hid (∀ W, Below W0.heap.size W0 W → Calls Tryz.prog 37 #[.agg #[.int .i64 r.k, .int .i64 r.u]] W fun e w' => e = .returned (.string ⟨(joinW (actL r.k r.u)).toArray⟩) ∧ Below W.heap.size W w') := Lib.hid fun W hW => actText_ok m2 W (tab_on (tab_on ht hB0 (by omega)) hW (Nat.le_refl _))
  have hlr := hr.below hB0 (by omega)
  have HR := Lib.hid hlr
  have HRC := Lib.hid hr
  have HT := Lib.hid (tab_on ht hB0 (by omega))
  have HTW := Lib.hid ht
  have HB0 := Lib.hid hB0
  have HP0 := Lib.hid hP0
  have HW := Lib.hid hW0
  have HH := Lib.hid hH
  have HS0 := Lib.hid hs0
  have HP := Lib.hid (And.intro hP (And.intro hC hlen))
  have HPP := Lib.hid (And.intro hp0 hp1)
  obtain ⟨T, hT⟩ : ∃ T, (⟨(joinW (actL r.k r.u)).toArray⟩ : ByteArray) = T := ⟨_, rfl⟩
  rw [hT] at KA HPP
  have hbr : Below W0.heap.size W0 W0.drew := (Below.refl _ _).drew
  clear hr hm hs ht m1 m2 m4 hLn hL hP hC hlen hp0 hp1 hW0 hB0 hP0 hs0 hlr hT
  go_enter Tryz.func38, Tryz.ntmps38
  go_upto_region 1 with fail
  rw [HW.out]
  (try rw [hH])
  clear hH
  go_wp2_with fail
  go_region_held3 (fun w' => w'.cell? ⟨H, 0, none⟩ = some (.string r.nm) ∧ w'.cell? ⟨H, 1, none⟩ = some (.int .i64 r.k) ∧ w'.cell? ⟨H, 2, none⟩ = some (.int .i64 r.u))
    (first | (with_reducible exact HS3.out _ hbr) | (with_reducible exact HS3.out _ hb6) | (with_reducible exact HS3.out _ (hb6.alloc hb6.size _)) | (with_reducible exact HS3.out _ (Below.alloc hb6 hb6.size _)))
    (first
      | (go_at_call 37
         (with_reducible refine (KA.out _ hbr).mono ?_)
         rintro e w6 ⟨rfl, hB6⟩
         have hb6 : Below W0.heap.size W0 w6 := bTr hbr hB6
         clear hB6))
  obtain ⟨X, hX⟩ : ∃ X, w6.heap.size = X := ⟨_, rfl⟩
  obtain ⟨W6, hW6⟩ : ∃ W, w6.alloc (.cells #[.string r.nm, .string T] 9) = W := ⟨_, rfl⟩
  have hs6 : H + 1 ≤ X := by rw [← hX, ← HS0.out]; exact hb6.size
  have hB6 : Below W0.heap.size W0 W6 := by rw [← hW6]; exact hb6.alloc hb6.size _
  have hown6 : OwnC W6 H 9 1 (some ⟨X, 0, none⟩) 2 2 (strs P) := by
    rw [← hW6, ← hX]
    exact own_two w6 H (by omega) _ _ _ _ HPP.out.1 HPP.out.2
  have hP6 := HP0.out.below hB6 HP0.out.lt
  have p3 := hP6.cell 3 (.slice r.A r.n r.c) rfl
  have HO6 := Lib.hid hown6
  have HBW := Lib.hid (show Below H w W6 from HB0.out.trans (hB6.mono (by rw [HS0.out]; omega)))
  have HB6 := Lib.hid hB6
  (try rw [hX])
  rw [hW6]
  clear hX hW6 hs6 hB6 hown6 hP6 hb6 KA HS3
  go_wp2_with fail
  go_loopw [3, 4, 16] (fun v a i wr => ∃ (q : Nat) (A' : Option Addr) (c' : Nat), q ≤ r.n ∧ i = .int .i64 q ∧ a = .string (aheadW q) ∧ v = .slice A' (2 + 2 * q) c' ∧ Hid (OwnC wr H 9 1 A' (2 + 2 * q) c' (strs P) ∧ Below H w wr ∧ H ≤ wr.heap.size)) (fun _ _ i _ => r.n - (intOf i).toNat)
  case atStart => exact ⟨0, some ⟨X, 0, none⟩, 2, Nat.zero_le _, rfl, rfl, rfl, Lib.hid ⟨HO6.out, HBW.out, by rw [← HH.out]; exact HBW.out.size⟩⟩
  case round =>
    obtain ⟨q, A', c', hq, rfl, rfl, rfl, HI⟩ := hrel
    by_cases hlt : q < r.n
    · obtain ⟨cd, hcd⟩ : ∃ cd, r.C q = cd := ⟨_, rfl⟩
      obtain ⟨b, o, hA, q0, q1, q2, q3⟩ := (HRC.out.below HI.out.2.1 (Nat.le_of_eq HH.out)).four hlt hcd
      have hpq := HP.out.1 q hlt
      have hcq := HP.out.2.1 q hlt
      rw [hcd] at hpq hcq
      obtain ⟨W1, hW1⟩ : ∃ W, wr.alloc (.cells #[.int .i64 cd.a, .int .i64 cd.o, .int .u64 cd.m, .int .u64 cd.v] 53) = W := ⟨_, rfl⟩
      obtain ⟨Y, hY⟩ : ∃ Y, wr.heap.size = Y := ⟨_, rfl⟩
      have hb1 : Below Y wr W1 := by rw [← hW1, ← hY]; exact (Below.refl _ _).alloc (Nat.le_refl _) _
      have hr1 : RowC W1 Y #[.int .i64 cd.a, .int .i64 cd.o, .int .u64 cd.m, .int .u64 cd.v] 53 := by rw [← hW1, ← hY]; exact RowC.new _ _ _ _ rfl
      have hHY : H ≤ Y := by rw [← hY]; exact HI.out.2.2
      have c0 := hr1.cell 0 (.int .i64 cd.a) rfl
      have c1 := hr1.cell 1 (.int .i64 cd.o) rfl
      have c2 := hr1.cell 2 (.int .u64 cd.m) rfl
      have c3 := hr1.cell 3 (.int .u64 cd.v) rfl
      have hown1 := HI.out.1.below hb1 (Nat.le_of_eq hY)
      have hbw1 := HI.out.2.1.trans (hb1.mono hHY)
      have KC := Lib.hid (condText_ok hcq.1 hcq.2.1 hcq.2.2 W1 (tab_on HTW.out hbw1 (Nat.le_of_eq HH.out)))
      have HO1 := Lib.hid hown1
      have HB1 := Lib.hid hb1
      have HBW1 := Lib.hid hbw1
      have HPQ := Lib.hid hpq
      have HW1 := Lib.hid hW1
      have HY := Lib.hid hY
      have hs1 : Y ≤ W1.heap.size := by rw [← hY]; exact hb1.size
      obtain ⟨T2, hT2⟩ : ∃ T2, (⟨(joinW (cndL cd)).toArray⟩ : ByteArray) = T2 := ⟨_, rfl⟩
      rw [hT2] at KC
      have HT2 := Lib.hid hT2
      have i1 : (0 : Int) ≤ (q : Int) := by omega
      have i2 : (q : Int) < (r.n : Int) := by omega
      have hsY := Lib.hid (show Y < W1.heap.size from hr1.lt)
      clear hcd hpq hcq hW1 hb1 hr1 hown1 hbw1 hT2
      rw [hA]
      clear hA
      go_upto_region 6 with fail
      (try rw [hY])
      rw [HW1.out]
      clear hY q0 q1 q2 q3
      go_wp2_with fail
      refine KC.out.mono ?_
      rintro e w3 ⟨rfl, hB3⟩
      have HO3 := Lib.hid (HO1.out.below hB3 (Nat.le_refl _))
      have HB3 := Lib.hid (HBW1.out.trans (hB3.mono (by omega)))
      have hs3 : Y ≤ w3.heap.size := Nat.le_trans hs1 hB3.size
      have HCat : Hid (∀ i, i < (2 + 2 * (q + 1)) * 1 → catC ((2 + 2 * q) * 1) (strs P) (fun i => if i = 0 then .string (aheadW q) else .string T2) i = strs P i) := Lib.hid fun i hi => by
        unfold catC
        split
        · rfl
        · have hcase : i = 2 + 2 * q ∨ i = 2 + 2 * q + 1 := by omega
          rcases hcase with rfl | rfl
          · have e0 : 2 + 2 * q - (2 + 2 * q) * 1 = 0 := by omega
            rw [e0, strs_of HPQ.out.1, bytes_back]
            rfl
          · have e1 : 2 + 2 * q + 1 - (2 + 2 * q) * 1 = 1 := by omega
            rw [e1, strs_of HPQ.out.2, HT2.out]
            rfl
      clear hB3 hs1
      go_wp2_with (at_builtin; go_must (refine app_cells _ rfl _ _ _ 9 rfl Tryz.underlying83 infoS rfl (by decide) rfl (HO3.out.alloc _) rfl (two_str w3 _ _ 9) (fun i _ => by show (if i = 0 then Value.string (aheadW q) else Value.string T2).oneCell' = true; split <;> rfl) (by unfold maxLen; omega) (by omega) (by simp; omega) (2 + 2 * (q + 1)) (by omega) (strs P) HCat.out ?_; rintro A2 c2 w5 ho2 hb5))
      exact ⟨⟨q + 1, A2, c2, by omega, by go_num, by first | rfl | (unfold aheadW; rw [if_neg (by omega)]), rfl, Lib.hid ⟨ho2, (HB3.out.alloc (by rw [← HH.out]; exact HB3.out.size) _).trans hb5, Nat.le_trans (by omega) ((Below.refl _ _).alloc (by omega) _ |>.trans hb5).size⟩⟩, by simp [intOf]; omega⟩
    · obtain rfl : q = r.n := by omega
      go_wp2
      go_ret
      obtain ⟨b, rfl, hb, hwr⟩ := WR.of_ownS HI.out.1 HP.out.2.2 (by omega)
      exact ⟨b, c', by rw [HP.out.2.2]; rfl, by rw [HP.out.2.2]; exact HI.out.1.cel.le.1, hwr, by rw [HH.out]; exact hb, by rw [HH.out]; exact HI.out.2.1⟩
end Go.Proofs.YtccklmleaffgiaaGreatDoor
