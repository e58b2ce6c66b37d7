/-
  The iterator lex.each: its contract; what a text's lines are, line by line.
-/
import Derived.Test.YtieebnninhbdoaaTc
import Derived.RangeFuncNested
import Derived.RangeFuncBound
import Derived.RangeFuncCalls
import Derived.RangeFuncLeaves
import Derived.Shelf.Abstract
import Derived.Shelf.RegionOpen
import Derived.OwnWalkIn
import Derived.TacticsInMore
import Derived.LoopNIn
import Derived.LoopIn
namespace Go.Proofs.Ytieebnninhbdoaa
open Go.RowKit Go.Shelf
attribute [local go_sem] Oper.semAt_some

/-- How many lines a text has; its i-th one. -/
abbrev nl (L : List UInt8) : Nat := (lns L).length
abbrev lnAt (L : List UInt8) (i : Fin (nl L)) : List UInt8 := (lns L)[i.1]'i.2
theorem finRange_take {n k : Nat} (h : k < n) : (List.finRange n).take (k + 1) = (List.finRange n).take k ++ [⟨k, h⟩] := by
  rw [List.take_add_one]
  congr 1
  rw [List.getElem?_eq_getElem (by simpa using h)]
  simp
theorem finRange_takeAll (n : Nat) : (List.finRange n).take n = List.finRange n := List.take_of_length_le (by simp)
/-- The lines that count, of these. -/
def accL (L : List UInt8) (pre : List (Fin (nl L))) : List (Nat × List (List UInt8)) :=
  pre.foldl (fun acc i => if wds (nb (lnAt L i)) = [] then acc else acc ++ [(i.1 + 1, wds (nb (lnAt L i)))]) []
theorem accL_snoc (L : List UInt8) (pre : List (Fin (nl L))) (x : Fin (nl L)) : accL L (pre ++ [x]) = if wds (nb (lnAt L x)) = [] then accL L pre else accL L pre ++ [(x.1 + 1, wds (nb (lnAt L x)))] := by
  unfold accL
  rw [List.foldl_append]
  rfl
theorem accL_length (L : List UInt8) (pre : List (Fin (nl L))) : (accL L pre).length ≤ pre.length := by
  suffices h : ∀ (l : List (Fin (nl L))) (acc : List (Nat × List (List UInt8))), (l.foldl (fun acc i => if wds (nb (lnAt L i)) = [] then acc else acc ++ [(i.1 + 1, wds (nb (lnAt L i)))]) acc).length ≤ acc.length + l.length by
    have := h pre []
    unfold accL
    simpa using this
  intro l
  induction l with
  | nil => intro acc; exact Nat.le_refl _
  | cons x l ih =>
    intro acc
    have h1 := ih (if wds (nb (lnAt L x)) = [] then acc else acc ++ [(x.1 + 1, wds (nb (lnAt L x)))])
    have h2 : (if wds (nb (lnAt L x)) = [] then acc else acc ++ [(x.1 + 1, wds (nb (lnAt L x)))]).length ≤ acc.length + 1 := by
      split
      · omega
      · simp
    simp only [List.foldl_cons, List.length_cons]
    omega
theorem scan_acc (L : List UInt8) : ∀ k, k ≤ nl L → (∀ i : Fin (nl L), i.1 < k → (nb (lnAt L i)).all okS = true) → linesF L = scan (k + 1) ((lns L).drop k) (accL L ((List.finRange (nl L)).take k)) := by
  intro k
  induction k with
  | zero => intro _ _; rfl
  | succ k ih =>
    intro hk hok
    have hkl : k < (lns L).length := hk
    rw [ih (by omega) (fun i hi => hok i (by omega)), finRange_take (show k < nl L from hkl), accL_snoc, List.drop_eq_getElem_cons hkl]
    have h1 := hok ⟨k, hkl⟩ (by show k < k + 1; omega)
    show (if (nb ((lns L)[k]'hkl)).all okS = true then _ else _) = _
    rw [if_pos h1]
theorem lines_ok (L : List UInt8) (hok : ∀ i : Fin (nl L), (nb (lnAt L i)).all okS = true) : linesF L = (accL L (List.finRange (nl L)), 0) := by
  rw [scan_acc L (nl L) (Nat.le_refl _) (fun i _ => hok i), List.drop_eq_nil_of_le (Nat.le_refl _), finRange_takeAll]
  rfl
theorem lines_bad (L : List UInt8) (k : Fin (nl L)) (hok : ∀ i : Fin (nl L), i.1 < k.1 → (nb (lnAt L i)).all okS = true) (hb : (nb (lnAt L k)).all okS = false) : linesF L = ([], k.1 + 1) := by
  rw [scan_acc L k.1 (Nat.le_of_lt k.2) hok, List.drop_eq_getElem_cons k.2]
  show (if (nb ((lns L)[k.1]'k.2)).all okS = true then _ else _) = _
  rw [if_neg (by rw [show (nb ((lns L)[k.1]'k.2)).all okS = false from hb]; decide)]

set_option maxRecDepth 100000 in
set_option maxHeartbeats 4000000 in
theorem each1_in (N : Nat) (hn : 1 ≤ N) (s : ByteArray) (hs : s.size ≤ 4294967296) (l Bx : Nat) (J Jx : List (Fin (nl s.data.toList)) → World → Prop) (W : World) (hJ : AbidesFrom W.heap.size J)
    (hY : ∀ pre x W', J pre W' → pre.length < nl s.data.toList → YieldAt Fence.wide (N - 1) Try.prog l #[.int .i64 ((x.1 : Int) + 1), .string ⟨(lnAt s.data.toList x).toArray⟩] W' fun e W'' =>
      (e = .returned (.bool true) ∧ J (pre ++ [x]) W'' ∧ True) ∨ (e = .returned (.bool false) ∧ Jx (pre ++ [x]) W''))
    (h1 : W.cell? ⟨Bx, 0, none⟩ = some (.string s)) (h0 : J [] W) :
    CallsIn Fence.wide N Try.prog 34 #[.func (.yield l) #[] #[], .pointer (some ⟨Bx, 0, none⟩)] W fun e W' => (∃ v, e = .returned v) ∧
      ((∃ ys, ys = List.finRange (nl s.data.toList) ∧ J ys W') ∨ (∃ pre, pre <+: List.finRange (nl s.data.toList) ∧ Jx pre W')) := by
  have hro : (Fence.wide).round = none := rfl
  have hnl : 1 ≤ nl s.data.toList := (lns_length s.data.toList).1
  have hnl2 : nl s.data.toList ≤ s.data.toList.length + 1 := (lns_length s.data.toList).2
  have hsz : s.data.toList.length = s.size := Array.length_toList
  refine callsIn_of_wp Try.func34 rfl trivial ?_ hro
  simp only [Try.ntmps34, List.size_toArray, List.length_cons, List.length_nil, Nat.reduceAdd, Nat.reduceSub, Array.replicate_succ, Array.replicate_zero, List.push_toArray, List.append_toArray, List.nil_append, List.cons_append]
  gi_wp2
  gi_loopw [3, 4, 5] (fun r m i wr => ∃ (k : Nat) (R : ByteArray), k ≤ nl s.data.toList ∧ r = .string R ∧ R.size ≤ s.size ∧ m = .bool (decide (k < nl s.data.toList)) ∧ i = .int .i64 ((k + 1 : Nat) : Int) ∧ (k < nl s.data.toList → lns R.data.toList = (lns s.data.toList).drop k) ∧ J ((List.finRange (nl s.data.toList)).take k) wr)
    (fun _ _ i _ => nl s.data.toList + 1 - (intOf i).toNat)
  case atStart =>
    refine ⟨0, s, Nat.zero_le _, rfl, Nat.le_refl _, ?_, rfl, fun _ => rfl, h0⟩
    rw [decide_eq_true (by omega)]
  case round =>
    obtain ⟨k, R, hk, rfl, hRs, rfl, rfl, hR, hJs⟩ := hrel
    by_cases hlt : k < nl s.data.toList
    · have hd : decide (k < nl s.data.toList) = true := decide_eq_true hlt
      rw [hd]
      have hR' := hR hlt
      have hsnoc := finRange_take hlt
      obtain ⟨a, r, more, hcut, hla, hlr, hrs, hmr⟩ : ∃ (a r : List UInt8) (more : Bool), Lib.cut R.data.toList [10] = (a, r, more) ∧ a = lnAt s.data.toList ⟨k, hlt⟩ ∧ (more = true → lns r = (lns s.data.toList).drop (k + 1)) ∧ r.length ≤ R.size ∧ more = decide (k + 1 < nl s.data.toList) := by
        have hdr : (lns s.data.toList).drop k = lnAt s.data.toList ⟨k, hlt⟩ :: (lns s.data.toList).drop (k + 1) := List.drop_eq_getElem_cons hlt
        have hRl : R.data.toList.length = R.size := Array.length_toList
        have hl2 : ((lns s.data.toList).drop (k + 1)).length = nl s.data.toList - (k + 1) := List.length_drop
        rcases cut_one R.data.toList 10 with ⟨c1, c2⟩ | ⟨a, r, c0, c1, c2⟩
        · refine ⟨_, _, _, c2, ?_, fun h => (by cases h), Nat.zero_le _, ?_⟩
          · rw [lns_none _ c1, hdr] at hR'
            injection hR' with e1 e2
          · rw [lns_none _ c1, hdr] at hR'
            injection hR' with e1 e2
            rw [← e2] at hl2
            symm
            rw [decide_eq_false_iff_not]
            simp at hl2
            omega
        · rw [c0, lns_some _ _ c1, hdr] at hR'
          injection hR' with e1 e2
          refine ⟨_, _, _, c2, e1, fun _ => e2, ?_, ?_⟩
          · rw [← hRl, c0]
            simp
            omega
          · have := (lns_length r).1
            rw [e2, hl2] at this
            symm
            rw [decide_eq_true_iff]
            omega
      have hcc := fun w => cut_any R 10 (by omega) w
      rw [hcut] at hcc
      dsimp only at hcc
      have HRN : Hid (∀ q, J ((List.finRange (nl s.data.toList)).take k) (wr.drewN q)) := Lib.hid fun q => hJ _ wr (wr.drewN q) none hJs ⟨rfl, rfl, rfl, Nat.le_refl _, fun _ _ _ => rfl⟩ (fun r e => by cases e)
      have HLR := Lib.hid (And.intro hlr (And.intro hrs hmr))
      have HJS := Lib.hid hJs
      subst hla
      have hw1 : IntKind.i64.wrap (((k + 1 : Nat) : Int) + 1) = ((k + 1 + 1 : Nat) : Int) := by rw [IntWalk.i64_in _ (by omega)]; omega
      have hy0 := fun q => hY ((List.finRange (nl s.data.toList)).take k) ⟨k, hlt⟩ (wr.drewN q) (HRN.out q) (by simp; omega)
      rw [← hsnoc] at hy0
      have HY0 := Lib.hid hy0
      clear hcut hlr hrs hmr hR hR' hJs hy0 hsnoc hd
      gi_wp2_with (refine ⟨trivial, ?_⟩; gi_at_call 35; refine (callsIn_wide.2 (hcc _)).mono ?_; rintro e w1 ⟨rfl, q, rfl⟩; obtain ⟨fn, tmps, assign, body, hy, hRR⟩ := HY0.out q; dsimp only at hy)
      refine hRR.mono ?_
      rintro e W3 (⟨rfl, hJ3, _⟩ | ⟨rfl, hJx3⟩)
      · gi_wp2
        go_roundw
        case rel =>
          obtain ⟨hlr, hrs, hmr⟩ := HLR.out
          refine ⟨k + 1, ⟨r.toArray⟩, by omega, rfl, ?_, by rw [hmr], by go_num, fun h => hlr (by rw [hmr]; exact decide_eq_true h), hJ3⟩
          show r.toArray.size ≤ s.size
          rw [List.size_toArray]
          omega
        case measure => simp [intOf] <;> omega
      · gi_wp2
        refine bodyPost_ret (results_none rfl _ _ _) rfl ?_
        exact ⟨⟨_, rfl⟩, .inr ⟨_, List.take_prefix _ _, hJx3⟩⟩
    · obtain rfl : k = nl s.data.toList := by omega
      rw [finRange_takeAll] at hJs
      have hd : decide (nl s.data.toList < nl s.data.toList) = false := decide_eq_false (by omega)
      rw [hd]
      gi_wp2
      go_end0
      exact ⟨⟨_, rfl⟩, .inl ⟨_, rfl, hJs⟩⟩
theorem each_any (s : ByteArray) (w : World) : Calls Try.prog 21 #[.string s] w fun e w' => e = .returned (.func (.func 34) #[] #[.pointer (some ⟨w.heap.size, 0, none⟩)]) ∧ w' = w.alloc (.cells #[.string s] 9) := by
  go_enter Try.func21, Try.ntmps21
  go_wp2
  go_ret
  exact ⟨rfl, rfl⟩
end Go.Proofs.Ytieebnninhbdoaa
