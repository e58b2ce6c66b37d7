/-
  The numbers of a row, each with the place it counts in: layer 11's placed; sets of such pairs as a map has them.
-/
import Derived.Test.YtlpcallgkciklaaGreatDoorUa
import Derived.Test.YtlpcallgkciklaaGreatDoorSm
import Derived.Laws.StructEq
namespace Go.Proofs.YtlpcallgkciklaaGreatDoor
open Go.RowKit
set_option linter.unusedVariables false

def plN (r : SR) : Nat → List (Int × Int)
  | 0 => []
  | k + 1 => plN r k ++ (if numI r k = -1 then [] else [((k : Int), numI r k)])
/-- A row's numbers, each with the place it counts in. -/
def plc (r : SR) : List (Int × Int) := plN r 5 ++ (if r.mx = 0 then [] else [(5 + r.mx, r.sb)])
def pcell (L : List (Int × Int)) (q : Nat) : Value := if q % 2 = 0 then .int .i64 (L.getD (q / 2) (0, 0)).1 else .int .i64 (L.getD (q / 2) (0, 0)).2
theorem pcell_one (L : List (Int × Int)) (q : Nat) : (pcell L q).oneCell' = true := by unfold pcell; split <;> rfl
theorem plN_len (r : SR) (k : Nat) : (plN r k).length ≤ k := by
  induction k with
  | zero => simp [plN]
  | succ k ih =>
    rw [plN, List.length_append]
    split <;> simp <;> omega
theorem pcell_cat (L : List (Int × Int)) (p : Int × Int) : ∀ i, i < (L.length + 1) * 2 → catC (L.length * 2) (pcell L) (fun c => if c = 0 then .int .i64 p.1 else .int .i64 p.2) i = pcell (L ++ [p]) i := fun i hi => by
  unfold catC pcell
  by_cases h : i < L.length * 2
  · rw [if_pos h]
    have h2 : i / 2 < L.length := by omega
    simp only [List.getD_eq_getElem?_getD, List.getElem?_append_left h2]
  · rw [if_neg h]
    show (if i - L.length * 2 = 0 then (Value.int .i64 p.1) else .int .i64 p.2) = _
    have h2 : i / 2 = L.length := by omega
    have e : (L ++ [p]).getD (i / 2) (0, 0) = p := by
      rw [h2, List.getD_eq_getElem?_getD, List.getElem?_append_right (Nat.le_refl _)]
      simp
    rw [e]
    by_cases h3 : i % 2 = 0
    · rw [if_pos h3, if_pos (by omega)]
    · rw [if_neg h3, if_neg (by omega)]
theorem infoP2 : (Tryz.prog.info? 181).map (fun i => (i.zero, i.size, i.bytes)) = some (some (.agg #[.int .i64 0, .int .i64 0]), 2, 16) := by kernel_rfl
theorem one_pair (w : World) (a b : Int) (E : TypeId) : Cel (w.alloc (.cells #[.int .i64 a, .int .i64 b] E)) (w.heap.size + 1) 2 (some ⟨w.heap.size, 0, none⟩) 1 1 (fun c => if c = 0 then .int .i64 a else .int .i64 b) :=
  Cel.mk_ (by omega) (by decide) (by decide) (fun c hc => by
    rw [Nat.zero_add]
    have rr := RowC.new w #[.int .i64 a, .int .i64 b] E _ rfl
    have h : c = 0 ∨ c = 1 := by omega
    rcases h with rfl | rfl
    all_goals exact rr.cell _ _ rfl)
theorem idx5 (r : SR) (k : Nat) (hk : k < 5) (W : World) : (Instr.index 63 (.agg #[.int .i64 r.n0, .int .i64 r.n1, .int .i64 r.n2, .int .i64 r.n3, .int .i64 r.n4]) (.int .i64 (k : Nat))).run Tryz.prog W = .ok (.int .i64 (numI r k)) W := by
  have hc : k = 0 ∨ k = 1 ∨ k = 2 ∨ k = 3 ∨ k = 4 := by omega
  rcases hc with rfl | rfl | rfl | rfl | rfl <;> simp [Instr.index, run_underlying Tryz.underlying63, asIntOf, go_sem] <;> rfl
set_option maxRecDepth 100000 in
set_option maxHeartbeats 8000000 in
theorem placed_any (r : SR) (hm : MxP r) (w : World) : Calls Tryz.prog 101 #[.agg (srow r)] w fun e w' => ∃ A' c', e = .returned (.slice A' (plc r).length c') ∧ OwnC w' w.heap.size 181 2 A' (plc r).length c' (pcell (plc r)) ∧ Below w.heap.size w w' := by
  obtain ⟨U, hU⟩ : ∃ U, w.alloc (.cells #[.string r.nm, .int .i64 r.n0, .int .i64 r.n1, .int .i64 r.n2, .int .i64 r.n3, .int .i64 r.n4, .int .i64 r.mx, .int .i64 r.sb] 83) = U := ⟨_, rfl⟩
  have ru : RowC U w.heap.size (srow r) 83 := by rw [← hU]; exact RowC.new _ _ _ _ rfl
  have hbU : Below w.heap.size w U := by rw [← hU]; exact (Below.refl _ _).alloc (Nat.le_refl _) _
  have hsU : U.heap.size = w.heap.size + 1 := by rw [← hU]; simp
  have d1 := ru.cell 1 (.int .i64 r.n0) rfl
  have d2 := ru.cell 2 (.int .i64 r.n1) rfl
  have d3 := ru.cell 3 (.int .i64 r.n2) rfl
  have d4 := ru.cell 4 (.int .i64 r.n3) rfl
  have d5 := ru.cell 5 (.int .i64 r.n4) rfl
  have HRU := Lib.hid ru
  have HBU := Lib.hid hbU
  have HU := Lib.hid hU
  have HSU := Lib.hid hsU
  have HM := Lib.hid hm
  clear hU hbU ru hm hsU
  go_enter Tryz.func101, Tryz.ntmps101
  go_upto_region 2 with fail
  rw [HU.out]
  go_wp2_with fail
  go_loopw [3, 8] (fun v s wr => ∃ (k : Nat) (A' : Option Addr) (c' : Nat), k ≤ 5 ∧ s = .int .i64 k ∧ v = .slice A' (plN r k).length c' ∧ OwnC wr (w.heap.size + 1) 181 2 A' (plN r k).length c' (pcell (plN r k)) ∧ Below (w.heap.size + 1) U wr)
    (fun _ s _ => 5 - (intOf s).toNat)
  case atStart => exact ⟨0, none, 0, by omega, rfl, rfl, OwnC.nil_, Below.refl _ _⟩
  case round =>
    obtain ⟨k, A', c', hk, rfl, rfl, hown, hB⟩ := hrel
    have hsz : w.heap.size + 1 ≤ wr.heap.size := by have := hB.size; have := HSU.out; omega
    have HSZ := Lib.hid hsz
    have HB := Lib.hid hB
    by_cases hlt : k < 5
    · have e1 : (0 : Int) ≤ (k : Int) := by omega
      have e2 : (k : Int) < 5 := by omega
      have hix := idx5 r k hlt
      obtain ⟨y, hy⟩ : ∃ y, numI r k = y := ⟨_, rfl⟩
      rw [hy] at hix
      by_cases h1 : y = -1
      · have f1 : (y != -1) = false := by simp [h1]
        have hp : plN r (k + 1) = plN r k := by rw [plN, if_pos (hy.trans h1)]; simp
        have HP := Lib.hid hp
        have HOW := Lib.hid hown
        clear hp hy h1 hown hB hsz
        go_wp2
        exact ⟨⟨k + 1, A', c', by omega, by go_num, by rw [HP.out], by rw [HP.out]; exact HOW.out, HB.out⟩, by simp [intOf]; omega⟩
      · have f1 : (y != -1) = true := by simp [h1]
        have hp : plN r (k + 1) = plN r k ++ [((k : Int), y)] := by rw [plN, if_neg (by rw [hy]; exact h1), hy]
        have HP := Lib.hid hp
        have hl : (plN r k).length ≤ 5 := Nat.le_trans (plN_len r k) (by omega)
        have HL := Lib.hid hl
        have HOW := Lib.hid hown
        have HCT := Lib.hid (pcell_cat (plN r k) ((k : Int), y))
        obtain ⟨L, hL⟩ : ∃ L, plN r k = L := ⟨_, rfl⟩
        rw [hL] at HOW HCT HL HP ⊢
        clear hp hy h1 hown hB hsz hL hl
        go_wp2_with (at_builtin; go_must (refine app_cells _ rfl _ _ _ 181 rfl Tryz.underlying179 infoP2 rfl (by decide) rfl (HOW.out.alloc _) rfl (one_pair wr (k : Int) y 181) (fun i _ => by split <;> rfl) (by have := HL.out; unfold maxLen; omega) (by have := HL.out; omega) (by have := HSZ.out; simp; omega) (L.length + 1) rfl (pcell (L ++ [((k : Int), y)])) HCT.out ?_; rintro A2 c2 w2 hown2 hB2))
        exact ⟨⟨k + 1, A2, c2, by omega, by go_num, by rw [HP.out, List.length_append]; rfl, by rw [HP.out, List.length_append]; exact hown2, (HB.out.alloc HSZ.out _).trans hB2⟩, by simp [intOf]; omega⟩
    · obtain rfl : k = 5 := by omega
      have d6 := (HRU.out.below HB.out (by omega)).cell 6 (.int .i64 r.mx) rfl
      have d7 := (HRU.out.below HB.out (by omega)).cell 7 (.int .i64 r.sb) rfl
      have HBE : Hid (Below w.heap.size w wr) := Lib.hid (HBU.out.trans (HB.out.mono (by omega)))
      have hl : (plN r 5).length ≤ 5 := plN_len r 5
      have hown' : OwnC wr w.heap.size 181 2 A' (plN r 5).length c' (pcell (plN r 5)) := hown.lower (by omega)
      have HOW := Lib.hid hown'
      have HL := Lib.hid hl
      obtain ⟨m, hmx⟩ : ∃ m, r.mx = m := ⟨_, rfl⟩
      obtain ⟨s, hs⟩ : ∃ s, r.sb = s := ⟨_, rfl⟩
      rw [hmx] at d6
      rw [hs] at d7
      by_cases h0 : m = 0
      · have f1 : (m != 0) = false := by simp [h0]
        have hp : plc r = plN r 5 := by rw [plc, if_pos (hmx.trans h0)]; simp
        have HP := Lib.hid hp
        clear hp hmx hs h0 hown hown' hB hsz hl
        go_wp2
        go_ret
        exact ⟨A', c', by rw [HP.out] <;> first | rfl | simp, by rw [HP.out]; exact HOW.out, HBE.out⟩
      · have f1 : (m != 0) = true := by simp [h0]
        have hp : plc r = plN r 5 ++ [(5 + m, s)] := by rw [plc, if_neg (by rw [hmx]; exact h0), hmx, hs]
        have hmm : m = 1 ∨ m = 2 := by
          have := HM.out
          unfold MxP at this
          rw [hmx] at this
          omega
        have v1 : IntKind.i64.wrap (5 + m) = 5 + m := by rw [IntKind.wrap_i64]; omega
        have HP := Lib.hid hp
        have HCT := Lib.hid (pcell_cat (plN r 5) (5 + m, s))
        obtain ⟨L, hL⟩ : ∃ L, plN r 5 = L := ⟨_, rfl⟩
        rw [hL] at HOW HCT HL HP ⊢
        clear hp hmx hs h0 hmm hown hown' hB hsz hl hL
        go_wp2_with (at_builtin; go_must (refine app_cells _ rfl _ _ _ 181 rfl Tryz.underlying179 infoP2 rfl (by decide) rfl (HOW.out.alloc _) rfl (one_pair wr (5 + m) s 181) (fun i _ => by split <;> rfl) (by have := HL.out; unfold maxLen; omega) (by have := HL.out; omega) (by have := HSZ.out; simp; omega) (L.length + 1) rfl (pcell (L ++ [(5 + m, s)])) HCT.out ?_; rintro A2 c2 w2 hown2 hB2))
        go_ret
        have hsw : w.heap.size ≤ wr.heap.size := by have := HSZ.out; omega
        exact ⟨A2, c2, by rw [HP.out, List.length_append]; rfl, by rw [HP.out, List.length_append]; exact hown2, (HBE.out.alloc hsw _).trans hB2⟩
end Go.Proofs.YtlpcallgkciklaaGreatDoor
