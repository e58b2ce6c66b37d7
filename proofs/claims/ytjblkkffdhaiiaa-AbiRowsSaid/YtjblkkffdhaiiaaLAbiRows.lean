/-
  The law AbiRows holds for every input: the row of any ABI, and the ABI of any name, are the document's. No condition.
-/
import Derived.Test.YtjblkkffdhaiiaaRows
import Derived.Test.YtjblkkffdhaiiaaAg
import Derived.WalkKit
import Derived.ProofKit
import Derived.OpenShut
import Derived.ShutString
import Derived.ChangeOld
import Derived.Below
import Derived.Lib.SmallJoins
import Derived.Deep.RegionWith
import Derived.Deep.RegionHeld3
namespace Go.Proofs.Ytjblkkffdhaiiaa
open Go.RowKit

/-- The last of the first k rows that bears the name; was there one? -/
def wF (hit k : Nat) : Nat := if hit < k then hit else 0
def fF (hit k : Nat) : Bool := decide (hit < k)
theorem wF_hit (k : Nat) : wF k (k + 1) = k := by simp [wF]
theorem wF_miss (hit k : Nat) (h : ¬ k = hit) : wF hit (k + 1) = wF hit k := by
  unfold wF
  by_cases h1 : hit < k
  · rw [if_pos (by omega), if_pos h1]
  · rw [if_neg (by omega), if_neg h1]
theorem fF_hit (k : Nat) : fF k (k + 1) = true := by simp [fF]
theorem fF_miss (hit k : Nat) (h : ¬ k = hit) : fF hit (k + 1) = fF hit k := by
  unfold fF
  by_cases h1 : hit < k
  · rw [decide_eq_true h1, decide_eq_true (by omega)]
  · rw [decide_eq_false h1, decide_eq_false (by omega)]
theorem named_hit (s : ByteArray) (hit : Nat) (hh : hit ≤ 5) (HP : ∀ k, k < 5 → ((nmA k).toList == s.toList) = (k == hit)) (w : World) :
    Calls Try.prog 10 #[.string s] w fun e w' => e = .returned (.tuple #[.int .i64 (wF hit 5), .int .i64 (if fF hit 5 = true then 0 else 14)]) ∧ Below w.heap.size w w' := by
  refine (named_any s (fun x => x.1 == hit) w (fun x => HP x.1 x.2)).mono ?_
  rintro e w' ⟨v, er, h | h, rfl, hb⟩
  · obtain ⟨x, hx, rfl, rfl⟩ := h
    have hx' : x.1 = hit := by simpa using hx
    have := x.2
    refine ⟨?_, hb⟩
    rw [show wF hit 5 = x.1 from by unfold wF; rw [if_pos (by omega)]; exact hx'.symm, show fF hit 5 = true from decide_eq_true (by omega), if_pos rfl]
  · obtain ⟨h1, rfl, rfl⟩ := h
    have : ¬ hit < 5 := fun h => by have := h1 ⟨hit, h⟩; simp at this
    refine ⟨?_, hb⟩
    rw [show wF hit 5 = 0 from if_neg this, show fF hit 5 = false from decide_eq_false this]
    rfl
theorem nmA_hit (s : ByteArray) : ∃ hit, hit ≤ 5 ∧ ∀ k, k < 5 → ((nmA k).toList == s.toList) = (k == hit) := by
  by_cases h : ∃ k, k < 5 ∧ ((nmA k).toList == s.toList) = true
  · obtain ⟨k, hk, he⟩ := h
    refine ⟨k, by omega, fun j hj => ?_⟩
    have e : (nmA k).toList = s.toList := by simpa using he
    rw [← e]
    exact nmA_apart ⟨j, hj⟩ ⟨k, hk⟩ |>.trans (by simp [Fin.ext_iff, BEq.beq])
  · refine ⟨5, Nat.le_refl _, fun k hk => ?_⟩
    have h1 : ((nmA k).toList == s.toList) = false := by
      cases hb : ((nmA k).toList == s.toList)
      · rfl
      · exact absurd ⟨k, hk, hb⟩ h
    rw [h1]
    symm
    simp; omega

set_option maxRecDepth 100000 in
set_option maxHeartbeats 8000000 in
theorem rows_err {w0 : World} (a : Int) (ha : a < 0 ∨ 5 ≤ a) (s : ByteArray) (hs : s.size ≤ 50) (hit : Nat) (hh : hit ≤ 5) (HP : ∀ k, k < 5 → ((nmA k).toList == s.toList) = (k == hit)) :
    Calls Try.prog 3 #[.int .i64 a, .string s] w0 fun e w' => e = .returned (.bool true) ∧ Below w0.heap.size w0 w' := by
  have HO := Lib.hid fun W => of_err a W ha
  have HN := Lib.hid (named_hit s hit hh HP)
  have HPH := Lib.hid HP
  clear HP
  cases hf : fF hit 5
  all_goals
    rw [hf] at HN
    have HF := Lib.hid hf
    clear hf
    go_enter Try.func3, Try.ntmps3
    go_wp2_with (first
      | (go_at_call 9; refine (HO.out _).mono ?_; rintro e w1 ⟨rfl, hB1⟩; have hz1 := hB1.size; have HB1 := Lib.hid hB1; clear hB1)
      | (go_at_call 10; refine (HN.out _).mono ?_; rintro e w2 ⟨rfl, hB2⟩; have hz2 := hB2.size; have HB2 := Lib.hid hB2; clear hB2)
      | (go_at_call 11; refine (names_any _).mono ?_; rintro e w3 ⟨rfl, rfl⟩))
    have hzz : w1.heap.size + 1 ≤ w2.heap.size := by simpa using hz2
    have hb : Below w0.heap.size w0 (w2.alloc (.cells nmRow 9)) := ((HB1.out.alloc hz1 _).trans (HB2.out.mono (by simp; omega))).alloc (by omega) _
    have hr0 : RowB (w2.alloc (.cells nmRow 9)) w1.heap.size #[.string ⟨#[]⟩, .int .u32 0, .bool false, .int .i64 0] 24 := ((RowB.new w1 #[.string ⟨#[]⟩, .int .u32 0, .bool false, .int .i64 0] 24 _ rfl).below HB2.out (by simp)).alloc _
    have hr1 : RowB (w2.alloc (.cells nmRow 9)) w2.heap.size nmRow 9 := RowB.new w2 _ _ _ rfl
    have HB := Lib.hid hb
    have HR0 := Lib.hid hr0
    have HR1 := Lib.hid hr1
    clear hb hr0 hr1 hz2 hz1
    generalize hW : (w2.alloc (.cells nmRow 9)) = W at *
    clear hW
    go_loop [10, 11, 12] (fun wa fo i => ∃ k : Nat, k ≤ 5 ∧ i = .int .i64 k ∧ wa = .int .i64 (wF hit k) ∧ fo = .bool (fF hit k)) (fun _ _ i => 5 - (intOf i).toNat)
    case atStart => exact ⟨0, by omega, rfl, by simp [wF], by simp [fF]⟩
    case round =>
      obtain ⟨k, hk, rfl, rfl, rfl⟩ := hrel
      by_cases hlt : k < 5
      · have i1 : (0 : Int) ≤ (k : Int) := by omega
        have i2 : (k : Int) < 5 := by omega
        have c1 := HR1.out.cell k _ (nmRow_at k hlt)
        have hp := HPH.out k hlt
        by_cases hx : k = hit
        · subst hx
          have hp2 : ((nmA k).toList == s.toList) = true := by rw [hp]; simp
          have HW1 := Lib.hid (wF_hit k)
          have HF1 := Lib.hid (fF_hit k)
          clear hp
          go_wp2
          go_round
          case rel => exact ⟨k + 1, by omega, by go_num, by rw [HW1.out], by rw [HF1.out]⟩
          case measure => simp [intOf]; omega
        · have hp2 : ((nmA k).toList == s.toList) = false := by rw [hp]; simp [hx]
          have HW1 := Lib.hid (wF_miss hit k hx)
          have HF1 := Lib.hid (fF_miss hit k hx)
          clear hp hx
          go_wp2
          go_round
          case rel => exact ⟨k + 1, by omega, by go_num, by rw [HW1.out], by rw [HF1.out]⟩
          case measure => simp [intOf]; omega
      · obtain rfl : k = 5 := by omega
        have hf := HF.out
        have c0 := HR0.out.cell 0 _ rfl
        have c1 := HR0.out.cell 1 _ rfl
        have c2 := HR0.out.cell 2 _ rfl
        have c3 := HR0.out.cell 3 _ rfl
        go_wp2_with (go_at_call 12; refine (awake8_any _).mono ?_; rintro e w5 ⟨rfl, hB5⟩)
        all_goals go_ret
        all_goals exact ⟨rfl, HB.out.trans (hB5.mono HB.out.size)⟩

set_option maxRecDepth 100000 in
set_option maxHeartbeats 8000000 in
theorem rows_64 {w0 : World} (a : Nat) (ha : a < 5) (h2 : a ≠ 2) (s : ByteArray) (hs : s.size ≤ 50) (hit : Nat) (hh : hit ≤ 5) (HP : ∀ k, k < 5 → ((nmA k).toList == s.toList) = (k == hit)) :
    Calls Try.prog 3 #[.int .i64 a, .string s] w0 fun e w' => e = .returned (.bool true) ∧ Below w0.heap.size w0 w' := by
  have HO := Lib.hid fun W => of_ok a W ha a rfl
  have HE1 : Hid (((a : Int) == 2) = false) := Lib.hid (by simp; omega)
  have HE2 : Hid (bsA a = 64) := Lib.hid (by simp [bsA, h2])
  have HE3 : Hid (((a : Int) == 1) = btA a) := Lib.hid (by unfold btA; rw [Bool.eq_iff_iff]; simp; omega)
  clear h2
  have HN := Lib.hid (named_hit s hit hh HP)
  have HPH := Lib.hid HP
  clear HP
  cases hf : fF hit 5
  all_goals
    rw [hf] at HN
    have HF := Lib.hid hf
    clear hf
    go_enter Try.func3, Try.ntmps3
    go_wp2_with (first
      | (go_at_call 9; refine (HO.out _).mono ?_; rintro e w1 ⟨rfl, hB1⟩; have hz1 := hB1.size; have HB1 := Lib.hid hB1; clear hB1)
      | (go_at_call 10; refine (HN.out _).mono ?_; rintro e w2 ⟨rfl, hB2⟩; have hz2 := hB2.size; have HB2 := Lib.hid hB2; clear hB2)
      | (go_at_call 11; refine (names_any _).mono ?_; rintro e w3 ⟨rfl, rfl⟩))
    have hzz : w1.heap.size + 1 ≤ w2.heap.size := by simpa using hz2
    have hb : Below w0.heap.size w0 (w2.alloc (.cells nmRow 9)) := ((HB1.out.alloc hz1 _).trans (HB2.out.mono (by simp; omega))).alloc (by omega) _
    have hr0 : RowB (w2.alloc (.cells nmRow 9)) w1.heap.size (infA a) 24 := ((RowB.new w1 (infA a) 24 _ rfl).below HB2.out (by simp)).alloc _
    have hr1 : RowB (w2.alloc (.cells nmRow 9)) w2.heap.size nmRow 9 := RowB.new w2 _ _ _ rfl
    have HB := Lib.hid hb
    have HR0 := Lib.hid hr0
    have HR1 := Lib.hid hr1
    have HLT : Hid (w1.heap.size < (w2.alloc (.cells nmRow 9)).heap.size ∧ w2.heap.size < (w2.alloc (.cells nmRow 9)).heap.size) := Lib.hid ⟨hr0.lt, hr1.lt⟩
    clear hb hr0 hr1 hz2 hz1
    generalize hW : (w2.alloc (.cells nmRow 9)) = W at *
    clear hW
    go_loop [10, 11, 12] (fun wa fo i => ∃ k : Nat, k ≤ 5 ∧ i = .int .i64 k ∧ wa = .int .i64 (wF hit k) ∧ fo = .bool (fF hit k)) (fun _ _ i => 5 - (intOf i).toNat)
    case atStart => exact ⟨0, by omega, rfl, by simp [wF], by simp [fF]⟩
    case round =>
      obtain ⟨k, hk, rfl, rfl, rfl⟩ := hrel
      by_cases hlt : k < 5
      · have i1 : (0 : Int) ≤ (k : Int) := by omega
        have i2 : (k : Int) < 5 := by omega
        have c1 := HR1.out.cell k _ (nmRow_at k hlt)
        have hp := HPH.out k hlt
        by_cases hx : k = hit
        · subst hx
          have hp2 : ((nmA k).toList == s.toList) = true := by rw [hp]; simp
          have HW1 := Lib.hid (wF_hit k)
          have HF1 := Lib.hid (fF_hit k)
          clear hp
          go_wp2
          go_round
          case rel => exact ⟨k + 1, by omega, by go_num, by rw [HW1.out], by rw [HF1.out]⟩
          case measure => simp [intOf]; omega
        · have hp2 : ((nmA k).toList == s.toList) = false := by rw [hp]; simp [hx]
          have HW1 := Lib.hid (wF_miss hit k hx)
          have HF1 := Lib.hid (fF_miss hit k hx)
          clear hp hx
          go_wp2
          go_round
          case rel => exact ⟨k + 1, by omega, by go_num, by rw [HW1.out], by rw [HF1.out]⟩
          case measure => simp [intOf]; omega
      · obtain rfl : k = 5 := by omega
        have hf := HF.out
        have c0 := HR0.out.cell 0 _ rfl
        have c1 := HR0.out.cell 1 _ rfl
        have c2 := HR0.out.cell 2 _ rfl
        have c3 := HR0.out.cell 3 _ rfl
        have d1 := HR1.out.cell a _ (nmRow_at a ha)
        have e1 := HE1.out
        replace c3 : W.cell? ⟨w1.heap.size, 3, none⟩ = some (.int .i64 64) := c3.trans (by show some (Value.int .i64 ((bsA a : Nat) : Int)) = _; rw [HE2.out]; rfl)
        have e3 := HE3.out
        have i1 : (0 : Int) ≤ (a : Int) := by omega
        have i2 : (a : Int) < 5 := by omega
        go_wp2
        go_region_held3 (fun w' => w'.cell? ⟨w1.heap.size, 0, none⟩ = some (.string (nmA a)) ∧ w'.cell? ⟨w1.heap.size, 1, none⟩ = some (.int .u32 (tkA a)) ∧ w'.cell? ⟨w1.heap.size, 2, none⟩ = some (.bool (btA a)) ∧ w'.cell? ⟨w1.heap.size, 3, none⟩ = some (.int .i64 64) ∧ w'.cell? ⟨w2.heap.size, a, none⟩ = some (.string (nmA a)))
          (first
            | go_keep
            | exact ⟨(hK5.cell (p := ⟨w1.heap.size, 0, none⟩) HLT.out.1).trans c0, (hK5.cell (p := ⟨w1.heap.size, 1, none⟩) HLT.out.1).trans c1, (hK5.cell (p := ⟨w1.heap.size, 2, none⟩) HLT.out.1).trans c2, (hK5.cell (p := ⟨w1.heap.size, 3, none⟩) HLT.out.1).trans c3, (hK5.cell (p := ⟨w2.heap.size, a, none⟩) HLT.out.2).trans d1⟩
            | exact ⟨(hK.cell (p := ⟨w1.heap.size, 0, none⟩) HLT.out.1).trans c0, (hK.cell (p := ⟨w1.heap.size, 1, none⟩) HLT.out.1).trans c1, (hK.cell (p := ⟨w1.heap.size, 2, none⟩) HLT.out.1).trans c2, (hK.cell (p := ⟨w1.heap.size, 3, none⟩) HLT.out.1).trans c3, (hK.cell (p := ⟨w2.heap.size, a, none⟩) HLT.out.2).trans d1⟩
            | exact ⟨c0, c1, c2, c3, d1⟩)
          (first
            | (go_at_call 13
               (with_reducible refine (token_any a ha _).mono ?_)
               rintro e w4 ⟨rfl, hB4⟩
               have hK : Below W.heap.size W w4 := (Below.refl _ W).drew.trans hB4)
            | (go_at_call 12
               (with_reducible refine (awake8_any _).mono ?_)
               rintro e w5 ⟨rfl, hB5⟩
               have hK5 : Below W.heap.size W w5 := hK.trans (hB5.mono hK.size)))
        go_wp2
        go_ret
        exact ⟨rfl, HB.out.trans (hK5.mono HB.out.size)⟩

set_option maxRecDepth 100000 in
set_option maxHeartbeats 8000000 in
theorem rows_32 {w0 : World} (a : Nat) (ha : a < 5) (h2 : a = 2) (s : ByteArray) (hs : s.size ≤ 50) (hit : Nat) (hh : hit ≤ 5) (HP : ∀ k, k < 5 → ((nmA k).toList == s.toList) = (k == hit)) :
    Calls Try.prog 3 #[.int .i64 a, .string s] w0 fun e w' => e = .returned (.bool true) ∧ Below w0.heap.size w0 w' := by
  have HO := Lib.hid fun W => of_ok a W ha a rfl
  have HE1 : Hid (((a : Int) == 2) = true) := Lib.hid (by simp; omega)
  have HE2 : Hid (bsA a = 32) := Lib.hid (by simp [bsA, h2])
  have HE3 : Hid (((a : Int) == 1) = btA a) := Lib.hid (by unfold btA; rw [Bool.eq_iff_iff]; simp; omega)
  clear h2
  have HN := Lib.hid (named_hit s hit hh HP)
  have HPH := Lib.hid HP
  clear HP
  cases hf : fF hit 5
  all_goals
    rw [hf] at HN
    have HF := Lib.hid hf
    clear hf
    go_enter Try.func3, Try.ntmps3
    go_wp2_with (first
      | (go_at_call 9; refine (HO.out _).mono ?_; rintro e w1 ⟨rfl, hB1⟩; have hz1 := hB1.size; have HB1 := Lib.hid hB1; clear hB1)
      | (go_at_call 10; refine (HN.out _).mono ?_; rintro e w2 ⟨rfl, hB2⟩; have hz2 := hB2.size; have HB2 := Lib.hid hB2; clear hB2)
      | (go_at_call 11; refine (names_any _).mono ?_; rintro e w3 ⟨rfl, rfl⟩))
    have hzz : w1.heap.size + 1 ≤ w2.heap.size := by simpa using hz2
    have hb : Below w0.heap.size w0 (w2.alloc (.cells nmRow 9)) := ((HB1.out.alloc hz1 _).trans (HB2.out.mono (by simp; omega))).alloc (by omega) _
    have hr0 : RowB (w2.alloc (.cells nmRow 9)) w1.heap.size (infA a) 24 := ((RowB.new w1 (infA a) 24 _ rfl).below HB2.out (by simp)).alloc _
    have hr1 : RowB (w2.alloc (.cells nmRow 9)) w2.heap.size nmRow 9 := RowB.new w2 _ _ _ rfl
    have HB := Lib.hid hb
    have HR0 := Lib.hid hr0
    have HR1 := Lib.hid hr1
    have HLT : Hid (w1.heap.size < (w2.alloc (.cells nmRow 9)).heap.size ∧ w2.heap.size < (w2.alloc (.cells nmRow 9)).heap.size) := Lib.hid ⟨hr0.lt, hr1.lt⟩
    clear hb hr0 hr1 hz2 hz1
    generalize hW : (w2.alloc (.cells nmRow 9)) = W at *
    clear hW
    go_loop [10, 11, 12] (fun wa fo i => ∃ k : Nat, k ≤ 5 ∧ i = .int .i64 k ∧ wa = .int .i64 (wF hit k) ∧ fo = .bool (fF hit k)) (fun _ _ i => 5 - (intOf i).toNat)
    case atStart => exact ⟨0, by omega, rfl, by simp [wF], by simp [fF]⟩
    case round =>
      obtain ⟨k, hk, rfl, rfl, rfl⟩ := hrel
      by_cases hlt : k < 5
      · have i1 : (0 : Int) ≤ (k : Int) := by omega
        have i2 : (k : Int) < 5 := by omega
        have c1 := HR1.out.cell k _ (nmRow_at k hlt)
        have hp := HPH.out k hlt
        by_cases hx : k = hit
        · subst hx
          have hp2 : ((nmA k).toList == s.toList) = true := by rw [hp]; simp
          have HW1 := Lib.hid (wF_hit k)
          have HF1 := Lib.hid (fF_hit k)
          clear hp
          go_wp2
          go_round
          case rel => exact ⟨k + 1, by omega, by go_num, by rw [HW1.out], by rw [HF1.out]⟩
          case measure => simp [intOf]; omega
        · have hp2 : ((nmA k).toList == s.toList) = false := by rw [hp]; simp [hx]
          have HW1 := Lib.hid (wF_miss hit k hx)
          have HF1 := Lib.hid (fF_miss hit k hx)
          clear hp hx
          go_wp2
          go_round
          case rel => exact ⟨k + 1, by omega, by go_num, by rw [HW1.out], by rw [HF1.out]⟩
          case measure => simp [intOf]; omega
      · obtain rfl : k = 5 := by omega
        have hf := HF.out
        have c0 := HR0.out.cell 0 _ rfl
        have c1 := HR0.out.cell 1 _ rfl
        have c2 := HR0.out.cell 2 _ rfl
        have c3 := HR0.out.cell 3 _ rfl
        have d1 := HR1.out.cell a _ (nmRow_at a ha)
        have e1 := HE1.out
        replace c3 : W.cell? ⟨w1.heap.size, 3, none⟩ = some (.int .i64 32) := c3.trans (by show some (Value.int .i64 ((bsA a : Nat) : Int)) = _; rw [HE2.out]; rfl)
        have e3 := HE3.out
        have i1 : (0 : Int) ≤ (a : Int) := by omega
        have i2 : (a : Int) < 5 := by omega
        go_wp2
        go_region_held3 (fun w' => w'.cell? ⟨w1.heap.size, 0, none⟩ = some (.string (nmA a)) ∧ w'.cell? ⟨w1.heap.size, 1, none⟩ = some (.int .u32 (tkA a)) ∧ w'.cell? ⟨w1.heap.size, 2, none⟩ = some (.bool (btA a)) ∧ w'.cell? ⟨w1.heap.size, 3, none⟩ = some (.int .i64 32) ∧ w'.cell? ⟨w2.heap.size, a, none⟩ = some (.string (nmA a)))
          (first
            | go_keep
            | exact ⟨(hK5.cell (p := ⟨w1.heap.size, 0, none⟩) HLT.out.1).trans c0, (hK5.cell (p := ⟨w1.heap.size, 1, none⟩) HLT.out.1).trans c1, (hK5.cell (p := ⟨w1.heap.size, 2, none⟩) HLT.out.1).trans c2, (hK5.cell (p := ⟨w1.heap.size, 3, none⟩) HLT.out.1).trans c3, (hK5.cell (p := ⟨w2.heap.size, a, none⟩) HLT.out.2).trans d1⟩
            | exact ⟨(hK.cell (p := ⟨w1.heap.size, 0, none⟩) HLT.out.1).trans c0, (hK.cell (p := ⟨w1.heap.size, 1, none⟩) HLT.out.1).trans c1, (hK.cell (p := ⟨w1.heap.size, 2, none⟩) HLT.out.1).trans c2, (hK.cell (p := ⟨w1.heap.size, 3, none⟩) HLT.out.1).trans c3, (hK.cell (p := ⟨w2.heap.size, a, none⟩) HLT.out.2).trans d1⟩
            | exact ⟨c0, c1, c2, c3, d1⟩)
          (first
            | (go_at_call 13
               (with_reducible refine (token_any a ha _).mono ?_)
               rintro e w4 ⟨rfl, hB4⟩
               have hK : Below W.heap.size W w4 := (Below.refl _ W).drew.trans hB4)
            | (go_at_call 12
               (with_reducible refine (awake8_any _).mono ?_)
               rintro e w5 ⟨rfl, hB5⟩
               have hK5 : Below W.heap.size W w5 := hK.trans (hB5.mono hK.size)))
        go_wp2
        go_ret
        exact ⟨rfl, HB.out.trans (hK5.mono HB.out.size)⟩

theorem walk_AbiRows {w0 : World} (a : Int) (_ha : (Lit.int .i64 a).wf = true) (s : ByteArray) (_hm : s.size ≤ maxLen) :
    Calls Try.prog 3 #[.int .i64 a, .string s] w0 fun e w' => e = .returned (.bool true) ∧ Below w0.heap.size w0 w' := by
  by_cases hs : s.size ≤ 50
  · obtain ⟨hit, hh, HP⟩ := nmA_hit s
    by_cases h : a < 0 ∨ 5 ≤ a
    · exact rows_err a h s hs hit hh HP
    · obtain ⟨k, rfl⟩ := Int.eq_ofNat_of_zero_le (show 0 ≤ a by omega)
      by_cases h2 : k = 2
      · exact rows_32 k (by omega) h2 s hs hit hh HP
      · exact rows_64 k (by omega) h2 s hs hit hh HP
  · have hl : decide ((50 : Int) < (s.size : Int)) = true := decide_eq_true (by omega)
    go_enter Try.func3, Try.ntmps3
    go_wp2
    go_ret
    exact ⟨rfl, Below.refl _ _⟩

namespace abiRowsRow
open Go.ChangeShapes Go.WideShapes Go.ChangeAt Go.RowKit Go.Joins
open Go.ChangeMaps (open_string shut_string)
set_option linter.unusedVariables false
theorem own : ownKnob Try.prog.godebug = none := by kernel_rfl
theorem laidOut : laidOutB Try.prog = true := by kernel_rfl
set_option maxRecDepth 100000 in
theorem lifted (os : Os) (started : os.Started) (H : Type) (enc : TypeId × Value → H) :
    ReturnsInHanded {} Try.checked os 3 .any (Rows.abiRowsSpec.pre6 enc Try.prog Try.f3 Rows.abiRowsRow.domain false) (Rows.abiRowsSpec.post enc Try.prog Try.f3 false true false false) := by
  refine returnsInHanded_of_change (C := Try.checked) own started (by kernel_rfl) Try.func3
    (ChangeSpec.witness6 (enc := enc) (C := Try.checked) false ⟨#[], #[.int .i64 0, .string ⟨#[]⟩], []⟩ 8 (by kernel_rfl) (by kernel_rfl) (by kernel_rfl) (by kernel_rfl)) ?_
  intro W base args ds gs before hval0 hW hcnd _
  have hval : ∀ (j : Nat) t v, Try.f3.params[j]? = some t → args[j]? = some v → Value.okWide Try.prog W .any base t v := hval0
  have hW' := hW
  obtain ⟨p, q, hA0, hV, rfl, hfz, hnd⟩ := hW
  have hA : DataW.TrodAll enc Try.prog W 0 (fun _ => true) true Try.f3.params.toList args.toList ds p := hA0
  rw [Try.params3] at hA hval
  obtain ⟨v0, vs0, d0, ds0, p0, q0, hargs, rfl, rfl, h0, r0⟩ := trodAll_cons hA
  obtain ⟨v1, vs1, d1, ds1, p1, q1, rfl, rfl, rfl, h1, r1⟩ := trodAll_cons r0
  obtain ⟨rfl, rfl, rfl⟩ := trodAll_nil r1
  obtain rfl : args = #[v0, v1] := by cases args; simp_all
  obtain ⟨rfl, rfl⟩ := trodVars_none hV
  have k0 := h0
  have lt0 : ∀ x ∈ p0, x.block < W.heap.size := by obtain ⟨m, hm⟩ := k0; exact DataW.trod_lt m _ _ _ hm
  have k1 := h1
  have lt1 : ∀ x ∈ p1, x.block < W.heap.size := by obtain ⟨m, hm⟩ := k1; exact DataW.trod_lt m _ _ _ hm
  obtain ⟨a0, rfl, rfl, rfl, w0⟩ := open_int Try.underlying3 (hval 0 3 v0 rfl rfl) h0
  obtain ⟨s1, rfl, rfl, rfl, w1⟩ := open_string Try.underlying9 (hval 1 9 v1 rfl rfl) h1
  clear hA0 hval0
  refine (walk_AbiRows (w0 := W) a0 w0 s1 w1).mono fun e W' ⟨he, bel⟩ => ?_
  subst he
  exact ⟨_, rfl, _, _, _, [], _, [], hW', trodAll_mk1 (shut_bool Try.underlying4 _), (trodAll_cons_mk (Below.trod laidOut (by kernel_rfl) (of_decide_eq_true (by kernel_rfl)) k0 bel lt0) (trodAll_cons_mk (Below.trod laidOut (by kernel_rfl) (of_decide_eq_true (by kernel_rfl)) k1 bel lt1) trodAll_mk0)), rfl, bel.frame _, fun h => by cases h⟩

theorem over : Rows.abiRowsRow.holds Try.pinned (OpenSpec.ofChange Rows.abiRowsSpec) :=
  OpenClaim.holds_of_wide 3 Try.f3 rfl rfl rfl rfl rfl rfl rfl ⟨rfl, rfl, rfl, rfl, rfl⟩ rfl rfl rfl rfl rfl (by kernel_rfl) Try.func3 (by kernel_rfl)
    (of_decide_eq_true (by kernel_rfl)) (by unfold Func.isWrapper; first | (rw [if_pos (by decide +kernel)]; kernel_rfl) | (rw [if_neg (by decide +kernel)]; exact ⟨rfl, rfl⟩))
    (fun os started H enc _ => lifted os started H enc)
end abiRowsRow

theorem abiRows_proved : Rows.AbiRowsSaid := abiRowsRow.over
#print axioms abiRows_proved
end Go.Proofs.Ytjblkkffdhaiiaa
