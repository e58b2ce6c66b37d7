/-
  The contract of the reference's Reached of layer 4: which instructions some way leads to that stored nothing in a cell.
-/
import Derived.Test.YtmndolojfdekdaaKn
namespace Go.Proofs.Ytmndolojfdekdaa
open Go.RowKit

theorem infoBool : (Try.prog.info? 4).map (fun i => (i.zero, i.size, i.bytes)) = some (some (.bool false), 1, 1) := by kernel_rfl
theorem mk_one {t T : TypeId} {v : Value} {y : Nat} (ht : Try.prog.underlying t = some (.slice T)) (hinfo : (Try.prog.info? T).map (fun i => (i.zero, i.size, i.bytes)) = some (some v, 1, y)) (hv : v.cells = #[v]) (hy : y ≤ 8) (m : Nat) (hm : m ≤ 4096) (w : World) :
    ∃ W', (Instr.makeSlice t (.int .i64 (m : Int)) (.int .i64 (m : Int))).run Try.prog w = .ok (.slice (some ⟨w.heap.size, 0, none⟩) m m) W' ∧ OwnC W' w.heap.size T 1 (some ⟨w.heap.size, 0, none⟩) m m (fun _ => v) ∧ Below w.heap.size w W' := by
  obtain ⟨i0, hi0, hz0, hz1, hz2⟩ := info_parts hinfo
  have hmy : m * y ≤ 4096 * 8 := Nat.mul_le_mul hm hy
  have hym : (y : Int) * (m : Int) ≤ 281474976710656 := by
    have e : (y : Int) * (m : Int) = ((m * y : Nat) : Int) := by rw [Int.natCast_mul, Int.mul_comm]
    omega
  have hr := run_make (P := Try.prog) w t T i0 _ ht hi0 hz0 .i64 .i64 m m (by omega) (Int.le_refl _) (by rw [hz2]; exact hym) (by omega)
  rw [hz1] at hr
  simp only [Int.toNat_natCast] at hr
  refine ⟨_, hr, ?_, (Below.refl _ _).alloc (Nat.le_refl _) _⟩
  have hl := World.ownsRow_lit (base := w.heap.size) (e := T) (size := 1) w (madeCells v.cells (m * 1)) m (Nat.le_refl _) (by unfold maxLen; omega) (size_madeCells _ _)
  have e : (madeCells v.cells (m * 1)).toList = (List.range (m * 1)).map (fun _ => v) := by
    apply List.ext_getElem (by simp [madeCells])
    intro i h1 h2
    simp only [madeCells, Array.getElem_toList, Array.getElem_map, Array.getElem_range, List.getElem_map, hv]
    simp [Nat.mod_one]
  rw [e] at hl
  exact hl

/-- Who is reached while a place's ways are gone through: those in l are done. -/
def rl (g : Nat → IV) (c k : Nat) (l : List Nat) (i : Nat) : Bool := reach g c k i || l.any (fun x => i == x)
theorem rl_snoc (g : Nat → IV) (c k : Nat) (l : List Nat) (x i : Nat) : (if i = x then Value.bool true else Value.bool (rl g c k l i)) = Value.bool (rl g c k (l ++ [x]) i) := by
  unfold rl
  rw [List.any_append]
  by_cases h : i = x
  · have hb : (i == x) = true := by simpa using h
    rw [if_pos h]
    simp only [List.any_cons, List.any_nil, hb, Bool.or_true, Bool.true_or]
  · have hb : (i == x) = false := by simpa using h
    rw [if_neg h]
    simp only [List.any_cons, List.any_nil, hb, Bool.or_false]
theorem rl_all (g : Nat → IV) (c k i : Nat) (hk : reach g c k k = true) (hc : (isSt (g k) && (g k).k == c) = false) : rl g c k (nexts (g k) k) i = reach g c (k + 1) i := by
  unfold rl nexts
  rw [List.any_map]
  show _ = (reach g c k i || (reach g c k k && !(isSt (g k) && (g k).k == c) && (fars (g k)).any (fun f => i == k + 1 + f)))
  rw [hk, hc]
  rfl
theorem reach_skip (g : Nat → IV) (c k i : Nat) (h : (reach g c k k && !(isSt (g k) && (g k).k == c)) = false) : reach g c (k + 1) i = reach g c k i := by
  show (reach g c k i || (reach g c k k && !(isSt (g k) && (g k).k == c) && (fars (g k)).any (fun f => i == k + 1 + f))) = _
  rw [h]; simp

set_option maxRecDepth 100000 in
set_option maxHeartbeats 16000000 in
theorem refReached_any (A : Option Addr) (n c : Nat) (g : Nat → IV) (w : World) (hr : Ins w w.heap.size A n c g) (h0 : 0 < n) (h1 : n ≤ 4096)
    (hal : ∀ i, i < n → alone (g i) (n - 1 - i) = 0) (hlast : isRet (g (n - 1)) = true) (cell : Nat) (_hcell : cell ≤ 16) :
    Calls Try.prog 14 #[.slice A n c, .int .i64 cell] w fun e w' => ∃ A' c', e = .returned (.slice A' n c') ∧ OwnC w' w.heap.size 4 1 A' n c' (fun i => .bool (reach g cell n i)) ∧ Below w.heap.size w w' := by
  have HR := Lib.hid hr
  have HALL := Lib.hid hal
  have HLAST := Lib.hid hlast
  obtain ⟨w1, hmk, hown1, hB1⟩ := mk_one Try.underlying25 infoBool rfl (by decide) n h1 w
  obtain ⟨bb, eb, _, _, hcs⟩ := hown1.at_ h0
  obtain rfl : w.heap.size = bb := by injection eb with eb; injection eb
  obtain ⟨z0, f0⟩ := hcs 0 (by omega)
  have ho1 : OwnC (w1.setCell ⟨w.heap.size, 0, none⟩ (.bool true)) w.heap.size 4 1 (some ⟨w.heap.size, 0, none⟩) n n (fun i => .bool (reach g cell 0 i)) :=
    (hown1.set_ (.bool true)).congr (fun i _ => by
      show (if i = 0 then Value.bool true else Value.bool false) = Value.bool (i == 0)
      by_cases h : i = 0
      · simp [h]
      · simp [h])
  have HO1 := Lib.hid ho1
  clear hr hal hlast hcs eb hown1 ho1
  go_enter Try.func14, Try.ntmps14
  go_wp2
  go_loopw [6] (fun i wr => ∃ k : Nat, k ≤ n ∧ i = .int .i64 k ∧ OwnC wr w.heap.size 4 1 (some ⟨w.heap.size, 0, none⟩) n n (fun i => .bool (reach g cell k i)) ∧ Below w.heap.size w wr)
    (fun i _ => n - (intOf i).toNat)
  case atStart => exact ⟨0, Nat.zero_le _, rfl, HO1.out, hB1.setCell (Nat.le_refl _) _⟩
  case round =>
    obtain ⟨k, hk, rfl, hown, hB⟩ := hrel
    clear z0 f0 hmk
    have hs := hB.size
    have HO := Lib.hid hown
    by_cases hlt : k < n
    · have hv := HR.out.2 k hlt
      have HV := Lib.hid hv
      have k3 := hv.2.2.2
      obtain ⟨b, off, rfl, hb, hc⟩ := (HR.out.below hB).at_ (by omega)
      obtain ⟨q0, q1, q2, q3⟩ := hc k hlt
      obtain ⟨bb, eb, _, hS, hcs⟩ := hown.at_ h0
      obtain rfl : w.heap.size = bb := by injection eb with eb; injection eb
      obtain ⟨c0, f0⟩ := hcs k (by omega)
      obtain ⟨K, hK⟩ : ∃ K, kd (g k) = K := ⟨_, rfl⟩
      have HK := Lib.hid hK
      obtain ⟨l, hl⟩ : ∃ l, nexts (g k) k = l := ⟨_, rfl⟩
      have HL := Lib.hid hl
      have HIN : Hid (∀ x ∈ l, x < n) := Lib.hid (by
        intro x hx
        rw [← hl] at hx
        obtain ⟨f, hf, rfl⟩ := List.mem_map.1 hx
        exact fars_in g n k hlt (HALL.out k hlt) HLAST.out f hf)
      have hst : isSt (g k) = (K == 8 || K == 9) := by unfold isSt; rw [hK]
      have HST := Lib.hid hst
      obtain ⟨rk, hrk⟩ : ∃ rk, reach g cell k k = rk := ⟨_, rfl⟩
      have HRK := Lib.hid hrk
      rw [hrk] at c0
      obtain ⟨kk, hkk⟩ : ∃ kk, (g k).k = kk := ⟨_, rfl⟩
      have HKK := Lib.hid hkk
      clear hc hcs eb hown hK hl hst hrk hv
      cases rk
      · clear hkk
        go_wp2_with (first
          | (go_at_call 41
             refine (refOf_v _ HV.out _).mono ?_
             rw [HK.out]
             rintro e w2 ⟨rfl, hB2⟩
             obtain ⟨b', off', eA, hb', hc'⟩ := (HR.out.below (hB.trans (hB2.mono hs))).at_ (by omega)
             injection eA with eA
             injection eA with e1 e2
             subst e1 e2
             obtain ⟨p0, p1, p2, p3⟩ := hc' k hlt
             have c2 := (hB2.cell (p := ⟨w.heap.size, k, none⟩) hS).trans c0
             have hb2 := hB.trans (hB2.mono hs)
             have hS2 : w.heap.size < w2.heap.size := Nat.lt_of_lt_of_le hS hB2.size
             clear hc'))
        refine ⟨⟨k + 1, by omega, by go_num, (HO.out.below hB2 (Nat.le_refl _)).congr (fun i _ => ?_), hb2⟩, by simp [intOf]; omega⟩
        rw [reach_skip g cell k i (by rw [HRK.out]; rfl)]
      · cases t8 : (K == 8)
        · cases t9 : (K == 9)
          · clear hkk
            go_wp2_with (first
              | (go_at_call 41
                 refine (refOf_v _ HV.out _).mono ?_
                 rw [HK.out]
                 rintro e w2 ⟨rfl, hB2⟩
                 obtain ⟨b', off', eA, hb', hc'⟩ := (HR.out.below (hB.trans (hB2.mono hs))).at_ (by omega)
                 injection eA with eA
                 injection eA with e1 e2
                 subst e1 e2
                 obtain ⟨p0, p1, p2, p3⟩ := hc' k hlt
                 have c2 := (hB2.cell (p := ⟨w.heap.size, k, none⟩) hS).trans c0
                 have hb2 := hB.trans (hB2.mono hs)
                 have hS2 : w.heap.size < w2.heap.size := Nat.lt_of_lt_of_le hS hB2.size
                 clear hc')
              | (go_at_call 42
                 refine (refNext_any _ _ _ _ _ ((HR.out.below hb2).more hb2.size) k hlt h1).mono ?_
                 rw [HL.out]
                 rintro e w3 ⟨A2, m, rfl, hU, hB3⟩
                 have HU := Lib.hid hU
                 have hmx : m ≤ 9223372036854775807 := by have := hU.2.1.le; unfold maxLen at this; omega
                 have hb3 := hb2.trans (hB3.mono hb2.size)
                 have HO3 := Lib.hid ((HO.out.below hB2 (Nat.le_refl _)).below hB3 (Nat.le_refl _))
                 clear hU))
            go_loopw [10] (fun i wr' => ∃ j : Nat, j ≤ m ∧ i = .int .i64 j ∧ OwnC wr' w.heap.size 4 1 (some ⟨w.heap.size, 0, none⟩) n n (fun i => .bool (rl g cell k (l.take j) i)) ∧ Below w.heap.size w wr' ∧ ∀ q, q < m → ∃ b2 off2, A2 = some ⟨b2, off2, none⟩ ∧ wr'.cell? ⟨b2, off2 + q, none⟩ = some (.int .i64 ((l.getD q 0 : Nat) : Int)) ∧ w.heap.size < b2)
              (fun i _ => m - (intOf i).toNat)
            case atStart =>
              refine ⟨0, Nat.zero_le _, rfl, HO3.out.congr (fun i _ => by unfold rl; simp), hb3, fun q hq => ?_⟩
              obtain ⟨b2, off2, e2, hb2', hc2⟩ := HU.out.2.1.at_ (by omega)
              exact ⟨b2, off2, e2, hc2 q (by omega), Nat.lt_of_lt_of_le hS2 (HU.out.2.2 _ e2)⟩
            case round =>
              obtain ⟨j, hj, rfl, hown', hB', hcl⟩ := hrel
              have HCL := Lib.hid hcl
              clear hcl
              by_cases hjm : j < m
              · obtain ⟨b2, off2, rfl, c1, hgt⟩ := HCL.out j hjm
                have hlm : j < l.length := by have := HU.out.1; omega
                have hmem : l.getD j 0 ∈ l := by
                  rw [List.getD_eq_getElem?_getD, List.getElem?_eq_getElem hlm]
                  exact List.getElem_mem _
                have htk : l.take (j + 1) = l.take j ++ [l.getD j 0] := by
                  rw [List.take_add_one, List.getD_eq_getElem?_getD, List.getElem?_eq_getElem hlm]; rfl
                obtain ⟨x, ex⟩ : ∃ x, l.getD j 0 = x := ⟨_, rfl⟩
                rw [ex] at c1 hmem htk
                have hx := HIN.out x hmem
                have HTK := Lib.hid htk
                obtain ⟨bb, eb, _, _, hcs⟩ := hown'.at_ (by omega)
                obtain rfl : w.heap.size = bb := by injection eb with eb; injection eb
                obtain ⟨p0', f0'⟩ := hcs x (by omega)
                clear hcs eb htk hmem ex
                go_wp2
                refine ⟨⟨j + 1, by omega, by go_num, (hown'.set_ _).congr (fun i _ => ?_), hB'.setCell (Nat.le_refl _) _, fun q hq => ?_⟩, by simp [intOf]; omega⟩
                · rw [HTK.out]
                  exact rl_snoc g cell k (l.take j) x i
                · obtain ⟨b3, off3, e3, c3, hgt3⟩ := HCL.out q hq
                  exact ⟨b3, off3, e3, (World.cell?_of_block (Below.heap_setCell _ _ _ _ (by show b3 ≠ w.heap.size; omega))).trans c3, hgt3⟩
              obtain rfl : j = m := by omega
              have htl : l.take j = l := List.take_of_length_le (by have := HU.out.1; omega)
              go_wp2
              refine ⟨⟨k + 1, by omega, by go_num, hown'.congr (fun i _ => ?_), hB'⟩, by simp [intOf]; omega⟩
              rw [htl, ← HL.out, rl_all g cell k i HRK.out (by rw [HST.out, t8, t9]; rfl)]
          · by_cases hce : kk = cell
            · have t5 : (((g k).k : Int) == (cell : Int)) = true := by rw [hkk, hce]; simp
              clear hkk
              go_wp2_with (first
                | (go_at_call 41
                   refine (refOf_v _ HV.out _).mono ?_
                   rw [HK.out]
                   rintro e w2 ⟨rfl, hB2⟩
                   obtain ⟨b', off', eA, hb', hc'⟩ := (HR.out.below (hB.trans (hB2.mono hs))).at_ (by omega)
                   injection eA with eA
                   injection eA with e1 e2
                   subst e1 e2
                   obtain ⟨p0, p1, p2, p3⟩ := hc' k hlt
                   have c2 := (hB2.cell (p := ⟨w.heap.size, k, none⟩) hS).trans c0
                   have hb2 := hB.trans (hB2.mono hs)
                   have hS2 : w.heap.size < w2.heap.size := Nat.lt_of_lt_of_le hS hB2.size
                   clear hc'))
              refine ⟨⟨k + 1, by omega, by go_num, (HO.out.below hB2 (Nat.le_refl _)).congr (fun i _ => ?_), hb2⟩, by simp [intOf]; omega⟩
              rw [reach_skip g cell k i (by rw [HST.out, t8, t9, HRK.out, HKK.out, hce]; simp)]
            · have t5 : (((g k).k : Int) == (cell : Int)) = false := by rw [hkk]; simp; omega
              clear hkk
              go_wp2_with (first
                | (go_at_call 41
                   refine (refOf_v _ HV.out _).mono ?_
                   rw [HK.out]
                   rintro e w2 ⟨rfl, hB2⟩
                   obtain ⟨b', off', eA, hb', hc'⟩ := (HR.out.below (hB.trans (hB2.mono hs))).at_ (by omega)
                   injection eA with eA
                   injection eA with e1 e2
                   subst e1 e2
                   obtain ⟨p0, p1, p2, p3⟩ := hc' k hlt
                   have c2 := (hB2.cell (p := ⟨w.heap.size, k, none⟩) hS).trans c0
                   have hb2 := hB.trans (hB2.mono hs)
                   have hS2 : w.heap.size < w2.heap.size := Nat.lt_of_lt_of_le hS hB2.size
                   clear hc')
                | (go_at_call 42
                   refine (refNext_any _ _ _ _ _ ((HR.out.below hb2).more hb2.size) k hlt h1).mono ?_
                   rw [HL.out]
                   rintro e w3 ⟨A2, m, rfl, hU, hB3⟩
                   have HU := Lib.hid hU
                   have hmx : m ≤ 9223372036854775807 := by have := hU.2.1.le; unfold maxLen at this; omega
                   have hb3 := hb2.trans (hB3.mono hb2.size)
                   have HO3 := Lib.hid ((HO.out.below hB2 (Nat.le_refl _)).below hB3 (Nat.le_refl _))
                   clear hU))
              go_loopw [10] (fun i wr' => ∃ j : Nat, j ≤ m ∧ i = .int .i64 j ∧ OwnC wr' w.heap.size 4 1 (some ⟨w.heap.size, 0, none⟩) n n (fun i => .bool (rl g cell k (l.take j) i)) ∧ Below w.heap.size w wr' ∧ ∀ q, q < m → ∃ b2 off2, A2 = some ⟨b2, off2, none⟩ ∧ wr'.cell? ⟨b2, off2 + q, none⟩ = some (.int .i64 ((l.getD q 0 : Nat) : Int)) ∧ w.heap.size < b2)
                (fun i _ => m - (intOf i).toNat)
              case atStart =>
                refine ⟨0, Nat.zero_le _, rfl, HO3.out.congr (fun i _ => by unfold rl; simp), hb3, fun q hq => ?_⟩
                obtain ⟨b2, off2, e2, hb2', hc2⟩ := HU.out.2.1.at_ (by omega)
                exact ⟨b2, off2, e2, hc2 q (by omega), Nat.lt_of_lt_of_le hS2 (HU.out.2.2 _ e2)⟩
              case round =>
                obtain ⟨j, hj, rfl, hown', hB', hcl⟩ := hrel
                have HCL := Lib.hid hcl
                clear hcl
                by_cases hjm : j < m
                · obtain ⟨b2, off2, rfl, c1, hgt⟩ := HCL.out j hjm
                  have hlm : j < l.length := by have := HU.out.1; omega
                  have hmem : l.getD j 0 ∈ l := by
                    rw [List.getD_eq_getElem?_getD, List.getElem?_eq_getElem hlm]
                    exact List.getElem_mem _
                  have htk : l.take (j + 1) = l.take j ++ [l.getD j 0] := by
                    rw [List.take_add_one, List.getD_eq_getElem?_getD, List.getElem?_eq_getElem hlm]; rfl
                  obtain ⟨x, ex⟩ : ∃ x, l.getD j 0 = x := ⟨_, rfl⟩
                  rw [ex] at c1 hmem htk
                  have hx := HIN.out x hmem
                  have HTK := Lib.hid htk
                  obtain ⟨bb, eb, _, _, hcs⟩ := hown'.at_ (by omega)
                  obtain rfl : w.heap.size = bb := by injection eb with eb; injection eb
                  obtain ⟨p0', f0'⟩ := hcs x (by omega)
                  clear hcs eb htk hmem ex
                  go_wp2
                  refine ⟨⟨j + 1, by omega, by go_num, (hown'.set_ _).congr (fun i _ => ?_), hB'.setCell (Nat.le_refl _) _, fun q hq => ?_⟩, by simp [intOf]; omega⟩
                  · rw [HTK.out]
                    exact rl_snoc g cell k (l.take j) x i
                  · obtain ⟨b3, off3, e3, c3, hgt3⟩ := HCL.out q hq
                    exact ⟨b3, off3, e3, (World.cell?_of_block (Below.heap_setCell _ _ _ _ (by show b3 ≠ w.heap.size; omega))).trans c3, hgt3⟩
                obtain rfl : j = m := by omega
                have htl : l.take j = l := List.take_of_length_le (by have := HU.out.1; omega)
                go_wp2
                refine ⟨⟨k + 1, by omega, by go_num, hown'.congr (fun i _ => ?_), hB'⟩, by simp [intOf]; omega⟩
                rw [htl, ← HL.out, rl_all g cell k i HRK.out (by rw [HST.out, t8, t9, HKK.out]; simpa using hce)]
        · by_cases hce : kk = cell
          · have t5 : (((g k).k : Int) == (cell : Int)) = true := by rw [hkk, hce]; simp
            clear hkk
            go_wp2_with (first
              | (go_at_call 41
                 refine (refOf_v _ HV.out _).mono ?_
                 rw [HK.out]
                 rintro e w2 ⟨rfl, hB2⟩
                 obtain ⟨b', off', eA, hb', hc'⟩ := (HR.out.below (hB.trans (hB2.mono hs))).at_ (by omega)
                 injection eA with eA
                 injection eA with e1 e2
                 subst e1 e2
                 obtain ⟨p0, p1, p2, p3⟩ := hc' k hlt
                 have c2 := (hB2.cell (p := ⟨w.heap.size, k, none⟩) hS).trans c0
                 have hb2 := hB.trans (hB2.mono hs)
                 have hS2 : w.heap.size < w2.heap.size := Nat.lt_of_lt_of_le hS hB2.size
                 clear hc'))
            refine ⟨⟨k + 1, by omega, by go_num, (HO.out.below hB2 (Nat.le_refl _)).congr (fun i _ => ?_), hb2⟩, by simp [intOf]; omega⟩
            rw [reach_skip g cell k i (by rw [HST.out, t8, HRK.out, HKK.out, hce]; simp)]
          · have t5 : (((g k).k : Int) == (cell : Int)) = false := by rw [hkk]; simp; omega
            clear hkk
            go_wp2_with (first
              | (go_at_call 41
                 refine (refOf_v _ HV.out _).mono ?_
                 rw [HK.out]
                 rintro e w2 ⟨rfl, hB2⟩
                 obtain ⟨b', off', eA, hb', hc'⟩ := (HR.out.below (hB.trans (hB2.mono hs))).at_ (by omega)
                 injection eA with eA
                 injection eA with e1 e2
                 subst e1 e2
                 obtain ⟨p0, p1, p2, p3⟩ := hc' k hlt
                 have c2 := (hB2.cell (p := ⟨w.heap.size, k, none⟩) hS).trans c0
                 have hb2 := hB.trans (hB2.mono hs)
                 have hS2 : w.heap.size < w2.heap.size := Nat.lt_of_lt_of_le hS hB2.size
                 clear hc')
              | (go_at_call 42
                 refine (refNext_any _ _ _ _ _ ((HR.out.below hb2).more hb2.size) k hlt h1).mono ?_
                 rw [HL.out]
                 rintro e w3 ⟨A2, m, rfl, hU, hB3⟩
                 have HU := Lib.hid hU
                 have hmx : m ≤ 9223372036854775807 := by have := hU.2.1.le; unfold maxLen at this; omega
                 have hb3 := hb2.trans (hB3.mono hb2.size)
                 have HO3 := Lib.hid ((HO.out.below hB2 (Nat.le_refl _)).below hB3 (Nat.le_refl _))
                 clear hU))
            go_loopw [10] (fun i wr' => ∃ j : Nat, j ≤ m ∧ i = .int .i64 j ∧ OwnC wr' w.heap.size 4 1 (some ⟨w.heap.size, 0, none⟩) n n (fun i => .bool (rl g cell k (l.take j) i)) ∧ Below w.heap.size w wr' ∧ ∀ q, q < m → ∃ b2 off2, A2 = some ⟨b2, off2, none⟩ ∧ wr'.cell? ⟨b2, off2 + q, none⟩ = some (.int .i64 ((l.getD q 0 : Nat) : Int)) ∧ w.heap.size < b2)
              (fun i _ => m - (intOf i).toNat)
            case atStart =>
              refine ⟨0, Nat.zero_le _, rfl, HO3.out.congr (fun i _ => by unfold rl; simp), hb3, fun q hq => ?_⟩
              obtain ⟨b2, off2, e2, hb2', hc2⟩ := HU.out.2.1.at_ (by omega)
              exact ⟨b2, off2, e2, hc2 q (by omega), Nat.lt_of_lt_of_le hS2 (HU.out.2.2 _ e2)⟩
            case round =>
              obtain ⟨j, hj, rfl, hown', hB', hcl⟩ := hrel
              have HCL := Lib.hid hcl
              clear hcl
              by_cases hjm : j < m
              · obtain ⟨b2, off2, rfl, c1, hgt⟩ := HCL.out j hjm
                have hlm : j < l.length := by have := HU.out.1; omega
                have hmem : l.getD j 0 ∈ l := by
                  rw [List.getD_eq_getElem?_getD, List.getElem?_eq_getElem hlm]
                  exact List.getElem_mem _
                have htk : l.take (j + 1) = l.take j ++ [l.getD j 0] := by
                  rw [List.take_add_one, List.getD_eq_getElem?_getD, List.getElem?_eq_getElem hlm]; rfl
                obtain ⟨x, ex⟩ : ∃ x, l.getD j 0 = x := ⟨_, rfl⟩
                rw [ex] at c1 hmem htk
                have hx := HIN.out x hmem
                have HTK := Lib.hid htk
                obtain ⟨bb, eb, _, _, hcs⟩ := hown'.at_ (by omega)
                obtain rfl : w.heap.size = bb := by injection eb with eb; injection eb
                obtain ⟨p0', f0'⟩ := hcs x (by omega)
                clear hcs eb htk hmem ex
                go_wp2
                refine ⟨⟨j + 1, by omega, by go_num, (hown'.set_ _).congr (fun i _ => ?_), hB'.setCell (Nat.le_refl _) _, fun q hq => ?_⟩, by simp [intOf]; omega⟩
                · rw [HTK.out]
                  exact rl_snoc g cell k (l.take j) x i
                · obtain ⟨b3, off3, e3, c3, hgt3⟩ := HCL.out q hq
                  exact ⟨b3, off3, e3, (World.cell?_of_block (Below.heap_setCell _ _ _ _ (by show b3 ≠ w.heap.size; omega))).trans c3, hgt3⟩
              obtain rfl : j = m := by omega
              have htl : l.take j = l := List.take_of_length_le (by have := HU.out.1; omega)
              go_wp2
              refine ⟨⟨k + 1, by omega, by go_num, hown'.congr (fun i _ => ?_), hB'⟩, by simp [intOf]; omega⟩
              rw [htl, ← HL.out, rl_all g cell k i HRK.out (by rw [HST.out, t8, HKK.out]; simpa using hce)]
    · obtain rfl : k = n := by omega
      go_wp2
      go_ret
      exact ⟨_, _, rfl, HO.out, hB⟩
end Go.Proofs.Ytmndolojfdekdaa
