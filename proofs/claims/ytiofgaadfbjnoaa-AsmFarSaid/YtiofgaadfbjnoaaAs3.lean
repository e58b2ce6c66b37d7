/-
  Layer 20: gen.Formed of formed items.
-/
import Derived.Test.YtiofgaadfbjnoaaAs2
namespace Go.Proofs.Ytiofgaadfbjnoaa
open Go.RowKit Go.Shelf
set_option linter.unusedVariables false

theorem rowc_grownA {w w' : World} {row : Option Nat} {b : Nat} {cs : Array Value} {T : TypeId} (hg : w.grownBy w' row) (h : RowC w b cs T) (hne : some b ≠ row) : RowC w' b cs T := (hg.block b h.lt hne).trans h
def endsB (l : List IT) (k : Nat) : Bool := if k = 0 then false else ik l[k - 1]! == 14 || ik l[k - 1]! == 15
set_option maxRecDepth 100000 in
set_option maxHeartbeats 8000000 in
theorem gFormed_ok (A : Option Addr) (n c : Nat) (l : List IT) (w : World) (hn : l.length = n) (hn1 : n ≤ 1000000) (hr : Cel w w.heap.size 5 A n c (itcell fun i => l[i]!)) (hok : ∀ x ∈ l, x.ok) (hF : FormedI l) :
    Calls Try.prog 17 #[.slice A n c] w fun e w' => e = .returned (.bool true) ∧ Below w.heap.size w w' := by
  have hmm := @run_makeMap Try.prog
  obtain ⟨B, hBs⟩ : ∃ B, w.heap.size = B := ⟨_, rfl⟩
  obtain ⟨W1, hW1⟩ : ∃ W, (w.alloc (.map #[] 0)).alloc (.cells #[.map (some B)] 71) = W := ⟨_, rfl⟩
  have HB1 := Lib.hid (show Below B w W1 by rw [← hW1, ← hBs]; exact ((Below.refl _ _).alloc (Nat.le_refl _) _).alloc (by simp) _)
  have HM1 := Lib.hid (show IsMap .i64 .i64 W1 B [] by
    rw [← hW1, ← hBs]
    exact (IsMap.new .i64 .i64 w).below ((Below.refl (w.heap.size + 1) _).alloc (by simp) _) (Nat.lt_succ_self _))
  have HP1 := Lib.hid (show RowC W1 (B + 1) #[.map (some B)] 71 by rw [← hW1, ← hBs]; exact RowC.new _ _ _ _ (by simp))
  have HS1 := Lib.hid (show W1.heap.size = B + 2 by rw [← hW1, ← hBs]; simp)
  have HW1 := Lib.hid hW1
  have HBS := Lib.hid hBs
  have HR := Lib.hid hr
  have HF := Lib.hid hF
  have HOK := Lib.hid hok
  have HN := Lib.hid hn
  clear hW1 hr hF hok hn
  go_enter Try.func17, Try.ntmps17
  go_upto_region 2 with fail
  rw [HW1.out]
  (try rw [hBs])
  clear hBs
  go_wp2
  go_loopw [18] (fun i wr => ∃ k : Nat, k ≤ n ∧ i = .int .i64 k ∧ Hid (IsMap .i64 .i64 wr B (mkv l k) ∧ RowC wr (B + 1) #[.map (some B)] 71 ∧ Below B w wr ∧ B + 2 ≤ wr.heap.size))
    (fun i _ => n - (intOf i).toNat)
  case atStart => exact ⟨0, Nat.zero_le _, rfl, Lib.hid ⟨HM1.out, HP1.out, HB1.out, by rw [HS1.out]; exact Nat.le_refl _⟩⟩
  case round =>
    obtain ⟨k, hk, rfl, HI⟩ := hrel
    by_cases hlt : k < n
    · have hkl : k < l.length := by rw [HN.out]; exact hlt
      obtain ⟨x, hx⟩ : ∃ x, l[k]! = x := ⟨_, rfl⟩
      obtain ⟨b, off, rfl, hb, q0, q1, q2, q3, q4⟩ := it_at (HR.out.below (by rw [HBS.out]; exact HI.out.2.2.1)) hlt hx
      have hmk := HF.out.1 k hkl
      unfold MarkOk at hmk
      rw [hx] at hmk
      have HMK := Lib.hid hmk
      have HX := Lib.hid hx
      have i1 : (0 : Int) ≤ (k : Int) := by omega
      have i2 : (k : Int) < (n : Int) := by omega
      obtain ⟨W2, hW2⟩ : ∃ W, wr.alloc (.cells #[.int .i64 x.m, .int .u16 x.c, .int .u32 x.k, .int .i64 x.t, .int .i64 x.f] 27) = W := ⟨_, rfl⟩
      obtain ⟨E, hE⟩ : ∃ E, wr.heap.size = E := ⟨_, rfl⟩
      have hE2 : B + 2 ≤ E := by rw [← hE]; exact HI.out.2.2.2
      have hb2 : Below E wr W2 := by rw [← hW2, ← hE]; exact (Below.refl _ _).alloc (Nat.le_refl _) _
      have hr2 : RowC W2 E #[.int .i64 x.m, .int .u16 x.c, .int .u32 x.k, .int .i64 x.t, .int .i64 x.f] 27 := by rw [← hW2, ← hE]; exact RowC.new _ _ _ _ rfl
      have hs2 : W2.heap.size = E + 1 := by rw [← hW2, ← hE]; simp
      have HI2 := Lib.hid (show IsMap .i64 .i64 W2 B (mkv l k) ∧ RowC W2 (B + 1) #[.map (some B)] 71 ∧ Below B w W2 ∧ B + 2 ≤ W2.heap.size from ⟨HI.out.1.below hb2 (by omega), HI.out.2.1.below hb2 (by omega), HI.out.2.2.1.trans (hb2.mono (by omega)), by omega⟩)
      have HW2 := Lib.hid hW2
      have HR2 := Lib.hid (And.intro hr2 hs2)
      have HE := Lib.hid hE2
      clear hmk hx hW2 hb2 hr2 hs2 hE2
      go_upto_region 5 with fail
      (try rw [hE])
      (try rw [HW2.out])
      clear hE q0 q1 q2 q3 q4
      have p0 := HR2.out.1.cell 0 _ rfl
      by_cases hm0 : x.m = 0
      · have f0 : (x.m == 0) = true := by rw [hm0]; rfl
        have HKV := Lib.hid (show mkv l (k + 1) = mkv l k by
          show (if l[k]!.m ≠ 0 then _ else mkv l k) = _
          rw [HX.out, if_neg (by simpa using hm0)])
        have HM0 := Lib.hid hm0
        clear hm0
        go_wp2
        exact ⟨⟨k + 1, by omega, by go_num, by rw [HKV.out]; exact HI2⟩, by simp [intOf]; omega⟩
      · have f0 : (x.m == 0) = false := beq_eq_false_iff_ne.2 hm0
        obtain ⟨hd, h1, h2, h3, h4, h5⟩ := HMK.out hm0
        have hnone : assoc (mkv l k) x.m = none := mkv_none k fun j hj => hd j hj
        have HKV := Lib.hid (show mkv l (k + 1) = mkv l k ++ [(x.m, (k : Int))] by
          show (if l[k]!.m ≠ 0 then _ else mkv l k) = _
          rw [HX.out, if_pos hm0])
        have HNO := Lib.hid hnone
        have hl := HI2.out.1.look (P := Try.prog) Try.underlying71 Try.underlying3 (Try.zeroValue3 W2) x.m true
        rw [hnone] at hl
        simp only [if_true, Option.getD_none, Option.isSome_none] at hl
        have c0 := HI2.out.2.1.cell 0 _ rfl
        clear hd hnone HMK HX HI
        obtain ⟨xm, xc, xk, xt, xf⟩ := x
        simp only at h1 h2 h3 h4 h5 hm0 f0 hl p0
        subst h2 h3 h4 h5
        have f1 : ¬ xm < 0 := by omega
        have p1 := HR2.out.1.cell 1 _ rfl
        have p2 := HR2.out.1.cell 2 _ rfl
        have p3 := HR2.out.1.cell 3 _ rfl
        have p4 := HR2.out.1.cell 4 _ rfl
        have HS : Hid (∀ W, Below W2.heap.size W2 W → W.cell? ⟨E, 0, none⟩ = some (.int .i64 xm) ∧ W.cell? ⟨E, 1, none⟩ = some (.int .u16 0) ∧ W.cell? ⟨E, 2, none⟩ = some (.int .u32 0) ∧ W.cell? ⟨E, 3, none⟩ = some (.int .i64 0) ∧ W.cell? ⟨E, 4, none⟩ = some (.int .i64 0)) := Lib.hid fun W hW => by
          have h := HR2.out.1.below hW HR2.out.1.lt
          exact ⟨h.cell 0 _ rfl, h.cell 1 _ rfl, h.cell 2 _ rfl, h.cell 3 _ rfl, h.cell 4 _ rfl⟩
        have hk0 : Below W2.heap.size W2 W2.drew := (Below.refl _ W2).drew
        go_upto_region 7 with fail
        go_region_held3 (fun w' => w'.cell? ⟨E, 0, none⟩ = some (.int .i64 xm) ∧ w'.cell? ⟨E, 1, none⟩ = some (.int .u16 0) ∧ w'.cell? ⟨E, 2, none⟩ = some (.int .u32 0) ∧ w'.cell? ⟨E, 3, none⟩ = some (.int .i64 0) ∧ w'.cell? ⟨E, 4, none⟩ = some (.int .i64 0))
          (first | exact HS.out _ hk1 | exact HS.out _ hk0)
          (first | (go_at_call 27; refine (gmark_any xm _).mono ?_; rintro e w7 ⟨rfl, hB7⟩; have hk1 := hk0.trans (hB7.mono hk0.size)))
        have hI7 : IsMap .i64 .i64 w7 B (mkv l k) ∧ RowC w7 (B + 1) #[.map (some B)] 71 ∧ Below B w w7 ∧ B + 2 ≤ w7.heap.size :=
          ⟨HI2.out.1.below hk1 (by have := HI2.out.2.2.2; omega), HI2.out.2.1.below hk1 HI2.out.2.1.lt, HI2.out.2.2.1.trans (hk1.mono (by have := HI2.out.2.2.2; omega)), by have := HI2.out.2.2.2; have := hk1.size; omega⟩
        have c7 := hI7.2.1.cell 0 _ rfl
        have p7 := (HS.out _ hk1).1
        obtain ⟨w8, hrun, hm8, hg8⟩ := hI7.1.insert (P := Try.prog) Try.underlying71 Try.underlying3 xm (k : Int) HNO.out
        have HI8 := Lib.hid (show IsMap .i64 .i64 w8 B (mkv l (k + 1)) ∧ RowC w8 (B + 1) #[.map (some B)] 71 ∧ Below B w w8 ∧ B + 2 ≤ w8.heap.size from
          ⟨by rw [HKV.out]; exact hm8, rowc_grownA hg8 hI7.2.1 (by simp), hI7.2.2.1.trans ((Below.refl _ _).grown hg8 (by omega) (fun j hj => by injection hj with hj; omega)), by have := hg8.size; omega⟩)
        clear hI7 hm8 hg8 hl c0 p0 p1 p2 p3 p4
        go_wp2
        exact ⟨⟨k + 1, by omega, by go_num, HI8⟩, by simp [intOf]; omega⟩
    · obtain rfl : n = k := by omega
      obtain ⟨V, rfl⟩ : ∃ z, z = wr := ⟨_, rfl⟩
      have i2 : ¬ (n : Int) < (n : Int) := by omega
      go_wp2
      go_loopw [8, 53] (fun ev i wy => ∃ q : Nat, q ≤ n ∧ i = .int .i64 q ∧ ev = .bool (endsB l q) ∧ Hid (Below V.heap.size V wy))
        (fun _ i _ => n - (intOf i).toNat)
      case atStart => exact ⟨0, Nat.zero_le _, rfl, rfl, Lib.hid (Below.refl _ _)⟩
      case round =>
        obtain ⟨q, hq, rfl, rfl, HJ⟩ := hrel
        by_cases hlt2 : q < n
        · have hql : q < l.length := by rw [HN.out]; exact hlt2
          obtain ⟨x, hx⟩ : ∃ x, l[q]! = x := ⟨_, rfl⟩
          have hBw : Below B w wr := HI.out.2.2.1.trans (HJ.out.mono (by have := HI.out.2.2.2; omega))
          obtain ⟨b, off, rfl, hb, q0, q1, q2, q3, q4⟩ := it_at (HR.out.below (by rw [HBS.out]; exact hBw)) hlt2 hx
          have hit := HF.out.2.1 q hql
          unfold ItemOk at hit
          rw [hx] at hit
          have hxo : x.ok := HOK.out x (by rw [← hx, getElem!_pos l q hql]; exact List.getElem_mem _)
          have hends : endsB l (q + 1) = (ik x == 14 || ik x == 15) := by
            unfold endsB
            rw [if_neg (Nat.succ_ne_zero q), Nat.add_sub_cancel, hx]
          have HEN := Lib.hid hends
          have HIT := Lib.hid hit
          have HXO := Lib.hid hxo
          have i1 : (0 : Int) ≤ (q : Int) := by omega
          have i3 : (q : Int) < (n : Int) := by omega
          obtain ⟨E, hE⟩ : ∃ E, wr.heap.size = E := ⟨_, rfl⟩
          obtain ⟨W2, hW2⟩ : ∃ W, (wr.alloc (.cells #[.int .i64 q] 3)).alloc (.cells #[.int .i64 x.m, .int .u16 x.c, .int .u32 x.k, .int .i64 x.t, .int .i64 x.f] 27) = W := ⟨_, rfl⟩
          have hVE : V.heap.size ≤ E := by rw [← hE]; exact HJ.out.size
          have hb2 : Below E wr W2 := by rw [← hW2, ← hE]; exact ((Below.refl _ _).alloc (Nat.le_refl _) _).alloc (by simp) _
          have hr1 : RowC W2 E #[.int .i64 q] 3 := by rw [← hW2, ← hE]; exact (RowC.new _ _ _ _ rfl).alloc _
          have hr2 : RowC W2 (E + 1) #[.int .i64 x.m, .int .u16 x.c, .int .u32 x.k, .int .i64 x.t, .int .i64 x.f] 27 := by rw [← hW2, ← hE]; exact RowC.new _ _ _ _ (by simp)
          have hBW2 : Below V.heap.size V W2 := HJ.out.trans (hb2.mono hVE)
          have HLT := Lib.hid (show B + 1 < V.heap.size by have := HI.out.2.2.2; omega)
          have HFX : Hid (∀ W, Below W2.heap.size W2 W → RowC W E #[.int .i64 q] 3 ∧ RowC W (E + 1) #[.int .i64 x.m, .int .u16 x.c, .int .u32 x.k, .int .i64 x.t, .int .i64 x.f] 27 ∧ IsMap .i64 .i64 W B (mkv l n) ∧ RowC W (B + 1) #[.map (some B)] 71 ∧ Below V.heap.size V W) := Lib.hid fun W hW => by
            have hV : Below V.heap.size V W := hBW2.trans (hW.mono hBW2.size)
            exact ⟨hr1.below hW hr1.lt, hr2.below hW hr2.lt, HI.out.1.below hV (by have := HLT.out; omega), HI.out.2.1.below hV HLT.out, hV⟩
          have HW2 := Lib.hid hW2
          have HOF := Lib.hid (show Calls Try.prog 28 #[.int .u16 (x.c : Int)] W2 fun e w' => e = .returned (.tuple #[.int .i64 (ik x), .bool (ofF x.c).2.1, .bool true]) ∧ Below W2.heap.size W2 w' by
            have h := of_any (x.c : Int) W2 (by omega) (by have := HXO.out.1; omega)
            rw [HIT.out.1] at h
            exact h)
          have p1 := hr2.cell 1 _ rfl
          clear hx hit hxo hends hW2 hb2 hr1 hr2 hBW2 hVE hBw
          go_upto_region 15 with fail
          (try rw [hE])
          (try rw [HW2.out])
          clear hE q0 q1 q2 q3 q4
          have hmf : ∀ (fn : Fn) (first cap : Array Value) (w : World), (Instr.makeFunc fn first cap).run Try.prog w = .ok (.func fn first cap) w := fun _ _ _ _ => rfl
          obtain ⟨K, hK⟩ : ∃ K, ik x = K := ⟨_, rfl⟩
          have HMN : Hid (∀ W, Calls Try.prog 30 #[.int .i64 K, itA x] W fun e w' => e = .returned (.bool true) ∧ Below W.heap.size W w') := Lib.hid fun W => by
            have h := mayName_any x W
            rw [HIT.out.2.1, hK] at h
            exact h
          rw [hK] at HOF HEN
          have HBH : Hid (∀ tq, BehindI l q tq → ∀ W, Below W2.heap.size W2 W → Calls Try.prog 29 #[.int .i64 tq, .pointer (some ⟨B + 1, 0, none⟩), .pointer (some ⟨E, 0, none⟩)] W fun e w' => e = .returned (.bool true) ∧ Below W.heap.size W w') := Lib.hid fun tq htq W hW => by
            have hf := HFX.out W hW
            have h := behind1_any tq (B + 1) E B q (mkv l n) W (hf.2.2.2.1.cell 0 _ rfl) (hf.1.cell 0 _ rfl) hf.2.2.1
            have hb := mkv_behind HF.out htq
            rw [HN.out] at hb
            rw [hb] at h
            exact h
          clear hK
          go_wp2_with fail
          refine HOF.out.mono ?_
          rintro e W3 ⟨rfl, hB3⟩
          have HB3 := Lib.hid hB3
          have KT := Lib.hid (HBH.out x.t HIT.out.2.2.1)
          have KF := Lib.hid (HBH.out x.f HIT.out.2.2.2)
          have hf3 := HFX.out W3 hB3
          have p0 := hf3.2.1.cell 0 _ rfl
          have p2 := hf3.2.1.cell 2 _ rfl
          have p3 := hf3.2.1.cell 3 _ rfl
          have p4 := hf3.2.1.cell 4 _ rfl
          clear p1 hf3 hB3 HBH HOF
          have p1 := (HFX.out W3 HB3.out).2.1.cell 1 _ rfl
          have hends : ∀ bb : Bool, (K == 14 || K == 15) = bb → Value.bool bb = .bool (endsB l (q + 1)) := fun bb hbb => by rw [HEN.out, hbb]
          have HENDS := Lib.hid hends
          clear hends
          have HW3 : Hid (∀ W, Below W3.heap.size W3 W → Below W2.heap.size W2 W ∧ W.cell? ⟨E + 1, 3, none⟩ = some (.int .i64 x.t) ∧ W.cell? ⟨E + 1, 4, none⟩ = some (.int .i64 x.f)) := Lib.hid fun W hW => by
            have hW2 : Below W2.heap.size W2 W := HB3.out.trans (hW.mono HB3.out.size)
            have h := (HFX.out W hW2).2.1
            exact ⟨hW2, h.cell 3 _ rfl, h.cell 4 _ rfl⟩
          obtain ⟨b14, hb14⟩ : ∃ z, (K == 14) = z := ⟨_, rfl⟩
          have HB14 := Lib.hid hb14
          have KM := Lib.hid (HMN.out W3)
          cases b14
          all_goals go_wp2_with fail
          all_goals refine KM.out.mono ?_
          all_goals rintro e W4 ⟨rfl, hB4⟩
          all_goals have HB4 := Lib.hid hB4
          all_goals obtain ⟨hk4, u3, u4⟩ := HW3.out W4 hB4
          all_goals have KT4 := Lib.hid (KT.out W4 hk4)
          all_goals clear hB4 p0 p1 p2 p3 p4 hk4 u4
          all_goals go_wp2_with fail
          all_goals refine KT4.out.mono ?_
          all_goals rintro e W5 ⟨rfl, hB5⟩
          all_goals have HB5 := Lib.hid (show Below W3.heap.size W3 W5 from HB4.out.trans (hB5.mono HB4.out.size))
          all_goals obtain ⟨hk5, u3', u4⟩ := HW3.out W5 HB5.out
          all_goals have KF5 := Lib.hid (KF.out W5 hk5)
          all_goals clear hB5 u3 u3' hk5
          all_goals go_wp2_with fail
          all_goals refine KF5.out.mono ?_
          all_goals rintro e W6 ⟨rfl, hB6⟩
          all_goals have HB6 := Lib.hid (HFX.out W6 (HW3.out W6 (HB5.out.trans (hB6.mono HB5.out.size))).1).2.2.2.2
          all_goals clear hB6 u4
          all_goals go_wp2
          · exact ⟨⟨q + 1, by omega, by go_num, by rw [HEN.out, HB14.out]; rfl, HB6⟩, by simp [intOf]; omega⟩
          · exact ⟨⟨q + 1, by omega, by go_num, by rw [HEN.out, HB14.out]; rfl, HB6⟩, by simp [intOf]; omega⟩
        · obtain rfl : n = q := by omega
          have i3 : ¬ (n : Int) < (n : Int) := by omega
          have hfin : endsB l n = true := by
            have h4 := HF.out.2.2
            have hn0 : n ≠ 0 := fun e => h4.1 (List.eq_nil_of_length_eq_zero (by rw [HN.out]; exact e))
            unfold endsB
            rw [if_neg hn0, ← HN.out]
            rcases h4.2 with h | h
            · rw [h]; rfl
            · rw [h]; rfl
          rw [hfin]
          have HBW := Lib.hid (show Below B w wr from HI.out.2.2.1.trans (HJ.out.mono (by have := HI.out.2.2.2; omega)))
          clear hfin
          go_wp2
          go_ret
          exact ⟨rfl, by rw [HBS.out]; exact HBW.out⟩
end Go.Proofs.Ytiofgaadfbjnoaa
