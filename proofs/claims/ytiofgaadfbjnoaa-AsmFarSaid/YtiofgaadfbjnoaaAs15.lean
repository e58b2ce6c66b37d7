/-
  Layer 20: strainerref20.Formed: what is told to be formed is. Made by gen_as15.py.
-/
import Derived.Test.YtiofgaadfbjnoaaAs14
namespace Go.Proofs.Ytiofgaadfbjnoaa
open Go.RowKit Go.Shelf
set_option linter.unusedVariables false

theorem step_ok {l : List IT} {k : Nat} (h : ∀ i, i < k → MarkOk l i ∧ ItemOk l i) (h2 : MarkOk l k ∧ ItemOk l k) : ∀ i, i < k + 1 → MarkOk l i ∧ ItemOk l i := fun i hi => by
  by_cases e : i < k
  · exact h i e
  · have : i = k := by omega
    subst this
    exact h2
theorem mayN_mark {x : IT} (h1 : x.c = 0) (h2 : x.t = 0) (h3 : x.f = 0) : mayN x = true := by
  unfold mayN ik
  rw [h1, h2, h3]
  kernel_rfl
theorem isBr_of {K : Int} (h : ¬ K < 25) (h2 : K ≤ 28) : isBrK K = true := by
  have : K = 25 ∨ K = 26 ∨ K = 27 ∨ K = 28 := by omega
  rcases this with rfl | rfl | rfl | rfl <;> rfl
theorem notBr_of {K : Int} (h : K < 25) : isBrK K = false := by
  unfold isBrK
  rw [beq_eq_false_iff_ne.2 (show K ≠ 25 by omega), beq_eq_false_iff_ne.2 (show K ≠ 26 by omega), beq_eq_false_iff_ne.2 (show K ≠ 27 by omega), beq_eq_false_iff_ne.2 (show K ≠ 28 by omega)]
  rfl
theorem behind_of {l : List IT} {n k : Nat} {tq z : Int} (h : AtR l n tq z) (hn : l.length = n) (hz : ¬ z ≤ (k : Int)) : BehindI l k tq := by
  rcases h with h | ⟨q, h1, h2, _, h4, _⟩
  · omega
  · exact .inr ⟨q, by omega, by omega, h4⟩
set_option maxRecDepth 100000 in
set_option maxHeartbeats 16000000 in
theorem ref20Formed_any (A : Option Addr) (n c : Nat) (l : List IT) (w : World) (hn : l.length = n) (hn1 : n ≤ 1000000) (hr : Cel w w.heap.size 5 A n c (itcell fun i => l[i]!)) (hok : ∀ x ∈ l, x.ok) :
    Calls Try.prog 14 #[.slice A n c] w fun e w' => ∃ b, e = .returned (.bool b) ∧ Below w.heap.size w w' ∧ (b = true → FormedI l) := by
  have HR := Lib.hid hr
  have HOK := Lib.hid hok
  have HN := Lib.hid hn
  clear hr hok hn
  go_enter Try.func14, Try.ntmps14
  go_wp2
  go_loopw [3] (fun i wr => ∃ k : Nat, k ≤ n ∧ i = .int .i64 k ∧ Below w.heap.size w wr ∧ Hid (∀ i, i < k → MarkOk l i ∧ ItemOk l i))
    (fun i _ => n - (intOf i).toNat)
  case atStart => exact ⟨0, Nat.zero_le _, rfl, Below.refl _ _, Lib.hid fun i hi => absurd hi (Nat.not_lt_zero _)⟩
  case round =>
    obtain ⟨k, hk, rfl, hB, HI⟩ := hrel
    by_cases hlt : k < n
    · obtain ⟨x, hx⟩ : ∃ x, l[k]! = x := ⟨_, rfl⟩
      have hxo : x.ok := HOK.out x (by rw [← hx, getElem!_pos l k (by rw [HN.out]; exact hlt)]; exact List.getElem_mem _)
      obtain ⟨b, off, rfl, hb, q0, q1, q2, q3, q4⟩ := it_at (HR.out.below hB) hlt hx
      have i1 : (0 : Int) ≤ (k : Int) := by omega
      have i2 : (k : Int) < (n : Int) := by omega
      have HX := Lib.hid hx
      have HXO := Lib.hid hxo
      obtain ⟨KK, hKK⟩ : ∃ z, ik x = z := ⟨_, rfl⟩
      have hkr := ik_range x
      rw [hKK] at hkr
      have HKK := Lib.hid hKK
      obtain ⟨E, hE⟩ : ∃ E, wr.heap.size = E := ⟨_, rfl⟩
      obtain ⟨W2, hW2⟩ : ∃ W, wr.alloc (.cells #[.int .i64 x.m, .int .u16 x.c, .int .u32 x.k, .int .i64 x.t, .int .i64 x.f] 50) = W := ⟨_, rfl⟩
      have hr2 : RowC W2 E #[.int .i64 x.m, .int .u16 x.c, .int .u32 x.k, .int .i64 x.t, .int .i64 x.f] 50 := by rw [← hW2, ← hE]; exact RowC.new _ _ _ _ rfl
      have hs2 : W2.heap.size = E + 1 := by rw [← hW2, ← hE]; simp
      have hb2 : Below w.heap.size w W2 := by rw [← hW2]; exact hB.alloc hB.size _
      have HALL : Hid (∀ W, Below (E + 1) W2 W → W.cell? ⟨E, 0, none⟩ = some (.int .i64 x.m) ∧ W.cell? ⟨E, 1, none⟩ = some (.int .u16 x.c) ∧ W.cell? ⟨E, 2, none⟩ = some (.int .u32 x.k) ∧ W.cell? ⟨E, 3, none⟩ = some (.int .i64 x.t) ∧ W.cell? ⟨E, 4, none⟩ = some (.int .i64 x.f) ∧
          Hid (Below w.heap.size w W) ∧ Hid (Below w.heap.size w W) ∧ Hid (Cel W W.heap.size 5 (some ⟨b, off, none⟩) n c (itcell fun i => l[i]!))) := Lib.hid fun W hW => by
        have h := hr2.below hW (Nat.lt_succ_self E)
        have hb3 := hb2.trans (hW.mono (by have := hB.size; omega))
        exact ⟨h.cell 0 _ rfl, h.cell 1 _ rfl, h.cell 2 _ rfl, h.cell 3 _ rfl, h.cell 4 _ rfl, hb3, hb3, (HR.out.below hb3).more hb3.size⟩
      have HSZ : Hid (E + 1 ≤ W2.heap.size) := Lib.hid (by omega)
      have HW2 := Lib.hid hW2
      clear hx hxo hKK hW2 hr2 hs2 hb2
      go_upto_region 5 with fail
      (try rw [hE])
      (try rw [HW2.out])
      clear hE q0 q1 q2 q3 q4
      obtain ⟨p0, p1, p2, p3, p4, HBE, HBN, HC2⟩ := HALL.out W2 (Below.refl _ _)
      by_cases hm0 : x.m = 0
      · have f0 : (x.m != 0) = false := by simp [hm0]
        have HM0 := Lib.hid hm0
        go_wp2_with fail
        refine (refOf_any x.c _ (by omega) (by have := HXO.out.1; omega)).mono ?_
        rw [show (ofF (x.c : Int)).1 = KK from HKK.out]
        rintro e w3 ⟨rfl, hB3⟩
        obtain ⟨W2, hWW⟩ : ∃ W, W = w3 := ⟨_, rfl⟩
        subst hWW
        obtain ⟨p0, p1, p2, p3, p4, HBE, HBN, HC2⟩ := HALL.out _ (hB3.mono HSZ.out)
        clear hB3
        by_cases hk0 : KK = 0
        · go_wp2
          go_ret
          first | exact ⟨false, rfl, HBE.out, fun h => by cases h⟩ | exact .inl ⟨rfl, HBE.out⟩
        · have hk1 : (KK == 0) = false := beq_eq_false_iff_ne.2 hk0
          have HVAL : Hid ((ofF x.c).2.2 = true) := Lib.hid (ofF_valid _ (by show ik x ≠ 0; rw [HKK.out]; exact hk0))
          by_cases h25 : KK < 25
          · by_cases hf0 : x.f = 0
            · have gf : (x.f != 0) = false := by simp [hf0]
              by_cases h13 : KK = 13
              · have HMAY : Hid (mayN x = true) := Lib.hid (by unfold mayN; rw [HKK.out, if_neg (by rw [notBr_of h25]; decide), if_pos h13, hf0]; rfl)
                have e13 : (KK != 13) = false := by simp [h13]
                have HBF : Hid (BehindI l k x.f) := Lib.hid (.inl hf0)
                by_cases ht0 : x.t = 0
                · have HBT : Hid (BehindI l k x.t) := Lib.hid (.inl ht0)
                  have gt : (x.t != 0) = false := by simp [ht0]
                  have HNX : Hid (∀ i, i < k + 1 → MarkOk l i ∧ ItemOk l i) := Lib.hid (step_ok HI.out (by
                    unfold MarkOk ItemOk
                    rw [HX.out]
                    exact ⟨fun h => absurd HM0.out h, HVAL.out, HMAY.out, HBT.out, HBF.out⟩))
                  go_wp2
                  exact ⟨⟨k + 1, by omega, by go_num, HBN.out, HNX⟩, by simp [intOf]; omega⟩
                · have gt : (x.t != 0) = true := by simp [ht0]
                  go_wp2_with fail
                  refine (refAt_any _ n c l x.t _ hn1 HC2.out).mono ?_
                  rintro e w' ⟨z, rfl, hw9, hz⟩
                  obtain rfl : W2 = w' := hw9
                  by_cases hz1 : z ≤ (k : Int)
                  · go_wp2
                    go_ret
                    first | exact ⟨false, rfl, HBE.out, fun h => by cases h⟩ | exact .inl ⟨rfl, HBE.out⟩
                  · have HBT : Hid (BehindI l k x.t) := Lib.hid (behind_of hz (by rw [HN.out]) hz1)
                    clear hz
                    have HNX : Hid (∀ i, i < k + 1 → MarkOk l i ∧ ItemOk l i) := Lib.hid (step_ok HI.out (by
                      unfold MarkOk ItemOk
                      rw [HX.out]
                      exact ⟨fun h => absurd HM0.out h, HVAL.out, HMAY.out, HBT.out, HBF.out⟩))
                    go_wp2
                    exact ⟨⟨k + 1, by omega, by go_num, HBN.out, HNX⟩, by simp [intOf]; omega⟩
              · by_cases ht0 : x.t = 0
                · have gt : (x.t != 0) = false := by simp [ht0]
                  have HBT : Hid (BehindI l k x.t) := Lib.hid (.inl ht0)
                  have HMAY : Hid (mayN x = true) := Lib.hid (by unfold mayN; rw [HKK.out, if_neg (by rw [notBr_of h25]; decide), if_neg h13, hf0, ht0]; rfl)
                  have e13 : (KK != 13) = true := by simp [h13]
                  have HBF : Hid (BehindI l k x.f) := Lib.hid (.inl hf0)
                  have HNX : Hid (∀ i, i < k + 1 → MarkOk l i ∧ ItemOk l i) := Lib.hid (step_ok HI.out (by
                    unfold MarkOk ItemOk
                    rw [HX.out]
                    exact ⟨fun h => absurd HM0.out h, HVAL.out, HMAY.out, HBT.out, HBF.out⟩))
                  go_wp2
                  exact ⟨⟨k + 1, by omega, by go_num, HBN.out, HNX⟩, by simp [intOf]; omega⟩
                · have gt : (x.t != 0) = true := by simp [ht0]
                  have e13 : (KK != 13) = true := by simp [h13]
                  go_wp2
                  go_ret
                  first | exact ⟨false, rfl, HBE.out, fun h => by cases h⟩ | exact .inl ⟨rfl, HBE.out⟩
            · have gf : (x.f != 0) = true := by simp [hf0]
              go_wp2
              go_ret
              first | exact ⟨false, rfl, HBE.out, fun h => by cases h⟩ | exact .inl ⟨rfl, HBE.out⟩
          · have HMAY : Hid (mayN x = true) := Lib.hid (by unfold mayN; rw [if_pos (by rw [HKK.out]; exact isBr_of h25 hkr.2)])
            by_cases ht0 : x.t = 0
            · have HBT : Hid (BehindI l k x.t) := Lib.hid (.inl ht0)
              have gt : (x.t != 0) = false := by simp [ht0]
              by_cases hf0 : x.f = 0
              · have HBF : Hid (BehindI l k x.f) := Lib.hid (.inl hf0)
                have gf : (x.f != 0) = false := by simp [hf0]
                have HNX : Hid (∀ i, i < k + 1 → MarkOk l i ∧ ItemOk l i) := Lib.hid (step_ok HI.out (by
                  unfold MarkOk ItemOk
                  rw [HX.out]
                  exact ⟨fun h => absurd HM0.out h, HVAL.out, HMAY.out, HBT.out, HBF.out⟩))
                go_wp2
                exact ⟨⟨k + 1, by omega, by go_num, HBN.out, HNX⟩, by simp [intOf]; omega⟩
              · have gf : (x.f != 0) = true := by simp [hf0]
                go_wp2_with fail
                refine (refAt_any _ n c l x.f _ hn1 HC2.out).mono ?_
                rintro e w' ⟨z, rfl, hw9, hz⟩
                obtain rfl : W2 = w' := hw9
                by_cases hz1 : z ≤ (k : Int)
                · go_wp2
                  go_ret
                  first | exact ⟨false, rfl, HBE.out, fun h => by cases h⟩ | exact .inl ⟨rfl, HBE.out⟩
                · have HBF : Hid (BehindI l k x.f) := Lib.hid (behind_of hz (by rw [HN.out]) hz1)
                  clear hz
                  have HNX : Hid (∀ i, i < k + 1 → MarkOk l i ∧ ItemOk l i) := Lib.hid (step_ok HI.out (by
                    unfold MarkOk ItemOk
                    rw [HX.out]
                    exact ⟨fun h => absurd HM0.out h, HVAL.out, HMAY.out, HBT.out, HBF.out⟩))
                  go_wp2
                  exact ⟨⟨k + 1, by omega, by go_num, HBN.out, HNX⟩, by simp [intOf]; omega⟩
            · have gt : (x.t != 0) = true := by simp [ht0]
              go_wp2_with fail
              refine (refAt_any _ n c l x.t _ hn1 HC2.out).mono ?_
              rintro e w' ⟨z, rfl, hw9, hz⟩
              obtain rfl : W2 = w' := hw9
              by_cases hz1 : z ≤ (k : Int)
              · go_wp2
                go_ret
                first | exact ⟨false, rfl, HBE.out, fun h => by cases h⟩ | exact .inl ⟨rfl, HBE.out⟩
              · have HBT : Hid (BehindI l k x.t) := Lib.hid (behind_of hz (by rw [HN.out]) hz1)
                clear hz
                by_cases hf0 : x.f = 0
                · have HBF : Hid (BehindI l k x.f) := Lib.hid (.inl hf0)
                  have gf : (x.f != 0) = false := by simp [hf0]
                  have HNX : Hid (∀ i, i < k + 1 → MarkOk l i ∧ ItemOk l i) := Lib.hid (step_ok HI.out (by
                    unfold MarkOk ItemOk
                    rw [HX.out]
                    exact ⟨fun h => absurd HM0.out h, HVAL.out, HMAY.out, HBT.out, HBF.out⟩))
                  go_wp2
                  exact ⟨⟨k + 1, by omega, by go_num, HBN.out, HNX⟩, by simp [intOf]; omega⟩
                · have gf : (x.f != 0) = true := by simp [hf0]
                  go_wp2_with fail
                  refine (refAt_any _ n c l x.f _ hn1 HC2.out).mono ?_
                  rintro e w' ⟨z, rfl, hw9, hz⟩
                  obtain rfl : W2 = w' := hw9
                  by_cases hz1 : z ≤ (k : Int)
                  · go_wp2
                    go_ret
                    first | exact ⟨false, rfl, HBE.out, fun h => by cases h⟩ | exact .inl ⟨rfl, HBE.out⟩
                  · have HBF : Hid (BehindI l k x.f) := Lib.hid (behind_of hz (by rw [HN.out]) hz1)
                    clear hz
                    have HNX : Hid (∀ i, i < k + 1 → MarkOk l i ∧ ItemOk l i) := Lib.hid (step_ok HI.out (by
                      unfold MarkOk ItemOk
                      rw [HX.out]
                      exact ⟨fun h => absurd HM0.out h, HVAL.out, HMAY.out, HBT.out, HBF.out⟩))
                    go_wp2
                    exact ⟨⟨k + 1, by omega, by go_num, HBN.out, HNX⟩, by simp [intOf]; omega⟩
      · have f0 : (x.m != 0) = true := by simp [hm0]
        by_cases hneg : x.m < 0
        · go_wp2
          go_ret
          first | exact ⟨false, rfl, HBE.out, fun h => by cases h⟩ | exact .inl ⟨rfl, HBE.out⟩
        · go_wp2_with fail
          refine (refAt_any _ n c l x.m _ hn1 HC2.out).mono ?_
          rintro e w' ⟨z, rfl, hw9, hz⟩
          obtain rfl : W2 = w' := hw9
          have HZ := Lib.hid hz
          clear hz
          by_cases hz0 : z < 0
          · go_wp2
            go_ret
            first | exact ⟨false, rfl, HBE.out, fun h => by cases h⟩ | exact .inl ⟨rfl, HBE.out⟩
          · by_cases h2 : x.c = 0
            · have g2 : ((x.c : Int) != 0) = false := by simp [h2]
              by_cases h3 : x.k = 0
              · have g3 : ((x.k : Int) != 0) = false := by simp [h3]
                by_cases h4 : x.t = 0
                · have g4 : (x.t != 0) = false := by simp [h4]
                  by_cases h5 : x.f = 0
                  · have HCC : Hid (x.c = 0 ∧ x.k = 0 ∧ x.t = 0 ∧ x.f = 0) := Lib.hid ⟨h2, h3, h4, h5⟩
                    have g5 : (x.f != 0) = false := by simp [h5]
                    have HNX : Hid (∀ i, i < k + 1 → MarkOk l i ∧ ItemOk l i) := Lib.hid (step_ok HI.out (by
                      unfold MarkOk ItemOk
                      rw [HX.out]
                      obtain ⟨q, h1, h2, h3, h4, h5⟩ : ∃ q : Nat, z = (q : Int) ∧ q < n ∧ x.m ≠ 0 ∧ l[q]!.m = x.m ∧ ∀ j, j < n → l[j]!.m = x.m → j = q := by
                        rcases HZ.out with h | h
                        · exact absurd (show z < 0 by omega) hz0
                        · exact h
                      have hkq : k = q := h5 k hlt (by rw [HX.out])
                      refine ⟨fun _ => ⟨fun j hj h => ?_, by omega, HCC.out.1, HCC.out.2.1, HCC.out.2.2.1, HCC.out.2.2.2⟩, ?_⟩
                      · have := h5 j (by omega) h
                        omega
                      · rw [HCC.out.1, HCC.out.2.2.1, HCC.out.2.2.2]
                        exact ⟨by kernel_rfl, by rw [mayN_mark HCC.out.1 HCC.out.2.2.1 HCC.out.2.2.2], .inl rfl, .inl rfl⟩))
                    go_wp2
                    exact ⟨⟨k + 1, by omega, by go_num, HBN.out, HNX⟩, by simp [intOf]; omega⟩
                  · have g5 : (x.f != 0) = true := by simp [h5]
                    go_wp2
                    go_ret
                    first | exact ⟨false, rfl, HBE.out, fun h => by cases h⟩ | exact .inl ⟨rfl, HBE.out⟩
                · have g4 : (x.t != 0) = true := by simp [h4]
                  go_wp2
                  go_ret
                  first | exact ⟨false, rfl, HBE.out, fun h => by cases h⟩ | exact .inl ⟨rfl, HBE.out⟩
              · have g3 : ((x.k : Int) != 0) = true := by simp; omega
                go_wp2
                go_ret
                first | exact ⟨false, rfl, HBE.out, fun h => by cases h⟩ | exact .inl ⟨rfl, HBE.out⟩
            · have g2 : ((x.c : Int) != 0) = true := by simp; omega
              go_wp2
              go_ret
              first | exact ⟨false, rfl, HBE.out, fun h => by cases h⟩ | exact .inl ⟨rfl, HBE.out⟩
    · obtain rfl : n = k := by omega
      have i2 : ¬ (n : Int) < (n : Int) := by omega
      have HBE := Lib.hid hB
      by_cases hn0 : n = 0
      · have i3 : ((n : Int) == 0) = true := by simp [hn0]
        subst hn0
        go_wp2
        go_ret
        first | exact ⟨false, rfl, HBE.out, fun h => by cases h⟩ | exact .inl ⟨rfl, HBE.out⟩
      · obtain ⟨q, hq⟩ : ∃ q, q + 1 = n := ⟨n - 1, by omega⟩
        obtain ⟨x, hx⟩ : ∃ x, l[q]! = x := ⟨_, rfl⟩
        have hxo : x.ok := HOK.out x (by rw [← hx, getElem!_pos l q (by rw [HN.out]; omega)]; exact List.getElem_mem _)
        obtain ⟨b, off, rfl, hb, p0, p1, _⟩ := it_at (HR.out.below hB) (show q < n by omega) hx
        have i3 : ((n : Int) == 0) = false := by simp; omega
        have hq2 : (n : Int) - 1 = (q : Int) := by omega
        have j1 : (0 : Int) ≤ (q : Int) := by omega
        have j2 : (q : Int) < (n : Int) := by omega
        obtain ⟨KK, hKK⟩ : ∃ z, ik x = z := ⟨_, rfl⟩
        have HKK := Lib.hid hKK
        have HXO := Lib.hid hxo
        have HX := Lib.hid hx
        have HQ := Lib.hid hq
        clear hKK hxo hx hq hb
        by_cases hm0 : x.m = 0
        · have g0 : (x.m != 0) = false := by simp [hm0]
          rw [hm0] at p0
          go_wp2_with fail
          refine (refOf_any x.c _ (by omega) (by have := HXO.out.1; omega)).mono ?_
          rw [show (ofF (x.c : Int)).1 = KK from HKK.out]
          rintro e w3 ⟨rfl, hB3⟩
          have hb3 := hB.trans (hB3.mono hB.size)
          have HFM : Hid (KK = 14 ∨ KK = 15 → FormedI l) := Lib.hid fun h => by
            refine ⟨fun i hi => (HI.out i (by rw [← HN.out]; exact hi)).1, fun i hi => (HI.out i (by rw [← HN.out]; exact hi)).2, fun e => ?_, ?_⟩
            · have := HN.out
              rw [e] at this
              have := HQ.out
              simp at *
              omega
            · rw [HN.out, ← HQ.out, Nat.add_sub_cancel, HX.out, HKK.out]
              exact h
          by_cases h14 : KK = 14
          · have g1 : (KK == 14) = true := by simp [h14]
            go_wp2
            go_ret
            first | exact ⟨_, rfl, hb3, fun _ => HFM.out (.inl h14)⟩ | exact .inr ⟨rfl, hb3, HFM.out (.inl h14)⟩
          · have g1 : (KK == 14) = false := beq_eq_false_iff_ne.2 h14
            by_cases h15 : KK = 15
            · have g2 : (KK == 15) = true := by simp [h15]
              go_wp2
              go_ret
              first | exact ⟨_, rfl, hb3, fun _ => HFM.out (.inr h15)⟩ | exact .inr ⟨rfl, hb3, HFM.out (.inr h15)⟩
            · have g2 : (KK == 15) = false := beq_eq_false_iff_ne.2 h15
              go_wp2
              go_ret
              first | exact ⟨false, rfl, hb3, fun h => by cases h⟩ | exact .inl ⟨rfl, hb3⟩
        · have g0 : (x.m != 0) = true := by simp [hm0]
          go_wp2
          go_ret
          first | exact ⟨false, rfl, HBE.out, fun h => by cases h⟩ | exact .inl ⟨rfl, HBE.out⟩
end Go.Proofs.Ytiofgaadfbjnoaa
