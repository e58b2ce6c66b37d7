/-
  Layer 27: the document's own Taken.
-/
import Derived.Test.YtgndfcjfajnemaaWyt
import Derived.Deep.QuietTactic
import Derived.BigQuiet
namespace Go.Proofs.Ytgndfcjfajnemaa
open Go.RowKit Go.Shelf Go.Lib
set_option linter.unusedVariables false

set_option maxHeartbeats 2000000 in
/-- The document's word at a place. -/
theorem wordP_any (A : Option Addr) (c : Nat) (f : Nat → Nat) (k : Nat) (w : World) (hk : k + 4 ≤ 64) (hf : ∀ i, f i < 256) (hby : Byt w w.heap.size A 64 c f) :
    Calls Try.prog 27 #[.slice A 64 c, .int .i64 k] w fun e w' => e = .returned (.int .u32 ((num (fun i => f (k + i)) 4 : Nat) : Int)) ∧ w = w' := by
  obtain ⟨b, off, rfl, hb, hc⟩ := hby.at_ (by decide)
  have hle := hby.le
  have hlt : num (fun i => f (k + i)) 4 < 4294967296 := num_lt _ 4 (fun i hi => hf _)
  have HN : Hid (Calls Try.prog 43 #[.slice (some ⟨b, off + k, none⟩) 4 (c - k)] w fun e w' => e = .returned (.int .u64 (num (fun i => f (k + i)) 4 : Nat)) ∧ w = w') := Lib.hid (number_any _ 4 (c - k) _ w (by decide) (Byt.mk_ hb (by omega) (by omega) (fun i hi => by rw [Nat.add_assoc]; exact hc (k + i) (by omega))))
  obtain ⟨N, hN⟩ : ∃ N, num (fun i => f (k + i)) 4 = N := ⟨_, rfl⟩
  rw [hN] at HN hlt ⊢
  have v0 : IntKind.i64.wrap ((k : Int) + 4) = ((k + 4 : Nat) : Int) := by rw [IntKind.wrap_i64]; omega
  have v1 : IntKind.u32.wrap (N : Int) = (N : Int) := IntWalk.u32_in _ (by omega)
  clear hN hby hc
  go_enter Try.func27, Try.ntmps27
  go_wp2_with (go_at_call 43; refine HN.out.mono ?_; rintro e w1 ⟨rfl, rfl⟩)
  go_ret
  exact ⟨ret_int (by rfl), rfl⟩

set_option maxRecDepth 100000 in
set_option maxHeartbeats 16000000 in
theorem rtaken_any (T : Option Addr) (m d : Nat) (G : Nat → TV) (st v : Int) (A : Option Addr) (c : Nat) (f : Nat → Nat) (w : World) (hm : m ≤ 1000) (hT : Cel w w.heap.size 5 T m d (tscell G)) (hok : ∀ i, i < m → (G i).ok ∧ 0 ≤ (G i).p ∧ (G i).p ≤ 60 ∧ 25 ≤ (G i).d ∧ (G i).d ≤ 28) (hby : Byt w w.heap.size A 64 c f) (hf : ∀ i, f i < 256) :
    Calls Try.prog 16 #[.agg #[.slice T m d, .int .i64 st, .int .u32 v], .slice A 64 c] w fun e w' => e = .returned (.bool (allF 64 f G m)) ∧ Below w.heap.size w w' := by
  have HC := Lib.hid hT
  have HOK := Lib.hid hok
  have HBY := Lib.hid hby
  have HFF := Lib.hid hf
  have hb0 : Below w.heap.size w (w.alloc (.cells #[.slice T m d, .int .i64 st, .int .u32 v] 43)) := (Below.refl _ _).alloc (Nat.le_refl _) _
  have hr0 : RowC (w.alloc (.cells #[.slice T m d, .int .i64 st, .int .u32 v] 43)) w.heap.size #[.slice T m d, .int .i64 st, .int .u32 v] 43 := RowC.new _ _ _ _ rfl
  have HB0 := Lib.hid hb0
  have HR0 := Lib.hid hr0
  clear hT hok hby hf hb0 hr0
  go_enter Try.func16, Try.ntmps16
  go_wp2
  go_loopw [5] (fun i wr => ∃ k : Nat, k ≤ m ∧ i = .int .i64 k ∧ Below w.heap.size w wr ∧ Hid (RowC wr w.heap.size #[.slice T m d, .int .i64 st, .int .u32 v] 43) ∧ Hid (allF 64 f G k = true))
    (fun i _ => m - (intOf i).toNat)
  case atStart => exact ⟨0, Nat.zero_le _, rfl, HB0.out, HR0, Lib.hid rfl⟩
  case round =>
    clear HB0 HR0
    obtain ⟨k, hk, rfl, hB, HR, hno⟩ := hrel
    have HB := Lib.hid hB
    have b0 := HR.out.cell 0 _ rfl
    by_cases hl : k < m
    · obtain ⟨x, hx⟩ : ∃ x, G k = x := ⟨_, rfl⟩
      obtain ⟨b, o, rfl, hbl, q0, q1, q2, q3, q4⟩ := ts_at (HC.out.below hB) hl hx
      have HX := Lib.hid hx
      obtain ⟨hxo, hp0, hp1, hd0, hd1⟩ := HOK.out k hl
      rw [hx] at hxo hp0 hp1 hd0 hd1
      have i1 : (0 : Int) ≤ (k : Int) := by omega
      have i2 : (k : Int) < (m : Int) := by omega
      have HAS := Lib.hid (allF_succ 64 f G k)
      obtain ⟨p, mm, dd, kk, s⟩ := x
      dsimp only at q0 q1 q2 q3 q4 hp0 hp1 hd0 hd1
      obtain ⟨P, rfl⟩ := Int.eq_ofNat_of_zero_le hp0
      have hmm : mm < 4294967296 := hxo.2.1
      have hkk : kk < 4294967296 := hxo.2.2
      have hH : holdF 64 f ⟨(P : Int), mm, dd, kk, s⟩ = holdV (wrdF f (P : Int) &&& mm) ⟨(P : Int), mm, dd, kk, s⟩ := by
        unfold holdF
        rw [if_pos]
        show flt ((64 : Nat) : Int) (P : Int) 4 = 0
        unfold flt
        rw [if_pos (by simp), if_neg (by omega)]
      have HH := Lib.hid hH
      have hN : wrdF f (P : Int) < 4294967296 := num_lt _ 4 fun i hi => HFF.out _
      have hb2 := hB.alloc hB.size (.cells #[.int .i64 (P : Int), .int .u32 mm, .int .i64 dd, .int .u32 kk, .bool s] 46)
      have HWD : Hid (∀ q, Calls Try.prog 27 #[.slice A 64 c, .int .i64 (P : Int)] ((wr.alloc (.cells #[.int .i64 (P : Int), .int .u32 mm, .int .i64 dd, .int .u32 kk, .bool s] 46)).drewN q) fun e w' => e = .returned (.int .u32 (wrdF f (P : Int) : Nat)) ∧ w' = (wr.alloc (.cells #[.int .i64 (P : Int), .int .u32 mm, .int .i64 dd, .int .u32 kk, .bool s] 46)).drewN q) := Lib.hid fun q => (wordP_any A c f P _ (by omega) HFF.out (((HBY.out.below hb2).more hb2.size).drewN q)).mono fun e w' ⟨h1, h2⟩ => ⟨h1, h2.symm⟩
      have hrt : RowC (wr.alloc (.cells #[.int .i64 (P : Int), .int .u32 mm, .int .i64 dd, .int .u32 kk, .bool s] 46)) wr.heap.size #[.int .i64 (P : Int), .int .u32 mm, .int .i64 dd, .int .u32 kk, .bool s] 46 := RowC.new _ _ _ _ rfl
      have hr3 := HR.out.alloc (.cells #[.int .i64 (P : Int), .int .u32 mm, .int .i64 dd, .int .u32 kk, .bool s] 46)
      have HRT := Lib.hid hrt
      have HR3 := Lib.hid hr3
      have HB2 := Lib.hid hb2
      generalize wrdF f (P : Int) = N at *
      have hand : bits .and .u32 (N : Int) (mm : Int) = ((N &&& mm : Nat) : Int) := u32_and_nat N mm hN hmm
      have ha : N &&& mm < 4294967296 := Nat.lt_of_le_of_lt Nat.and_le_left hN
      obtain ⟨a, hae⟩ : ∃ a, N &&& mm = a := ⟨_, rfl⟩
      rw [hae] at hand ha HH
      have t0 := hrt.cell 0 _ rfl
      have t1 := hrt.cell 1 _ rfl
      clear hae hx hxo hp0 hp1 hH hb2 hrt hr3 hB HR
      go_wp2
      go_quiet ((go_at_call 27; exact Calls.quiet_of_same (HWD.out _)))
      have HB3 : Hid (Below w.heap.size w ((wr.alloc (.cells #[.int .i64 (P : Int), .int .u32 mm, .int .i64 dd, .int .u32 kk, .bool s] 46)).drewN nq)) := Lib.hid ⟨HB2.out.os, HB2.out.tape, HB2.out.output, HB2.out.size, HB2.out.block⟩
      have HR4 : Hid (RowC ((wr.alloc (.cells #[.int .i64 (P : Int), .int .u32 mm, .int .i64 dd, .int .u32 kk, .bool s] 46)).drewN nq) w.heap.size #[.slice (some ⟨b, o, none⟩) m d, .int .i64 st, .int .u32 v] 43) := HR3
      have hrt4 : RowC ((wr.alloc (.cells #[.int .i64 (P : Int), .int .u32 mm, .int .i64 dd, .int .u32 kk, .bool s] 46)).drewN nq) wr.heap.size #[.int .i64 (P : Int), .int .u32 mm, .int .i64 dd, .int .u32 kk, .bool s] 46 := HRT.out
      generalize (wr.alloc (.cells #[.int .i64 (P : Int), .int .u32 mm, .int .i64 dd, .int .u32 kk, .bool s] 46)).drewN nq = W3 at *
      have c2 := hrt4.cell 2 _ rfl
      have c3 := hrt4.cell 3 _ rfl
      have c4 := hrt4.cell 4 _ rfl
      clear hrt4 HRT HR3 HB2 HWD t0 t1 q0 q1 q2 q3 q4 b0
      obtain ⟨z, hz⟩ : ∃ z, (bits .and .u32 (a : Int) (kk : Int) != 0) = z := ⟨_, rfl⟩
      have hd : dd = 25 ∨ dd = 26 ∨ dd = 27 ∨ dd = 28 := by omega
      rcases hd with rfl | rfl | rfl | rfl
      · by_cases hc : a = kk
        · have hv : ∀ q : Bool, holdV a ⟨(P : Int), mm, 25, kk, q⟩ = (true == q) := fun q => by unfold holdV; rw [if_pos rfl]; show (decide _ == q) = _; rw [decide_eq_true hc]
          have hq : ((a : Int) == (kk : Int)) = true := by rw [beq_iff_eq]; omega
          clear hc
          cases s
          · go_wp2
            go_ret
            refine ⟨?_, HB3.out⟩
            rw [allF_not hl (by rw [HX.out, HH.out, hv]; rfl)]
            rfl
          · go_wp2
            exact ⟨⟨k + 1, by omega, by go_num, HB3.out, HR4, Lib.hid (by rw [HAS.out, hno.out, HX.out, HH.out, hv]; rfl)⟩, by simp [intOf]; omega⟩
        · have hv : ∀ q : Bool, holdV a ⟨(P : Int), mm, 25, kk, q⟩ = (false == q) := fun q => by unfold holdV; rw [if_pos rfl]; show (decide _ == q) = _; rw [decide_eq_false hc]
          have hq : ((a : Int) == (kk : Int)) = false := by rw [beq_eq_false_iff_ne]; omega
          clear hc
          cases s
          · go_wp2
            exact ⟨⟨k + 1, by omega, by go_num, HB3.out, HR4, Lib.hid (by rw [HAS.out, hno.out, HX.out, HH.out, hv]; rfl)⟩, by simp [intOf]; omega⟩
          · go_wp2
            go_ret
            refine ⟨?_, HB3.out⟩
            rw [allF_not hl (by rw [HX.out, HH.out, hv]; rfl)]
            rfl
      · by_cases hc : kk < a
        · have hv : ∀ q : Bool, holdV a ⟨(P : Int), mm, 26, kk, q⟩ = (true == q) := fun q => by unfold holdV; rw [if_neg (show ¬ ((26 : Int) = 25) by decide), if_pos rfl]; show (decide _ == q) = _; rw [decide_eq_true hc]
          have hq : decide (kk < a) = true := decide_eq_true hc
          clear hc
          cases s
          · go_wp2
            go_ret
            refine ⟨?_, HB3.out⟩
            rw [allF_not hl (by rw [HX.out, HH.out, hv]; rfl)]
            rfl
          · go_wp2
            exact ⟨⟨k + 1, by omega, by go_num, HB3.out, HR4, Lib.hid (by rw [HAS.out, hno.out, HX.out, HH.out, hv]; rfl)⟩, by simp [intOf]; omega⟩
        · have hv : ∀ q : Bool, holdV a ⟨(P : Int), mm, 26, kk, q⟩ = (false == q) := fun q => by unfold holdV; rw [if_neg (show ¬ ((26 : Int) = 25) by decide), if_pos rfl]; show (decide _ == q) = _; rw [decide_eq_false hc]
          have hq : decide (kk < a) = false := decide_eq_false hc
          clear hc
          cases s
          · go_wp2
            exact ⟨⟨k + 1, by omega, by go_num, HB3.out, HR4, Lib.hid (by rw [HAS.out, hno.out, HX.out, HH.out, hv]; rfl)⟩, by simp [intOf]; omega⟩
          · go_wp2
            go_ret
            refine ⟨?_, HB3.out⟩
            rw [allF_not hl (by rw [HX.out, HH.out, hv]; rfl)]
            rfl
      · by_cases hc : kk ≤ a
        · have hv : ∀ q : Bool, holdV a ⟨(P : Int), mm, 27, kk, q⟩ = (true == q) := fun q => by unfold holdV; rw [if_neg (show ¬ ((27 : Int) = 25) by decide), if_neg (show ¬ ((27 : Int) = 26) by decide), if_pos rfl]; show (decide _ == q) = _; rw [decide_eq_true hc]
          have hq : decide (kk ≤ a) = true := decide_eq_true hc
          clear hc
          cases s
          · go_wp2
            go_ret
            refine ⟨?_, HB3.out⟩
            rw [allF_not hl (by rw [HX.out, HH.out, hv]; rfl)]
            rfl
          · go_wp2
            exact ⟨⟨k + 1, by omega, by go_num, HB3.out, HR4, Lib.hid (by rw [HAS.out, hno.out, HX.out, HH.out, hv]; rfl)⟩, by simp [intOf]; omega⟩
        · have hv : ∀ q : Bool, holdV a ⟨(P : Int), mm, 27, kk, q⟩ = (false == q) := fun q => by unfold holdV; rw [if_neg (show ¬ ((27 : Int) = 25) by decide), if_neg (show ¬ ((27 : Int) = 26) by decide), if_pos rfl]; show (decide _ == q) = _; rw [decide_eq_false hc]
          have hq : decide (kk ≤ a) = false := decide_eq_false hc
          clear hc
          cases s
          · go_wp2
            exact ⟨⟨k + 1, by omega, by go_num, HB3.out, HR4, Lib.hid (by rw [HAS.out, hno.out, HX.out, HH.out, hv]; rfl)⟩, by simp [intOf]; omega⟩
          · go_wp2
            go_ret
            refine ⟨?_, HB3.out⟩
            rw [allF_not hl (by rw [HX.out, HH.out, hv]; rfl)]
            rfl
      · by_cases hc : a &&& kk ≠ 0
        · have hv : ∀ q : Bool, holdV a ⟨(P : Int), mm, 28, kk, q⟩ = (true == q) := fun q => by unfold holdV; rw [if_neg (show ¬ ((28 : Int) = 25) by decide), if_neg (show ¬ ((28 : Int) = 26) by decide), if_neg (show ¬ ((28 : Int) = 27) by decide), if_pos rfl]; show (decide _ == q) = _; rw [decide_eq_true hc]
          have hq : z = true := by rw [← hz, u32_and_nat a kk ha hkk]; exact bne_iff_ne.2 (by omega)
          clear hc
          subst hq
          cases s
          · go_wp2
            go_ret
            refine ⟨?_, HB3.out⟩
            rw [allF_not hl (by rw [HX.out, HH.out, hv]; rfl)]
            rfl
          · go_wp2
            exact ⟨⟨k + 1, by omega, by go_num, HB3.out, HR4, Lib.hid (by rw [HAS.out, hno.out, HX.out, HH.out, hv]; rfl)⟩, by simp [intOf]; omega⟩
        · have hv : ∀ q : Bool, holdV a ⟨(P : Int), mm, 28, kk, q⟩ = (false == q) := fun q => by unfold holdV; rw [if_neg (show ¬ ((28 : Int) = 25) by decide), if_neg (show ¬ ((28 : Int) = 26) by decide), if_neg (show ¬ ((28 : Int) = 27) by decide), if_pos rfl]; show (decide _ == q) = _; rw [decide_eq_false hc]
          have hq : z = false := by rw [← hz, u32_and_nat a kk ha hkk]; simpa using hc
          clear hc
          subst hq
          cases s
          · go_wp2
            exact ⟨⟨k + 1, by omega, by go_num, HB3.out, HR4, Lib.hid (by rw [HAS.out, hno.out, HX.out, HH.out, hv]; rfl)⟩, by simp [intOf]; omega⟩
          · go_wp2
            go_ret
            refine ⟨?_, HB3.out⟩
            rw [allF_not hl (by rw [HX.out, HH.out, hv]; rfl)]
            rfl
    · obtain rfl : k = m := by omega
      clear hB
      go_wp2
      go_ret
      exact ⟨by rw [hno.out]; rfl, HB.out⟩
end Go.Proofs.Ytgndfcjfajnemaa
