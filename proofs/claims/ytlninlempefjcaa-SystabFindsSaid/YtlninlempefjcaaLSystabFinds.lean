/-
  Of any table that may be (of 40 rows, names of 60 bytes): the row of any name, its numbers, the names of any numbers, and of any multiplexer's, are the document's.
-/
import Derived.Test.YtlninlempefjcaaRows
import Derived.Test.YtlninlempefjcaaSr
import Derived.Test.YtlninlempefjcaaSi
import Derived.Test.YtlninlempefjcaaSm
import Derived.Test.YtlninlempefjcaaSn
import Derived.Test.YtlninlempefjcaaSq
import Derived.BigRegion
import Derived.Deep.RegionHeld3
import Derived.Deep.CutRange
import Derived.ProofKit
import Derived.OpenShut
import Derived.ShutString
import Derived.ChangeOld
import Derived.Below
import Derived.Lib.SmallJoins
namespace Go.Proofs.Ytlninlempefjcaa
open Go.RowKit
set_option linter.unusedVariables false

theorem own_tb {w : World} {base n c : Nat} {E : TypeId} {A : Option Addr} {T : Nat → SR} (h : OwnC w base E 8 A n c (rcell T)) : TbA w A n T := by
  rcases Nat.eq_zero_or_pos n with h0 | hp
  · exact .inl h0
  obtain ⟨b, rfl, _, hlt, hcl⟩ := own_atz h hp
  refine .inr ⟨b, 0, rfl, hlt, fun i hi => ?_⟩
  have hc : ∀ c, c < 8 → w.cell? ⟨b, 0 + i * 8 + c, none⟩ = some ((srow (T i)).getD c undef) := fun c hc => by
    rw [Nat.zero_add, hcl (i * 8 + c) (by omega), rcell_at T i c hc]
  exact ⟨hc 0 (by omega), hc 1 (by omega), hc 2 (by omega), hc 3 (by omega), hc 4 (by omega), hc 5 (by omega), hc 6 (by omega), hc 7 (by omega)⟩
/-- Two looks for the same. -/
theorem two_looks {P Q : Nat → Bool} {n : Nat} (e : ∀ i, i < n → P i = Q i) {X Y : Nat → Prop} {X0 Y0 : Prop}
    (h : (∃ j, j < n ∧ P j = true ∧ (∀ i, i < j → P i = false) ∧ X j) ∨ ((∀ i, i < n → P i = false) ∧ X0)) (h' : (∃ j, j < n ∧ Q j = true ∧ (∀ i, i < j → Q i = false) ∧ Y j) ∨ ((∀ i, i < n → Q i = false) ∧ Y0)) :
    (∃ j, j < n ∧ Q j = true ∧ (∀ i, i < j → Q i = false) ∧ X j ∧ Y j) ∨ ((∀ i, i < n → Q i = false) ∧ X0 ∧ Y0) := by
  rcases h with ⟨j, h1, h2, h3, h4⟩ | ⟨h1, h2⟩ <;> rcases h' with ⟨k, k1, k2, k3, k4⟩ | ⟨k1, k2⟩
  · have : j = k := by
      rcases Nat.lt_trichotomy j k with h | h | h
      · have := k3 j h; rw [← e j h1, h2] at this; cases this
      · exact h
      · have := h3 k h; rw [e k k1, k2] at this; cases this
    subst this
    exact .inl ⟨j, k1, k2, k3, h4, k4⟩
  · have := k1 j h1; rw [← e j h1, h2] at this; cases this
  · have := h1 k k1; rw [e k k1, k2] at this; cases this
  · exact .inr ⟨k1, h2, k2⟩
theorem mx_same {T : Nat → SR} {i : Nat} {mx sb : Int} (h : MxP (T i)) : isSub T mx sb i = subR T mx sb i := by
  unfold isSub subR
  cases hm : ((T i).mx == mx)
  · simp
  · have hm' : (T i).mx = mx := by simpa using hm
    rcases h with ⟨a, _⟩ | ⟨a | a, _⟩ <;> rw [← hm', a] <;> simp
theorem numAt_same {r : SR} {k a : Nat} (ha : a < 5) (h : RngP r) : numAt r k a = numR r k a := by
  have := (h a ha).1
  unfold numAt numR
  by_cases h1 : numI r a = -1
  · rw [if_pos h1, if_neg (by omega)]
  · rw [if_neg h1, if_pos (by omega)]
abbrev sz0 : SR := ⟨⟨#[]⟩, 0, 0, 0, 0, 0, 0, 0⟩

set_option maxRecDepth 100000 in
theorem eqA5 (a0 a1 a2 a3 a4 : Int) (w : World) : (Op.equalIn 9999 31 (.agg #[.int .i64 a0, .int .i64 a1, .int .i64 a2, .int .i64 a3, .int .i64 a4]) (.agg #[.int .i64 a0, .int .i64 a1, .int .i64 a2, .int .i64 a3, .int .i64 a4])).run Try.prog w = .ok true w := by
  have u3 := Try.underlying3
  rw [show (9999 : Nat) = 9998 + 1 from rfl, Op.equalIn]
  simp only [Sem.run_bind, run_underlying Try.underlying31, Result.andThen_ok]
  simp only [Std.Legacy.Range.forIn_eq_forIn_range', Std.Legacy.Range.size, Nat.sub_zero, Nat.add_sub_cancel, Nat.div_one, List.range'_succ, List.range'_zero, List.forIn_cons, List.forIn_nil]
  go_simp
theorem neqRow (nm : ByteArray) (a0 a1 a2 a3 a4 a5 a6 : Int) (W : World) : (binOp .neq 33 (.agg #[.string nm, .int .i64 a0, .int .i64 a1, .int .i64 a2, .int .i64 a3, .int .i64 a4, .int .i64 a5, .int .i64 a6]) (.agg #[.string nm, .int .i64 a0, .int .i64 a1, .int .i64 a2, .int .i64 a3, .int .i64 a4, .int .i64 a5, .int .i64 a6])).run Try.prog W = .ok (.bool false) W := by
  have e5 := eqA5 a0 a1 a2 a3 a4
  go_simp

set_option maxRecDepth 100000 in
set_option maxHeartbeats 32000000 in
theorem walk_SystabFinds {w0 : World} (A : Option Addr) (n cap : Nat) (T : Nat → SR) (ht : TbA w0 A n T) (s : ByteArray) (hs : s.size ≤ maxLen) (qa qn qm qs : Int) :
    Calls Try.prog 3 #[.slice A n cap, .string s, .agg #[.int .i64 qa, .int .i64 qn, .int .i64 qm, .int .i64 qs]] w0 fun e w' => e = .returned (.bool true) ∧ Below w0.heap.size w0 w' := by
  obtain ⟨U, hU⟩ : ∃ U, w0.alloc (.cells #[.int .i64 qa, .int .i64 qn, .int .i64 qm, .int .i64 qs] 24) = U := ⟨_, rfl⟩
  have ru : RowC U w0.heap.size #[.int .i64 qa, .int .i64 qn, .int .i64 qm, .int .i64 qs] 24 := by rw [← hU]; exact RowC.new _ _ _ _ rfl
  have hbU : Below w0.heap.size w0 U := by rw [← hU]; exact (Below.refl _ _).alloc (Nat.le_refl _) _
  have HT := Lib.hid (ht.below hbU (Nat.le_refl _))
  have HLT := Lib.hid (light_any A n cap T U HT.out)
  have HRU := Lib.hid ru
  have HBU := Lib.hid hbU
  have HU := Lib.hid hU
  clear hU hbU ru ht
  go_enter Try.func3, Try.ntmps3
  go_upto_region 1 with fail
  rw [HU.out]
  go_wp2_with fail
  refine HLT.out.mono ?_
  rintro e w1 ⟨h, rfl⟩
  rcases h with ⟨hok, rfl⟩ | ⟨hok, rfl⟩
  case inr =>
    clear hok
    go_wp2
    go_ret
    exact ⟨rfl, HBU.out⟩
  have h40 := hok.1
  clear hok HLT
  by_cases h60 : s.size > 60
  · have f0 : (s.size : Int) > 60 := by omega
    have f1 : decide ((s.size : Int) > 60) = true := decide_eq_true f0
    clear h60
    go_wp2
    go_ret
    exact ⟨rfl, HBU.out⟩
  have f0 : ¬ (s.size : Int) > 60 := by omega
  have f1 : decide ((s.size : Int) > 60) = false := decide_eq_false f0
  have HRT := Lib.hid (refRight_any A n cap T U HT.out)
  have HAW := Lib.hid fun W => awake11_any W
  go_wp2_with fail
  refine HRT.out.mono ?_
  rintro e w2 ⟨p0, q0, hRP, rfl, hB2⟩
  have HT2 := Lib.hid (HT.out.below hB2 (Nat.le_refl _))
  have HRU2 := Lib.hid (HRU.out.below hB2 HRU.out.lt)
  have HB2 := Lib.hid (HBU.out.trans (hB2.mono HBU.out.size))
  clear hB2 HT HRU HBU HRT f0 f1 h60
  by_cases hq : q0 = 0
  case neg =>
    have g1 : ((q0 : Int) != 0) = true := by simp [hq]
    have g2 : (q0 != 0) = true := by simp [hq]
    clear hRP hq
    go_wp2_with (go_at_call 10; refine (HAW.out _).mono ?_; rintro e w3 ⟨rfl, hB3⟩)
    go_ret
    exact ⟨rfl, HB2.out.trans (hB3.mono HB2.out.size)⟩
  have HOK : Hid (∀ j, j < n → rowF T j = 0) := Lib.hid (by
    rcases hRP with ⟨a1, a2, a3⟩ | ⟨a1, a2, a3, a4, a5⟩ | ⟨a1, a2, a3, a4⟩
    · omega
    · exact absurd (a5.symm.trans hq) a4
    · exact a2)
  subst hq
  have HOF := Lib.hid (of11_any A n cap T w2 (by omega) HT2.out)
  clear hRP
  go_wp2_with fail
  refine HOF.out.mono ?_
  rintro e w3 ⟨A2, c2, rfl, hown, hB3⟩
  have HT3 := Lib.hid (HT2.out.below hB3 (Nat.le_refl _))
  have HX3 := Lib.hid (own_tb hown)
  have HRU3 := Lib.hid (HRU2.out.below hB3 HRU2.out.lt)
  have HB3 := Lib.hid (HB2.out.trans (hB3.mono HB2.out.size))
  have hfd : Calls Try.prog 12 #[.slice A2 n c2, .string s] w3 fun e w' => ∃ (r : SR) (i : Nat) (b : Bool), ((∃ j, j < n ∧ isN T s j = true ∧ (∀ i, i < j → isN T s i = false) ∧ (r = T j ∧ i = j ∧ b = true)) ∨ ((∀ i, i < n → isN T s i = false) ∧ (r = sz0 ∧ i = 0 ∧ b = false))) ∧ e = .returned (.tuple #[.agg #[.string r.nm, .int .i64 r.n0, .int .i64 r.n1, .int .i64 r.n2, .int .i64 r.n3, .int .i64 r.n4, .int .i64 r.mx, .int .i64 r.sb], .int .i64 (i : Nat), .bool b]) ∧ Below w3.heap.size w3 w' := by
    refine (Find_any A2 n c2 T s w3 (by omega) HX3.out).mono ?_
    rintro e w' ⟨⟨j, h1, h2, h3, rfl⟩ | ⟨h1, rfl⟩, hB⟩
    · exact ⟨T j, j, true, .inl ⟨j, h1, h2, h3, rfl, rfl, rfl⟩, rfl, hB⟩
    · exact ⟨sz0, 0, false, .inr ⟨h1, rfl, rfl, rfl⟩, rfl, hB⟩
  have HFD := Lib.hid hfd
  clear hown hB3 hfd HT2 HRU2 HB2 HOF
  go_wp2_with fail
  refine HFD.out.mono ?_
  rintro e w4 ⟨r, i0, fb, hF, rfl, hB4⟩
  obtain ⟨V, hV⟩ : ∃ V, w4.alloc (.cells #[.string r.nm, .int .i64 r.n0, .int .i64 r.n1, .int .i64 r.n2, .int .i64 r.n3, .int .i64 r.n4, .int .i64 r.mx, .int .i64 r.sb] 33) = V := ⟨_, rfl⟩
  have rv : RowC V w4.heap.size (srow r) 33 := by rw [← hV]; exact RowC.new _ _ _ _ rfl
  have hbv : Below w3.heap.size w3 V := by rw [← hV]; exact hB4.alloc hB4.size _
  have HRV := Lib.hid rv
  have HV := Lib.hid hV
  have HTV := Lib.hid (HT3.out.below hbv (Nat.le_refl _))
  have HXV := Lib.hid (HX3.out.below hbv (Nat.le_refl _))
  have HRUV := Lib.hid (HRU3.out.below hbv HRU3.out.lt)
  have HBV := Lib.hid (HB3.out.trans (hbv.mono HB3.out.size))
  have HRF := Lib.hid (refFind_any A n cap T s V (by omega) HTV.out)
  have HF := Lib.hid hF
  clear hV rv hbv hB4 hF HT3 HX3 HRU3 HB3 HFD
  go_upto_region 8 with fail
  rw [HV.out]
  generalize w4.heap.size = X at *
  clear HV
  have hrf : Calls Try.prog 13 #[.slice A n cap, .string s] V fun e w' => ∃ p : Int, ((∃ j, j < n ∧ isN T s j = true ∧ (∀ i, i < j → isN T s i = false) ∧ p = (j : Nat)) ∨ ((∀ i, i < n → isN T s i = false) ∧ p = -1)) ∧ e = .returned (.int .i64 p) ∧ V = w' := by
    refine HRF.out.mono ?_
    rintro e w' ⟨⟨j, h1, h2, h3, rfl⟩ | ⟨h1, rfl⟩, hB⟩
    · exact ⟨_, .inl ⟨j, h1, h2, h3, rfl⟩, rfl, hB⟩
    · exact ⟨_, .inr ⟨h1, rfl⟩, rfl, hB⟩
  have HRG := Lib.hid hrf
  clear hrf HRF
  go_wp2_with fail
  refine HRG.out.mono ?_
  rintro e w5 ⟨p, hP, rfl, rfl⟩
  have HFP := Lib.hid (two_looks (fun _ _ => rfl) HF.out hP)
  clear hP HF HRG
  go_upto_region 9 with fail
  go_cut [80] from 50 to 80 (fun s wx => s = .bool false ∧ RowC wx w0.heap.size #[.int .i64 qa, .int .i64 qn, .int .i64 qm, .int .i64 qs] 24 ∧ TbA wx A n T ∧ TbA wx A2 n T ∧ Below w0.heap.size w0 wx)
  case first =>
    have hk0 : ∀ N, Below V.heap.size V (V.drewN N) := fun N => bdn (Below.refl _ V) N
    have HE : Hid (∀ W, Below V.heap.size V W → RowC W w0.heap.size #[.int .i64 qa, .int .i64 qn, .int .i64 qm, .int .i64 qs] 24 ∧ TbA W A n T ∧ TbA W A2 n T ∧ Below w0.heap.size w0 W) := Lib.hid fun W hW => ⟨HRUV.out.below hW HRUV.out.lt, HTV.out.below hW (Nat.le_refl _), HXV.out.below hW (Nat.le_refl _), HBV.out.trans (hW.mono HBV.out.size)⟩
    rcases HFP.out with ⟨j, hj, _, _, ⟨hr, hi, rfl⟩, rfl⟩ | ⟨_, ⟨rfl, rfl, rfl⟩, rfl⟩
    · subst hi
      obtain ⟨b, o, rfl, hTb⟩ := HXV.out.at_ hj
      obtain ⟨q0, q1, q2, q3, q4, q5, q6, q7⟩ := hTb.2 i0 hj
      rw [← hr] at q0 q1 q2 q3 q4 q5 q6 q7
      have x0 := HRV.out.cell 0 _ rfl
      have x1 := HRV.out.cell 1 _ rfl
      have x2 := HRV.out.cell 2 _ rfl
      have x3 := HRV.out.cell 3 _ rfl
      have x4 := HRV.out.cell 4 _ rfl
      have x5 := HRV.out.cell 5 _ rfl
      have x6 := HRV.out.cell 6 _ rfl
      have x7 := HRV.out.cell 7 _ rfl
      have i1 : (i0 : Int) ≥ 0 := by omega
      have i2 : decide ((i0 : Int) ≥ 0) = true := decide_eq_true i1
      have i3 : (i0 : Int) < (n : Int) := by omega
      have i4 : ¬ (i0 : Int) < 0 := by omega
      have i5 : decide ((i0 : Int) < 0) = false := decide_eq_false i4
      have i6 : (0 : Int) ≤ (i0 : Int) := by omega
      have e33 : ∀ W, (binOp .neq 33 (.agg #[.string r.nm, .int .i64 r.n0, .int .i64 r.n1, .int .i64 r.n2, .int .i64 r.n3, .int .i64 r.n4, .int .i64 r.mx, .int .i64 r.sb]) (.agg #[.string r.nm, .int .i64 r.n0, .int .i64 r.n1, .int .i64 r.n2, .int .i64 r.n3, .int .i64 r.n4, .int .i64 r.mx, .int .i64 r.sb])).run Try.prog W = .ok (.bool false) W := neqRow r.nm r.n0 r.n1 r.n2 r.n3 r.n4 r.mx r.sb
      clear hTb hr hj HFP HRV HTV HXV HRUV HBV
      go_quiet (fail)
      go_wp2
      go_meet
      exact ⟨rfl, HE.out _ (hk0 _)⟩
    · have x0 := HRV.out.cell 0 (.string ⟨#[]⟩) rfl
      have x1 := HRV.out.cell 1 (.int .i64 0) rfl
      have x2 := HRV.out.cell 2 (.int .i64 0) rfl
      have x3 := HRV.out.cell 3 (.int .i64 0) rfl
      have x4 := HRV.out.cell 4 (.int .i64 0) rfl
      have x5 := HRV.out.cell 5 (.int .i64 0) rfl
      have x6 := HRV.out.cell 6 (.int .i64 0) rfl
      have x7 := HRV.out.cell 7 (.int .i64 0) rfl
      have e33 := neqRow ⟨#[]⟩ 0 0 0 0 0 0 0
      clear HFP HRV HTV HXV HRUV HBV
      go_quiet (fail)
      go_wp2
      go_meet
      exact ⟨rfl, HE.out _ (hk0 _)⟩
  case rest =>
    obtain ⟨rfl, hru, ht, hx, hB⟩ := hcut
    have HW : Hid (∀ W, Below wc.heap.size wc W → RowC W w0.heap.size #[.int .i64 qa, .int .i64 qn, .int .i64 qm, .int .i64 qs] 24 ∧ TbA W A n T ∧ TbA W A2 n T ∧ Below w0.heap.size w0 W) := Lib.hid fun W hW => ⟨hru.below hW hru.lt, ht.below hW (Nat.le_refl _), hx.below hW (Nat.le_refl _), hB.trans (hW.mono hB.size)⟩
    have y2 := hru.cell 2 (.int .i64 qm) rfl
    have y3 := hru.cell 3 (.int .i64 qs) rfl
    have hsb : Calls Try.prog 14 #[.slice A2 n c2, .int .i64 qm, .int .i64 qs] wc fun e w' => ∃ (nm : ByteArray) (b : Bool), ((∃ j, j < n ∧ isSub T qm qs j = true ∧ (∀ i, i < j → isSub T qm qs i = false) ∧ (nm = (T j).nm ∧ b = true)) ∨ ((∀ i, i < n → isSub T qm qs i = false) ∧ (nm = ⟨#[]⟩ ∧ b = false))) ∧ e = .returned (.tuple #[.string nm, .bool b]) ∧ Below wc.heap.size wc w' := by
      refine (Sub_any A2 n c2 T qm qs wc (by omega) hx).mono ?_
      rintro e w' ⟨⟨j, h1, h2, h3, rfl⟩ | ⟨h1, rfl⟩, hB⟩
      · exact ⟨_, _, .inl ⟨j, h1, h2, h3, rfl, rfl⟩, rfl, hB⟩
      · exact ⟨_, _, .inr ⟨h1, rfl, rfl⟩, rfl, hB⟩
    have HSB := Lib.hid hsb
    clear hru ht hx hB hsb HTV HRUV HBV HRV HXV
    go_wp2_with fail
    refine HSB.out.mono ?_
    rintro e w5 ⟨nm1, b1, hS, rfl, hk5⟩
    have HS := Lib.hid hS
    have HK5 := Lib.hid hk5
    have h5 := HW.out _ hk5
    have y2 := h5.1.cell 2 (.int .i64 qm) rfl
    have y3 := h5.1.cell 3 (.int .i64 qs) rfl
    have hrs : Calls Try.prog 15 #[.slice A n cap, .int .i64 qm, .int .i64 qs] w5 fun e w' => ∃ p : Int, ((∃ j, j < n ∧ subR T qm qs j = true ∧ (∀ i, i < j → subR T qm qs i = false) ∧ p = (j : Nat)) ∨ ((∀ i, i < n → subR T qm qs i = false) ∧ p = -1)) ∧ e = .returned (.int .i64 p) ∧ w5 = w' := by
      refine (refSub_any A n cap T qm qs w5 (by omega) h5.2.1).mono ?_
      rintro e w' ⟨⟨j, h1, h2, h3, rfl⟩ | ⟨h1, rfl⟩, hB⟩
      · exact ⟨_, .inl ⟨j, h1, h2, h3, rfl⟩, rfl, hB⟩
      · exact ⟨_, .inr ⟨h1, rfl⟩, rfl, hB⟩
    have HRS := Lib.hid hrs
    clear hS hk5 h5 hrs HSB
    go_wp2_with fail
    refine HRS.out.mono ?_
    rintro e w6 ⟨p1, hP1, rfl, rfl⟩
    have HSP := Lib.hid (two_looks (fun i hi => mx_same (row_ok (HOK.out i hi)).2.2.2.1) HS.out hP1)
    clear hP1 HRS HS y2 y3
    go_upto_region 13 with fail
    go_cut [120] from 96 to 120 (fun s wx => s = .bool false ∧ wx = w5)
    case first =>
      rcases HSP.out with ⟨j, hj, _, _, ⟨hr, rfl⟩, rfl⟩ | ⟨_, ⟨rfl, rfl⟩, rfl⟩
      · obtain ⟨b, o, rfl, hTb⟩ := ((HW.out _ HK5.out).2.1).at_ hj
        have q0 := (hTb.2 j hj).1
        rw [← hr] at q0
        have i1 : (j : Int) ≥ 0 := by omega
        have i2 : decide ((j : Int) ≥ 0) = true := decide_eq_true i1
        have i3 : (j : Int) < (n : Int) := by omega
        have i4 : ¬ (j : Int) < 0 := by omega
        have i5 : decide ((j : Int) < 0) = false := decide_eq_false i4
        have i6 : (0 : Int) ≤ (j : Int) := by omega
        clear hTb hr hj HSP HFP
        go_wp2
        go_meet
        exact ⟨rfl, rfl⟩
      · clear HSP HFP
        go_wp2
        go_meet
        exact ⟨rfl, rfl⟩
    case rest =>
      obtain ⟨rfl, rfl⟩ := hcut
      clear HSP
      have h5 := HW.out _ HK5.out
      have y0 := h5.1.cell 0 (.int .i64 qa) rfl
      by_cases ha : qa < 0 ∨ 5 ≤ qa
      · have HNB := Lib.hid (Number_bad A2 n c2 qa ha s wc)
        have HMB := Lib.hid fun W => Name_bad A2 n c2 qa ha qn W
        clear h5 HFP
        go_wp2_with fail
        refine HNB.out.mono ?_
        rintro e w7 ⟨rfl, hB7⟩
        have hk7 := HK5.out.trans (hB7.mono HK5.out.size)
        have HK7 := Lib.hid hk7
        have h7 := HW.out _ hk7
        have y0 := h7.1.cell 0 (.int .i64 qa) rfl
        have y1 := h7.1.cell 1 (.int .i64 qn) rfl
        clear hk7 h7 hB7
        go_wp2_with fail
        refine (HMB.out _).mono ?_
        rintro e w8 ⟨rfl, hB8⟩
        have hk8 := HK7.out.trans (hB8.mono HK7.out.size)
        have h8 := HW.out _ hk8
        have HB8 := Lib.hid h8.2.2.2
        have y0 := h8.1.cell 0 (.int .i64 qa) rfl
        clear hk8 h8 hB8 y1
        by_cases hlo : qa < 0
        · have g1 : decide (qa < 0) = true := decide_eq_true hlo
          clear ha hlo
          go_wp2_with (go_at_call 10; refine (HAW.out _).mono ?_; rintro e w9 ⟨rfl, hB9⟩)
          go_ret
          exact ⟨rfl, HB8.out.trans (hB9.mono HB8.out.size)⟩
        · have g1 : decide (qa < 0) = false := decide_eq_false hlo
          have g2 : decide (qa > 4) = true := decide_eq_true (by omega)
          clear ha hlo
          go_wp2_with (go_at_call 10; refine (HAW.out _).mono ?_; rintro e w9 ⟨rfl, hB9⟩)
          go_ret
          exact ⟨rfl, HB8.out.trans (hB9.mono HB8.out.size)⟩
      · obtain ⟨a, rfl⟩ := Int.eq_ofNat_of_zero_le (show 0 ≤ qa by omega)
        have ha5 : a < 5 := by omega
        have g1 : decide ((a : Int) < 0) = false := decide_eq_false (by omega)
        have g2 : decide ((a : Int) > 4) = false := decide_eq_false (by omega)
        have HNB := Lib.hid (Number_any A2 n c2 T s a ha5 wc (by omega) h5.2.2.1)
        have HMB := Lib.hid fun W (hW : TbA W A2 n T) => Name_any A2 n c2 T a ha5 qn W (by omega) hW
        have HA5 := Lib.hid ha5
        clear h5 ha
        go_wp2_with fail
        refine HNB.out.mono ?_
        rintro e w7 ⟨v, er, hNP, rfl, hB7⟩
        have hk7 := HK5.out.trans (hB7.mono HK5.out.size)
        have HK7 := Lib.hid hk7
        have h7 := HW.out _ hk7
        have y0 := h7.1.cell 0 (.int .i64 (a : Nat)) rfl
        have y1 := h7.1.cell 1 (.int .i64 qn) rfl
        have HNM := Lib.hid (HMB.out _ h7.2.2.1)
        have hnm : Calls Try.prog 17 #[.slice A2 n c2, .int .i64 (a : Nat), .int .i64 qn] w7 fun e w' => ∃ (nm : ByteArray) (er : Int), ((∃ j, j < n ∧ isNum T a qn j = true ∧ (∀ i, i < j → isNum T a qn i = false) ∧ (nm = (T j).nm ∧ er = 0)) ∨ ((∀ i, i < n → isNum T a qn i = false) ∧ (nm = ⟨#[]⟩ ∧ er = 14))) ∧ e = .returned (.tuple #[.string nm, .int .i64 er]) ∧ Below w7.heap.size w7 w' := by
          refine HNM.out.mono ?_
          rintro e w' ⟨⟨j, h1, h2, h3, rfl⟩ | ⟨h1, rfl⟩, hB⟩
          · exact ⟨_, _, .inl ⟨j, h1, h2, h3, rfl, rfl⟩, rfl, hB⟩
          · exact ⟨_, _, .inr ⟨h1, rfl, rfl⟩, rfl, hB⟩
        have HNN := Lib.hid hnm
        have HNP := Lib.hid hNP
        clear hk7 h7 hB7 hNP hnm HNM HMB HNB
        go_wp2_with fail
        refine HNN.out.mono ?_
        rintro e w8 ⟨nm2, er2, hN2, rfl, hB8⟩
        have HN2 := Lib.hid hN2
        have hk8 := HK7.out.trans (hB8.mono HK7.out.size)
        have h8 := HW.out _ hk8
        have HK8 := Lib.hid hk8
        have y0 := h8.1.cell 0 (.int .i64 (a : Nat)) rfl
        clear hk8 h8 hB8 y1 hN2 HNN HK7
        go_upto_region 19 with fail
        go_cut [189] from 163 to 189 (fun s wx => s = .bool false ∧ wx = w8)
        case first =>
          have hcm : (∃ j, j < n ∧ p = (j : Nat) ∧ v = numAt (T j) j a ∧ er = 0) ∨ (p = -1 ∧ v = 0 ∧ er = 14) := by
            rcases two_looks (fun _ _ => rfl) HFP.out HNP.out with ⟨j, h1, _, _, ⟨_, h2⟩, h3, h4⟩ | ⟨_, ⟨_, h2⟩, h3, h4⟩
            · exact .inl ⟨j, h1, h2, h3, h4⟩
            · exact .inr ⟨h2, h3, h4⟩
          rcases hcm with ⟨j, hj, rfl, hv, rfl⟩ | ⟨rfl, rfl, rfl⟩
          · have i1 : (j : Int) ≥ 0 := by omega
            have i2 : decide ((j : Int) ≥ 0) = true := decide_eq_true i1
            have i4 : ¬ (j : Int) < 0 := by omega
            have i5 : decide ((j : Int) < 0) = false := decide_eq_false i4
            have hnr : Calls Try.prog 18 #[.slice A n cap, .int .i64 (a : Nat), .int .i64 (j : Nat)] w8 fun e w' => e = .returned (.int .i64 v) ∧ w8 = w' := by
              rw [hv, numAt_same HA5.out (row_ok (HOK.out j hj)).2.2.1]
              exact refNumber_any A n cap T a HA5.out j hj w8 (by omega) (HW.out _ HK8.out).2.1
            have HNR := Lib.hid hnr
            clear hnr hv hj HFP HNP
            go_wp2_with (go_at_call 18; refine HNR.out.mono ?_; rintro e w9 ⟨rfl, rfl⟩)
            go_meet
            exact ⟨rfl, rfl⟩
          · clear HFP HNP
            go_wp2
            go_meet
            exact ⟨rfl, rfl⟩
        case rest =>
          obtain ⟨rfl, rfl⟩ := hcut
          have h8 := HW.out _ HK8.out
          have y0 := h8.1.cell 0 (.int .i64 (a : Nat)) rfl
          have y1 := h8.1.cell 1 (.int .i64 qn) rfl
          have hra : Calls Try.prog 19 #[.slice A n cap, .int .i64 (a : Nat), .int .i64 qn] wc fun e w' => ∃ p : Int, ((∃ j, j < n ∧ (numR (T j) j a == qn) = true ∧ (∀ i, i < j → (numR (T i) i a == qn) = false) ∧ p = (j : Nat)) ∨ ((∀ i, i < n → (numR (T i) i a == qn) = false) ∧ p = -1)) ∧ e = .returned (.int .i64 p) ∧ wc = w' := by
            refine (refAt_any A n cap T a HA5.out qn wc (by omega) h8.2.1).mono ?_
            rintro e w' ⟨⟨j, h1, h2, h3, rfl⟩ | ⟨h1, rfl⟩, hB⟩
            · exact ⟨_, .inl ⟨j, h1, h2, h3, rfl⟩, rfl, hB⟩
            · exact ⟨_, .inr ⟨h1, rfl⟩, rfl, hB⟩
          have HRA := Lib.hid hra
          have HB8 := Lib.hid h8.2.2.2
          have HT8 := Lib.hid h8.2.1
          clear h8 hra HFP HNP
          go_wp2_with fail
          refine HRA.out.mono ?_
          rintro e w9 ⟨p2, hP2, rfl, rfl⟩
          have hcm := two_looks (P := isNum T a qn) (Q := fun k => numR (T k) k a == qn) (fun i hi => by unfold isNum; rw [numAt_same HA5.out (row_ok (HOK.out i hi)).2.2.1]) HN2.out hP2
          have HCM := Lib.hid hcm
          clear hcm hP2 HN2 HRA y0 y1 g1 g2
          rcases HCM.out with ⟨j, hj, _, _, ⟨hr, rfl⟩, rfl⟩ | ⟨_, ⟨rfl, rfl⟩, rfl⟩
          · obtain ⟨b, o, rfl, hTb⟩ := HT8.out.at_ hj
            have q0 := (hTb.2 j hj).1
            rw [← hr] at q0
            have i3 : (j : Int) < (n : Int) := by omega
            have i4 : ¬ (j : Int) < 0 := by omega
            have i5 : decide ((j : Int) < 0) = false := decide_eq_false i4
            have i6 : (0 : Int) ≤ (j : Int) := by omega
            clear hTb hr hj HCM
            go_wp2_with (go_at_call 10; refine (HAW.out _).mono ?_; rintro e w9 ⟨rfl, hB9⟩)
            go_ret
            exact ⟨rfl, HB8.out.trans (hB9.mono HB8.out.size)⟩
          · clear HCM
            go_wp2_with (go_at_call 10; refine (HAW.out _).mono ?_; rintro e w9 ⟨rfl, hB9⟩)
            go_ret
            exact ⟨rfl, HB8.out.trans (hB9.mono HB8.out.size)⟩

namespace systabFindsRow
open Go.ChangeShapes Go.WideShapes Go.ChangeAt Go.RowKit Go.Joins
open Go.ChangeMaps (open_string shut_string)
set_option linter.unusedVariables false
theorem own : ownKnob Try.prog.godebug = none := by kernel_rfl
theorem laidOut : laidOutB Try.prog = true := by kernel_rfl
set_option maxRecDepth 100000 in
theorem lifted (os : Os) (started : os.Started) (H : Type) (enc : TypeId × Value → H) :
    ReturnsInHanded {} Try.checked os 3 .any (Rows.systabFindsSpec.pre6 enc Try.prog Try.f3 Rows.systabFindsRow.domain false) (Rows.systabFindsSpec.post enc Try.prog Try.f3 false true false false) := by
  refine returnsInHanded_of_change (C := Try.checked) own started (by kernel_rfl) Try.func3
    (ChangeSpec.witness6 (enc := enc) (C := Try.checked) false ⟨#[], #[.slice none 0 0, .string ⟨#[]⟩, .agg #[.int .i64 0, .int .i64 0, .int .i64 0, .int .i64 0]], []⟩ 8 (by kernel_rfl) (by kernel_rfl) (by kernel_rfl) (by kernel_rfl)) ?_
  intro W base args ds gs before hval0 hW hcnd _
  have hval : ∀ (j : Nat) t v, Try.f3.params[j]? = some t → args[j]? = some v → Value.okWide Try.prog W .any base t v := hval0
  have hW' := hW
  obtain ⟨p, q, hA0, hV, rfl, hfz, hnd⟩ := hW
  have hA : DataW.TrodAll enc Try.prog W 0 (fun _ => true) true Try.f3.params.toList args.toList ds p := hA0
  rw [Try.params3] at hA hval
  obtain ⟨v0, vs0, d0, ds0, p0, q0, hargs, rfl, rfl, h0, r0⟩ := trodAll_cons hA
  obtain ⟨v1, vs1, d1, ds1, p1, q1, rfl, rfl, rfl, h1, r1⟩ := trodAll_cons r0
  obtain ⟨v2, vs2, d2, ds2, p2, q2, rfl, rfl, rfl, h2, r2⟩ := trodAll_cons r1
  obtain ⟨rfl, rfl, rfl⟩ := trodAll_nil r2
  obtain rfl : args = #[v0, v1, v2] := by cases args; simp_all
  obtain ⟨rfl, rfl⟩ := trodVars_none hV
  have k0 := h0
  have lt0 : ∀ x ∈ p0, x.block < W.heap.size := by obtain ⟨m, hm⟩ := k0; exact DataW.trod_lt m _ _ _ hm
  have k1 := h1
  have lt1 : ∀ x ∈ p1, x.block < W.heap.size := by obtain ⟨m, hm⟩ := k1; exact DataW.trod_lt m _ _ _ hm
  have k2 := h2
  have lt2 : ∀ x ∈ p2, x.block < W.heap.size := by obtain ⟨m, hm⟩ := k2; exact DataW.trod_lt m _ _ _ hm
  obtain ⟨a0, len0, cap0, rfl⟩ := okWide_slice Try.underlying22 (hval 0 22 v0 rfl rfl)
  obtain ⟨g0, w0⟩ := open_rows h0
  obtain ⟨s1, rfl, rfl, rfl, w1⟩ := open_string Try.underlying9 (hval 1 9 v1 rfl rfl) h1
  obtain ⟨cc0, cc1, cc2, cc3, yy0, yy1, yy2, yy3, mm, rfl, _, _, hyy0, hyy1, hyy2, hyy3⟩ := open_agg4 Try.underlying24 (by kernel_rfl) (show Try.prog.cellsOf 24 = 4 by kernel_rfl) (hval 2 24 v2 rfl rfl) h2
  obtain ⟨n0, ee0, _, u0⟩ := DataW.trod_int Try.underlying3 hyy0
  obtain ⟨n1, ee1, _, u1⟩ := DataW.trod_int Try.underlying3 hyy1
  obtain ⟨n2, ee2, _, u2⟩ := DataW.trod_int Try.underlying3 hyy2
  obtain ⟨n3, ee3, _, u3⟩ := DataW.trod_int Try.underlying3 hyy3
  simp only [List.cons.injEq, and_true] at ee0 ee1 ee2 ee3
  subst ee0 ee1 ee2 ee3
  clear hA0 hval0
  refine (walk_SystabFinds (w0 := W) a0 len0 cap0 g0 w0 s1 w1 n0 n1 n2 n3).mono fun e W' ⟨he, bel⟩ => ?_
  subst he
  exact ⟨_, rfl, _, _, _, [], _, [], hW', trodAll_mk1 (shut_bool Try.underlying4 _), (trodAll_cons_mk (Below.trod laidOut (by kernel_rfl) (of_decide_eq_true (by kernel_rfl)) k0 bel lt0) (trodAll_cons_mk (Below.trod laidOut (by kernel_rfl) (of_decide_eq_true (by kernel_rfl)) k1 bel lt1) (trodAll_cons_mk (Below.trod laidOut (by kernel_rfl) (of_decide_eq_true (by kernel_rfl)) k2 bel lt2) trodAll_mk0))), rfl, bel.frame _, fun h => by cases h⟩

theorem over : Rows.systabFindsRow.holds Try.pinned (OpenSpec.ofChange Rows.systabFindsSpec) :=
  OpenClaim.holds_of_wide 3 Try.f3 rfl rfl rfl rfl rfl rfl rfl ⟨rfl, rfl, rfl, rfl, rfl⟩ rfl rfl rfl rfl rfl (by kernel_rfl) Try.func3 (by kernel_rfl)
    (of_decide_eq_true (by kernel_rfl)) (by unfold Func.isWrapper; first | (rw [if_pos (by decide +kernel)]; kernel_rfl) | (rw [if_neg (by decide +kernel)]; exact ⟨rfl, rfl⟩))
    (fun os started H enc _ => lifted os started H enc)
end systabFindsRow

theorem systabFinds_proved : Rows.SystabFindsSaid := systabFindsRow.over
#print axioms systabFinds_proved
end Go.Proofs.Ytlninlempefjcaa
