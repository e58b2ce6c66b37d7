/-
  Each name that has a number in an ABI is reached by a record with it, and by its multiplexer's number (of any table that may be, of 40 rows).
-/
import Derived.Test.YtlninlempefjcaaRows
import Derived.Test.YtlninlempefjcaaMd
import Derived.BigQuiet
import Derived.Deep.QuietTactic
import Derived.Deep.RegionHeld3
import Derived.Deep.CutRange
import Derived.ProofKit
import Derived.OpenShut
import Derived.ShutString
import Derived.ChangeOld
import Derived.Below
import Derived.Lib.SmallJoins
namespace Go.Proofs.Ytlninlempefjcaa
open Go.RowKit
set_option linter.unusedVariables false

/-- The tokens. -/
def tokN (k : Nat) : Nat := if k = 0 then 3221225534 else if k = 1 then 3221225534 else if k = 2 then 1073741827 else if k = 3 then 3221225655 else 3221225715
def wholN (k z : Nat) : Nat := if k = 1 then z + 1073741824 else z
theorem TbA.tb {w : World} {b o n : Nat} {T : Nat → SR} (h : TbA w (some ⟨b, o, none⟩) n T) {k : Nat} (hk : k < n) : Tb w b o n T := by
  obtain ⟨b', o', e, ht⟩ := h.at_ hk
  simp only [Option.some.injEq, Addr.mk.injEq, and_true] at e
  obtain ⟨rfl, rfl⟩ := e
  exact ht
theorem tok_lt (k : Nat) : tokN k < 4294967296 := by
  unfold tokN
  repeat' split
  all_goals decide
theorem sel_tok (k z : Nat) (hk : k < 5) (hz : z ≤ 1073741823) : selA (tokN k) (wholN k z) = (k, true) := by
  have hc : k = 0 ∨ k = 1 ∨ k = 2 ∨ k = 3 ∨ k = 4 := by omega
  rcases hc with rfl | rfl | rfl | rfl | rfl
  · have hb : hbF z = false := by
      have : bit30 z = false := by unfold bit30; rw [show z / 1073741824 = 0 by omega]; rfl
      simp [hbF, this]
    show selA 3221225534 z = _
    simp [selA, hb]
  · have hb : hbF (z + 1073741824) = true := by
      have h1 : bit30 (z + 1073741824) = true := by unfold bit30; rw [show (z + 1073741824) / 1073741824 = 1 by omega]; rfl
      have h2 : (z + 1073741824 != 4294967295) = true := by simp; omega
      simp [hbF, h1, h2]
    show selA 3221225534 (z + 1073741824) = _
    simp [selA, hb]
  · rfl
  · rfl
  · rfl
theorem own_whol (k z : Nat) (hz : z ≤ 1073741823) : ownF k (wholN k z) = z := by
  unfold ownF wholN
  by_cases h : k = 1
  · subst h
    have h1 : bit30 (z + 1073741824) = true := by unfold bit30; rw [show (z + 1073741824) / 1073741824 = 1 by omega]; rfl
    simp [h1]
  · have h' : ¬ (k : Int) = 1 := by omega
    simp [h, h']
/-- Where a record with a number leads. -/
theorem reach_num {T : Nat → SR} {n i k z : Nat} (hok : OkT n T) (hi : i < n) (hk : k < 5) (hz : numI (T i) k = (z : Nat)) {r : RV} (ha : r.a = tokN k) (hn : r.n = wholN k z) {sm : Bool} {ab : Nat} {nm : ByteArray} {mu : Bool} (h : CallP T n r sm ab nm mu) :
    sm = true ∧ ab = k ∧ nm = (T i).nm ∧ mu = false := by
  obtain ⟨-, -, hr, -, h17, hcl⟩ := row_ok (hok.2 i hi)
  have hzl : z ≤ 1073741823 := by have := (hr k hk).2; omega
  have hs : selA r.a r.n = (k, true) := by rw [ha, hn]; exact sel_tok k z hk hzl
  have hnm : NameOf (isNum T k ((z : Nat) : Int)) T n (T i).nm := .inl ⟨i, hi, by
    unfold isNum numAt
    rw [if_neg (by rw [hz]; omega), hz]
    simp, fun j hj => by
    have hj' := ((row_ok (hok.2 j (by omega))).2.2.1 k hk).1
    cases hx : isNum T k ((z : Nat) : Int) j
    · rfl
    · exfalso
      unfold isNum numAt at hx
      have hx' := eq_of_beq hx
      by_cases h1 : numI (T j) k = -1
      · rw [if_pos h1] at hx'; omega
      · rw [if_neg h1] at hx'
        exact hcl ⟨j, hj, .inl ⟨k, hk, by omega, by rw [hx', hz]⟩⟩, rfl⟩
  rcases h with ⟨h1, _⟩ | ⟨_, h2, h3, ⟨h4, h5, _⟩ | ⟨_, h6, h7⟩⟩
  · rw [hs] at h1; cases h1
  · exfalso
    rw [hs] at h3
    have hk2 : k = 2 := h3.symm.trans h4
    subst hk2
    apply h5
    rw [hn]
    have : ¬ z = 102 ∧ ¬ z = 117 := ⟨fun h => h17 (.inl (by have : (T i).n2 = (z : Nat) := hz; omega)), fun h => h17 (.inr (by have : (T i).n2 = (z : Nat) := hz; omega))⟩
    show kindF z = 0
    rw [kindF, if_neg this.1, if_neg this.2]
  · rw [hs] at h3
    have h3' : ab = k := h3
    subst h3'
    rw [hn, own_whol ab z (by omega)] at h7
    exact ⟨h2, rfl, NameOf.uniq h7 hnm, h6⟩
/-- Where a record with a multiplexer's number leads. -/
theorem reach_mux {T : Nat → SR} {n i m sb : Nat} (hok : OkT n T) (hi : i < n) (hm : (T i).mx = (m : Nat)) (hm0 : 0 < m) (hsb : (T i).sb = (sb : Nat)) {r : RV} (ha : r.a = 1073741827) (hn : r.n = if m = 1 then 102 else 117) (hq : r.q 0 % 4294967296 = sb) {sm : Bool} {ab : Nat} {nm : ByteArray} {mu : Bool} (h : CallP T n r sm ab nm mu) :
    sm = true ∧ ab = 2 ∧ nm = (T i).nm ∧ mu = true := by
  obtain ⟨-, -, -, hmx, -, hcl⟩ := row_ok (hok.2 i hi)
  have hm12 : m = 1 ∨ m = 2 := by rcases hmx with ⟨a, _⟩ | ⟨a | a, _⟩ <;> omega
  have hs : selA r.a r.n = (2, true) := by rw [ha]; rfl
  have hkd : kindF r.n = m := by rw [hn]; rcases hm12 with rfl | rfl <;> rfl
  have hnm : NameOf (isSub T (m : Nat) ((sb : Nat) : Int)) T n (T i).nm := .inl ⟨i, hi, by
    unfold isSub
    rw [hm, hsb]
    simp
    omega, fun j hj => by
    cases hx : isSub T (m : Nat) ((sb : Nat) : Int) j
    · rfl
    · exfalso
      unfold isSub at hx
      simp only [Bool.and_eq_true] at hx
      have h1 := eq_of_beq hx.1.2
      have h2 := eq_of_beq hx.2
      exact hcl ⟨j, hj, .inr ⟨by omega, by rw [h1, hm], by rw [h2, hsb]⟩⟩, rfl⟩
  rcases h with ⟨h1, _⟩ | ⟨_, h2, h3, ⟨_, _, h6, h7⟩ | ⟨h4, _⟩⟩
  · rw [hs] at h1; cases h1
  · rw [hs] at h3
    rw [hkd, hq] at h7
    exact ⟨h2, h3, NameOf.uniq h7 hnm, h6⟩
  · rw [hs] at h3
    exact absurd ⟨h3, by rw [hkd]; omega⟩ h4

set_option maxRecDepth 100000 in
set_option maxHeartbeats 16000000 in
theorem walk_MuxReaches {w0 : World} (A : Option Addr) (n cap : Nat) (T : Nat → SR) (ht : TbA w0 A n T) (a' : Int) (ha : (Lit.int .u8 a').wf = true) (high' : Int) (hh : (Lit.int .u32 high').wf = true) :
    Calls Try.prog 7 #[.slice A n cap, .int .u8 a', .int .u32 high'] w0 fun e w' => e = .returned (.bool true) ∧ Below w0.heap.size w0 w' := by
  simp [Lit.wf, IntKind.min, IntKind.max, IntKind.signed, IntKind.bits] at ha hh
  obtain ⟨a, rfl⟩ := Int.eq_ofNat_of_zero_le ha.1
  obtain ⟨high, rfl⟩ := Int.eq_ofNat_of_zero_le hh.1
  have HLT := Lib.hid (light12_any A n cap T w0 ht)
  have HT := Lib.hid ht
  clear ht
  go_enter Try.func7, Try.ntmps7
  go_wp2_with fail
  refine HLT.out.mono ?_
  rintro e w1 ⟨h, hB1⟩
  rcases h with ⟨hok, rfl⟩ | ⟨hok, rfl⟩
  case inr =>
    clear hok
    go_wp2
    go_ret
    exact ⟨rfl, hB1⟩
  have h40 := hok.1
  have HOK := Lib.hid hok
  have HOF := Lib.hid (of12_any A n cap T w1 (by omega) (HT.out.below hB1 (Nat.le_refl _)))
  have HB1 := Lib.hid hB1
  clear hok hB1 HT HLT
  go_wp2_with fail
  refine HOF.out.mono ?_
  rintro e w2 ⟨A2, c2, rfl, hown, hB2⟩
  have HX2 := Lib.hid (own_TbA hown)
  have HB2 := Lib.hid (HB1.out.trans (hB2.mono HB1.out.size))
  have v1 : ((a : Int)).tmod 5 = ((a % 5 : Nat) : Int) := by rw [Int.tmod_eq_emod_of_nonneg (by omega)]; omega
  clear hown hB2 HB1 HOF
  obtain ⟨U, hU⟩ : ∃ U, w2.alloc (.cells #[.int .u32 3221225534, .int .u32 3221225534, .int .u32 1073741827, .int .u32 3221225655, .int .u32 3221225715] 47) = U := ⟨_, rfl⟩
  go_upto_region 6 with fail
  obtain ⟨k, hk⟩ : ∃ k : Nat, (a : Int) % 5 = k := ⟨a % 5, by omega⟩
  have hk5 : k < 5 := by omega
  rw [hk]
  have rt : RowC U w2.heap.size #[.int .u32 3221225534, .int .u32 3221225534, .int .u32 1073741827, .int .u32 3221225655, .int .u32 3221225715] 47 := by rw [← hU]; exact RowC.new _ _ _ _ rfl
  have hbU : Below w2.heap.size w2 U := by rw [← hU]; exact (Below.refl _ _).alloc (Nat.le_refl _) _
  have HXU := Lib.hid (HX2.out.below hbU (Nat.le_refl _))
  have HTKU := Lib.hid rt
  have HBU := Lib.hid (HB2.out.trans (hbU.mono HB2.out.size))
  have HAW := Lib.hid fun W => awake12_any W
  clear hU hk rt hbU HX2 HB2 v1 ha
  generalize w2.heap.size = TK at *
  go_wp2_with fail
  go_loopw [10] (fun s wr => ∃ i : Nat, i ≤ n ∧ s = .int .i64 i ∧ TbA wr A2 n T ∧ RowC wr TK #[.int .u32 3221225534, .int .u32 3221225534, .int .u32 1073741827, .int .u32 3221225655, .int .u32 3221225715] 47 ∧ Below w0.heap.size w0 wr)
    (fun s _ => n - (intOf s).toNat)
  case atStart => exact ⟨0, by omega, rfl, HXU.out, HTKU.out, HBU.out⟩
  case round =>
    clear HXU HTKU HBU
    obtain ⟨i, hi, rfl, hx, htk, hB⟩ := hrel
    have HXW := Lib.hid hx
    have HTKW := Lib.hid htk
    have HBW := Lib.hid hB
    clear hx htk hB
    by_cases hlt : i < n
    · have HI := Lib.hid hlt
      obtain ⟨nmq, hnmq⟩ : ∃ nm, (T i).nm = nm := ⟨_, rfl⟩
      have HNMQ := Lib.hid hnmq
      clear hnmq
      obtain ⟨b, o, rfl, hTb⟩ := HXW.out.at_ hlt
      have c0 := hTb.num i hlt k hk5
      have t0 : wr.cell? ⟨TK, k, none⟩ = some (.int .u32 (tokN k : Nat)) := by
        have hc : k = 0 ∨ k = 1 ∨ k = 2 ∨ k = 3 ∨ k = 4 := by omega
        rcases hc with rfl | rfl | rfl | rfl | rfl <;> exact HTKW.out.cell _ _ rfl
      have hrg := (row_ok (HOK.out.2 i hlt)).2.2.1 k hk5
      obtain ⟨y, hy⟩ : ∃ y, numI (T i) k = y := ⟨_, rfl⟩
      rw [hy] at c0 hrg
      have i1 : (0 : Int) ≤ (i : Int) := by omega
      have i2 : (i : Int) < (n : Int) := by omega
      have i3 : (0 : Int) ≤ (k : Int) := by omega
      have i4 : (k : Int) < 5 := by omega
      have HY := Lib.hid hy
      clear hTb hy
      by_cases hy0 : y ≥ 0
      · have g0 : decide (y ≥ 0) = true := decide_eq_true hy0
        obtain ⟨z, rfl⟩ := Int.eq_ofNat_of_zero_le hy0
        have hz : z ≤ 1073741823 := by omega
        have u0 : IntKind.u32.wrap (z : Int) = (z : Int) := by rw [IntKind.wrap_u32]; omega
        have u1 : IntKind.u32.wrap ((z : Int) + 1073741824) = ((z + 1073741824 : Nat) : Int) := by rw [IntKind.wrap_u32]; omega
        have htl := tok_lt k
        obtain ⟨wn, hwn⟩ : ∃ wn, wholN k z = wn := ⟨_, rfl⟩
        have hwl : wn < 4294967296 := by rw [← hwn]; unfold wholN; split <;> omega
        obtain ⟨tk, htk⟩ : ∃ tk, tokN k = tk := ⟨_, rfl⟩
        rw [htk] at t0 htl
        have HWN := Lib.hid hwn
        have HTN := Lib.hid htk
        have HKW : Hid (∀ W, Below wr.heap.size wr W → TbA W (some ⟨b, o, none⟩) n T ∧ RowC W TK #[.int .u32 3221225534, .int .u32 3221225534, .int .u32 1073741827, .int .u32 3221225655, .int .u32 3221225715] 47 ∧ Below w0.heap.size w0 W) := Lib.hid fun W hW => ⟨HXW.out.below hW (Nat.le_refl _), HTKW.out.below hW HTKW.out.lt, HBW.out.trans (hW.mono HBW.out.size)⟩
        have HRC : Hid (∀ W, Calls Try.prog 23 #[.agg #[.int .u32 (wn : Nat), .int .u32 (tk : Nat), .int .u64 0, .int .u64 0, .int .u64 0, .int .u64 0, .int .u64 0, .int .u64 0, .int .u64 0]] W fun e w' => e = .returned (.agg #[.int .u32 (wn : Nat), .int .u32 (tk : Nat), .int .u64 0, .int .u64 0, .int .u64 0, .int .u64 0, .int .u64 0, .int .u64 0, .int .u64 0]) ∧ Below W.heap.size W w') := Lib.hid fun W => record12_any (⟨wn, tk, 0, fun _ => 0⟩ : RV) W
        have HMX : Hid (∀ W, TbA W (some ⟨b, o, none⟩) n T → Calls Try.prog 21 #[.slice (some ⟨b, o, none⟩) n c2, .agg #[.int .u32 (wn : Nat), .int .u32 (tk : Nat), .int .u64 0, .int .u64 0, .int .u64 0, .int .u64 0, .int .u64 0, .int .u64 0, .int .u64 0]] W fun e w' => e = .returned (.agg #[.bool true, .int .i64 (k : Nat), .string nmq, .bool false]) ∧ Below W.heap.size W w') := Lib.hid fun W h => by
          refine Calls.mono (of_mux (some ⟨b, o, none⟩) n c2 T (⟨wn, tk, 0, fun _ => 0⟩ : RV) ⟨hwl, htl, by show (0 : Nat) < _; decide, fun _ => by show (0 : Nat) < _; decide⟩ W (by omega) h) ?_
          rintro e w' ⟨sm, ab, nm, mu, hc, rfl, hB⟩
          obtain ⟨rfl, rfl, rfl, rfl⟩ := reach_num HOK.out HI.out hk5 HY.out HTN.out.symm HWN.out.symm hc
          exact ⟨by rw [HNMQ.out] <;> rfl, hB⟩
        clear hrg hy0 htk hwl
        clear HXW HTKW HBW
        by_cases hk1 : k = 1
        · have f1 : ((k : Int) == 1) = true := by simp [hk1]
          have f2 : (k == 1) = true := by simp [hk1]
          have hwn' : wn = z + 1073741824 := by rw [← hwn]; unfold wholN; rw [if_pos hk1]
          subst hwn'
          clear hwn hk1
          go_upto_region 14 with fail
          have hz := HKW.out _ ((Below.refl wr.heap.size wr).alloc (Nat.le_refl _) (.cells #[.int .u32 ((z : Int) + 1073741824), .int .u32 (tk : Nat), .int .u64 0, .int .u64 0, .int .u64 0, .int .u64 0, .int .u64 0, .int .u64 0, .int .u64 0] 51))
          have HXW := Lib.hid hz.1
          have HTKW := Lib.hid hz.2.1
          have HBW := Lib.hid hz.2.2
          clear hz HKW c0 t0
          go_wp2_with fail
          refine (HRC.out _).mono ?_
          rintro e wa ⟨rfl, hBa⟩
          have HXa := Lib.hid (HXW.out.below hBa (Nat.le_refl _))
          have HTKa := Lib.hid (HTKW.out.below hBa HTKW.out.lt)
          have HBa := Lib.hid (HBW.out.trans (hBa.mono HBW.out.size))
          clear hBa HXW HTKW HBW
          go_wp2_with fail
          refine (HMX.out _ HXa.out).mono ?_
          rintro e wb ⟨rfl, hBb⟩
          obtain ⟨V, hV⟩ : ∃ V, wb.alloc (.cells #[.bool true, .int .i64 (k : Nat), .string nmq, .bool false] 53) = V := ⟨_, rfl⟩
          have rv : RowC V wb.heap.size #[.bool true, .int .i64 (k : Nat), .string nmq, .bool false] 53 := by rw [← hV]; exact RowC.new _ _ _ _ rfl
          have hbV : Below wa.heap.size wa V := by rw [← hV]; exact hBb.alloc hBb.size _
          have HK0 : Hid (∀ N, Below V.heap.size V (V.drewN N)) := Lib.hid fun N => bdn (Below.refl _ V) N
          have HXV := Lib.hid (HXa.out.below hbV (Nat.le_refl _))
          have HTKV := Lib.hid (HTKa.out.below hbV HTKa.out.lt)
          have HBV := Lib.hid (HBa.out.trans (hbV.mono HBa.out.size))
          have x0 := rv.cell 0 _ rfl
          have x1 := rv.cell 1 _ rfl
          have x2 := rv.cell 2 _ rfl
          have x3 := rv.cell 3 _ rfl
          have hTb := HXV.out.tb HI.out
          have q0 := (hTb.2 i HI.out).1
          rw [HNMQ.out] at q0
          have e53 : ∀ W, (binOp .neq 53 (.agg #[.bool true, .int .i64 (k : Nat), .string nmq, .bool false]) (.agg #[.bool true, .int .i64 (k : Nat), .string nmq, .bool false])).run Try.prog W = .ok (.bool false) W := by
            intro W
            go_simp
          have HV := Lib.hid hV
          clear hBb hbV rv hTb hV HXa HTKa HBa HMX HRC
          go_upto_region 15 with fail
          rw [HV.out]
          go_cut [66] from 26 to 102 (fun s wx => s = .bool false ∧ TbA wx (some ⟨b, o, none⟩) n T ∧ RowC wx TK #[.int .u32 3221225534, .int .u32 3221225534, .int .u32 1073741827, .int .u32 3221225655, .int .u32 3221225715] 47 ∧ Below w0.heap.size w0 wx)
          case first =>
            go_quiet (fail)
            go_wp2
            go_meet
            exact ⟨rfl, HXV.out.below (HK0.out _) (Nat.le_refl _), HTKV.out.below (HK0.out _) HTKV.out.lt, HBV.out.trans ((HK0.out _).mono HBV.out.size)⟩
          case rest =>
            obtain ⟨rfl, hx, htk, hB⟩ := hcut
            have HXW := Lib.hid hx
            have HTKW := Lib.hid htk
            have HBW := Lib.hid hB
            clear hx htk hB x0 x1 x2 x3 q0 e53 HV HXV HTKV HBV HK0
            go_upto_region 17 with fail
            have hTb := HXW.out.tb HI.out
            obtain ⟨-, -, -, -, -, -, q6, q7⟩ := hTb.2 i HI.out
            have hmx := (row_ok (HOK.out.2 i HI.out)).2.2.2.1
            obtain ⟨mi, hmi⟩ : ∃ mi, (T i).mx = mi := ⟨_, rfl⟩
            obtain ⟨si, hsi⟩ : ∃ si, (T i).sb = si := ⟨_, rfl⟩
            unfold MxP at hmx
            rw [hmi, hsi] at hmx
            rw [hmi] at q6
            rw [hsi] at q7
            by_cases hm0 : mi > 0
            · have g1 : decide (mi > 0) = true := decide_eq_true hm0
              have hcs : (mi = 1 ∨ mi = 2) ∧ 1 ≤ si ∧ si ≤ 255 := by rcases hmx with ⟨h, _⟩ | h; exact absurd h (by omega); exact h
              obtain ⟨sb, rfl⟩ := Int.eq_ofNat_of_zero_le (show 0 ≤ si by omega)
              obtain ⟨m, rfl⟩ := Int.eq_ofNat_of_zero_le (show 0 ≤ mi by omega)
              have hmm : m = 1 ∨ m = 2 := by omega
              have hsl : sb ≤ 255 := by omega
              have HMI := Lib.hid hmi
              have HSI := Lib.hid hsi
              have HMM : Hid (0 < m) := Lib.hid (by omega)
              obtain ⟨mn, hmn⟩ : ∃ mn, (if m = 1 then 102 else 117) = mn := ⟨_, rfl⟩
              have HMN : Hid (mn = (if m = 1 then 102 else 117) ∧ mn ≤ 117) := Lib.hid ⟨hmn.symm, by rw [← hmn]; split <;> decide⟩
              have kk : (wc.alloc (.cells #[.int .u32 0, .int .u32 102, .int .u32 117] 47)).cell? ⟨wc.heap.size, m, none⟩ = some (.int .u32 (mn : Nat)) := by
                rw [← hmn]
                rcases hmm with rfl | rfl <;> exact (RowC.new wc _ _ _ rfl).cell _ _ rfl
              have j1 : (0 : Int) ≤ (m : Int) := by omega
              have j2 : (m : Int) < 3 := by omega
              have u1 : IntKind.u64.wrap (sb : Int) = (sb : Int) := by rw [IntKind.wrap_u64]; omega
              have u2 : IntKind.u64.wrap ((high : Int) * 4294967296) = (high : Int) * 4294967296 := by rw [IntKind.wrap_u64]; omega
              have u3 : IntKind.u64.wrap ((high : Int) * 4294967296 + (sb : Int)) = ((high * 4294967296 + sb : Nat) : Int) := by rw [IntKind.wrap_u64]; omega
              have u4 : IntKind.u64.wrap (high : Int) = (high : Int) := by rw [IntKind.wrap_u64]; omega
              have hbw : ∀ (O1 O2 : Obj), Below wc.heap.size wc ((wc.alloc O1).alloc O2) := fun O1 O2 => ((Below.refl _ _).alloc (Nat.le_refl _) O1).alloc (by simp) O2
              have HKW : Hid (∀ W, Below wc.heap.size wc W → TbA W (some ⟨b, o, none⟩) n T ∧ RowC W TK #[.int .u32 3221225534, .int .u32 3221225534, .int .u32 1073741827, .int .u32 3221225655, .int .u32 3221225715] 47 ∧ Below w0.heap.size w0 W) := Lib.hid fun W hW => ⟨HXW.out.below hW (Nat.le_refl _), HTKW.out.below hW HTKW.out.lt, HBW.out.trans (hW.mono HBW.out.size)⟩
              have q7' : ∀ (O1 O2 : Obj), ((wc.alloc O1).alloc O2).cell? ⟨b, o + i * 8 + 7, none⟩ = some (.int .i64 (sb : Nat)) := fun O1 O2 => ((hbw O1 O2).cell (p := ⟨b, o + i * 8 + 7, none⟩) hTb.1).trans q7
              clear hTb hmi hsi hmx hm0 hcs hmn hmm
              have HRC : Hid (∀ W, Calls Try.prog 23 #[.agg #[.int .u32 (mn : Nat), .int .u32 1073741827, .int .u64 0, .int .u64 (high * 4294967296 + sb : Nat), .int .u64 0, .int .u64 0, .int .u64 0, .int .u64 0, .int .u64 0]] W fun e w' => e = .returned (.agg #[.int .u32 (mn : Nat), .int .u32 1073741827, .int .u64 0, .int .u64 (high * 4294967296 + sb : Nat), .int .u64 0, .int .u64 0, .int .u64 0, .int .u64 0, .int .u64 0]) ∧ Below W.heap.size W w') := Lib.hid fun W => record12_any (⟨mn, 1073741827, 0, fun i => if i = 0 then high * 4294967296 + sb else 0⟩ : RV) W
              have HMX : Hid (∀ W, TbA W (some ⟨b, o, none⟩) n T → Calls Try.prog 21 #[.slice (some ⟨b, o, none⟩) n c2, .agg #[.int .u32 (mn : Nat), .int .u32 1073741827, .int .u64 0, .int .u64 (high * 4294967296 + sb : Nat), .int .u64 0, .int .u64 0, .int .u64 0, .int .u64 0, .int .u64 0]] W fun e w' => e = .returned (.agg #[.bool true, .int .i64 2, .string nmq, .bool true]) ∧ Below W.heap.size W w') := Lib.hid fun W h => by
                refine Calls.mono (of_mux (some ⟨b, o, none⟩) n c2 T (⟨mn, 1073741827, 0, fun i => if i = 0 then high * 4294967296 + sb else 0⟩ : RV) ⟨by show mn < _; have := HMN.out; omega, by show (1073741827 : Nat) < 4294967296; decide, by show (0 : Nat) < _; decide, fun i => by show (if i = 0 then high * 4294967296 + sb else 0) < _; split <;> omega⟩ W (by omega) h) ?_
                rintro e w' ⟨sm, ab, nm, mu, hc, rfl, hB⟩
                obtain ⟨rfl, rfl, rfl, rfl⟩ := reach_mux HOK.out HI.out HMI.out HMM.out HSI.out rfl HMN.out.1 (by show (if (0 : Nat) = 0 then high * 4294967296 + sb else 0) % 4294967296 = sb; rw [if_pos rfl]; omega) hc
                exact ⟨by rw [HNMQ.out] <;> rfl, hB⟩
              go_upto_region 21 with fail
              have hz := HKW.out _ (hbw (.cells #[.int .u32 0, .int .u32 102, .int .u32 117] 47) (.cells #[.int .u32 (mn : Nat), .int .u32 1073741827, .int .u64 0, .int .u64 ((high : Int) * 4294967296 + (sb : Int)), .int .u64 0, .int .u64 0, .int .u64 0, .int .u64 0, .int .u64 0] 51))
              have HXW := Lib.hid hz.1
              have HTKW := Lib.hid hz.2.1
              have HBW := Lib.hid hz.2.2
              clear hz hbw q7' HKW q6 q7 kk
              go_wp2_with fail
              refine (HRC.out _).mono ?_
              rintro e wa ⟨rfl, hBa⟩
              have HXa := Lib.hid (HXW.out.below hBa (Nat.le_refl _))
              have HTKa := Lib.hid (HTKW.out.below hBa HTKW.out.lt)
              have HBa := Lib.hid (HBW.out.trans (hBa.mono HBW.out.size))
              clear hBa HXW HTKW HBW
              go_wp2_with fail
              refine (HMX.out _ HXa.out).mono ?_
              rintro e wb ⟨rfl, hBb⟩
              obtain ⟨V, hV⟩ : ∃ V, wb.alloc (.cells #[.bool true, .int .i64 2, .string nmq, .bool true] 53) = V := ⟨_, rfl⟩
              have rv : RowC V wb.heap.size #[.bool true, .int .i64 2, .string nmq, .bool true] 53 := by rw [← hV]; exact RowC.new _ _ _ _ rfl
              have hbV : Below wa.heap.size wa V := by rw [← hV]; exact hBb.alloc hBb.size _
              have HK0 : Hid (∀ N, Below V.heap.size V (V.drewN N)) := Lib.hid fun N => bdn (Below.refl _ V) N
              have HXV := Lib.hid (HXa.out.below hbV (Nat.le_refl _))
              have HTKV := Lib.hid (HTKa.out.below hbV HTKa.out.lt)
              have HBV := Lib.hid (HBa.out.trans (hbV.mono HBa.out.size))
              have x0 := rv.cell 0 _ rfl
              have x1 := rv.cell 1 _ rfl
              have x2 := rv.cell 2 _ rfl
              have x3 := rv.cell 3 _ rfl
              have hTb := HXV.out.tb HI.out
              have q0 := (hTb.2 i HI.out).1
              rw [HNMQ.out] at q0
              have e53 : ∀ W, (binOp .neq 53 (.agg #[.bool true, .int .i64 2, .string nmq, .bool true]) (.agg #[.bool true, .int .i64 2, .string nmq, .bool true])).run Try.prog W = .ok (.bool false) W := by
                intro W
                go_simp
              have HV := Lib.hid hV
              clear hBb hbV rv hTb hV HXa HTKa HBa HMX HRC
              go_upto_region 22 with fail
              rw [HV.out]
              go_cut [102] from 26 to 102 (fun s wx => s = .bool false ∧ TbA wx (some ⟨b, o, none⟩) n T ∧ RowC wx TK #[.int .u32 3221225534, .int .u32 3221225534, .int .u32 1073741827, .int .u32 3221225655, .int .u32 3221225715] 47 ∧ Below w0.heap.size w0 wx)
              case first =>
                go_quiet (fail)
                go_wp2
                go_meet
                exact ⟨rfl, HXV.out.below (HK0.out _) (Nat.le_refl _), HTKV.out.below (HK0.out _) HTKV.out.lt, HBV.out.trans ((HK0.out _).mono HBV.out.size)⟩
              case rest =>
                obtain ⟨rfl, hx, htk, hB⟩ := hcut
                have HXW := Lib.hid hx
                have HTKW := Lib.hid htk
                have HBW := Lib.hid hB
                clear hx htk hB x0 x1 x2 x3 q0 e53 HV HXV HTKV HBV HK0
                go_wp2
                exact ⟨⟨i + 1, by have := HI.out; omega, by go_num, HXW.out, HTKW.out, HBW.out⟩, by have := HI.out; simp [intOf]; omega⟩
            · have g1 : decide (mi > 0) = false := decide_eq_false hm0
              clear hTb hmi hsi hmx hm0
              go_wp2
              exact ⟨⟨i + 1, by have := HI.out; omega, by go_num, HXW.out, HTKW.out, HBW.out⟩, by have := HI.out; simp [intOf]; omega⟩
        · have f1 : ((k : Int) == 1) = false := beq_eq_false_iff_ne.2 (by omega)
          have f2 : (k == 1) = false := beq_eq_false_iff_ne.2 hk1
          have hwn' : wn = z := by rw [← hwn]; unfold wholN; rw [if_neg hk1]
          subst hwn'
          clear hwn hk1
          go_upto_region 14 with fail
          have hz := HKW.out _ ((Below.refl wr.heap.size wr).alloc (Nat.le_refl _) (.cells #[.int .u32 (wn : Nat), .int .u32 (tk : Nat), .int .u64 0, .int .u64 0, .int .u64 0, .int .u64 0, .int .u64 0, .int .u64 0, .int .u64 0] 51))
          have HXW := Lib.hid hz.1
          have HTKW := Lib.hid hz.2.1
          have HBW := Lib.hid hz.2.2
          clear hz HKW c0 t0
          go_wp2_with fail
          refine (HRC.out _).mono ?_
          rintro e wa ⟨rfl, hBa⟩
          have HXa := Lib.hid (HXW.out.below hBa (Nat.le_refl _))
          have HTKa := Lib.hid (HTKW.out.below hBa HTKW.out.lt)
          have HBa := Lib.hid (HBW.out.trans (hBa.mono HBW.out.size))
          clear hBa HXW HTKW HBW
          go_wp2_with fail
          refine (HMX.out _ HXa.out).mono ?_
          rintro e wb ⟨rfl, hBb⟩
          obtain ⟨V, hV⟩ : ∃ V, wb.alloc (.cells #[.bool true, .int .i64 (k : Nat), .string nmq, .bool false] 53) = V := ⟨_, rfl⟩
          have rv : RowC V wb.heap.size #[.bool true, .int .i64 (k : Nat), .string nmq, .bool false] 53 := by rw [← hV]; exact RowC.new _ _ _ _ rfl
          have hbV : Below wa.heap.size wa V := by rw [← hV]; exact hBb.alloc hBb.size _
          have HK0 : Hid (∀ N, Below V.heap.size V (V.drewN N)) := Lib.hid fun N => bdn (Below.refl _ V) N
          have HXV := Lib.hid (HXa.out.below hbV (Nat.le_refl _))
          have HTKV := Lib.hid (HTKa.out.below hbV HTKa.out.lt)
          have HBV := Lib.hid (HBa.out.trans (hbV.mono HBa.out.size))
          have x0 := rv.cell 0 _ rfl
          have x1 := rv.cell 1 _ rfl
          have x2 := rv.cell 2 _ rfl
          have x3 := rv.cell 3 _ rfl
          have hTb := HXV.out.tb HI.out
          have q0 := (hTb.2 i HI.out).1
          rw [HNMQ.out] at q0
          have e53 : ∀ W, (binOp .neq 53 (.agg #[.bool true, .int .i64 (k : Nat), .string nmq, .bool false]) (.agg #[.bool true, .int .i64 (k : Nat), .string nmq, .bool false])).run Try.prog W = .ok (.bool false) W := by
            intro W
            go_simp
          have HV := Lib.hid hV
          clear hBb hbV rv hTb hV HXa HTKa HBa HMX HRC
          go_upto_region 15 with fail
          rw [HV.out]
          go_cut [66] from 26 to 102 (fun s wx => s = .bool false ∧ TbA wx (some ⟨b, o, none⟩) n T ∧ RowC wx TK #[.int .u32 3221225534, .int .u32 3221225534, .int .u32 1073741827, .int .u32 3221225655, .int .u32 3221225715] 47 ∧ Below w0.heap.size w0 wx)
          case first =>
            go_quiet (fail)
            go_wp2
            go_meet
            exact ⟨rfl, HXV.out.below (HK0.out _) (Nat.le_refl _), HTKV.out.below (HK0.out _) HTKV.out.lt, HBV.out.trans ((HK0.out _).mono HBV.out.size)⟩
          case rest =>
            obtain ⟨rfl, hx, htk, hB⟩ := hcut
            have HXW := Lib.hid hx
            have HTKW := Lib.hid htk
            have HBW := Lib.hid hB
            clear hx htk hB x0 x1 x2 x3 q0 e53 HV HXV HTKV HBV HK0
            go_upto_region 17 with fail
            have hTb := HXW.out.tb HI.out
            obtain ⟨-, -, -, -, -, -, q6, q7⟩ := hTb.2 i HI.out
            have hmx := (row_ok (HOK.out.2 i HI.out)).2.2.2.1
            obtain ⟨mi, hmi⟩ : ∃ mi, (T i).mx = mi := ⟨_, rfl⟩
            obtain ⟨si, hsi⟩ : ∃ si, (T i).sb = si := ⟨_, rfl⟩
            unfold MxP at hmx
            rw [hmi, hsi] at hmx
            rw [hmi] at q6
            rw [hsi] at q7
            by_cases hm0 : mi > 0
            · have g1 : decide (mi > 0) = true := decide_eq_true hm0
              have hcs : (mi = 1 ∨ mi = 2) ∧ 1 ≤ si ∧ si ≤ 255 := by rcases hmx with ⟨h, _⟩ | h; exact absurd h (by omega); exact h
              obtain ⟨sb, rfl⟩ := Int.eq_ofNat_of_zero_le (show 0 ≤ si by omega)
              obtain ⟨m, rfl⟩ := Int.eq_ofNat_of_zero_le (show 0 ≤ mi by omega)
              have hmm : m = 1 ∨ m = 2 := by omega
              have hsl : sb ≤ 255 := by omega
              have HMI := Lib.hid hmi
              have HSI := Lib.hid hsi
              have HMM : Hid (0 < m) := Lib.hid (by omega)
              obtain ⟨mn, hmn⟩ : ∃ mn, (if m = 1 then 102 else 117) = mn := ⟨_, rfl⟩
              have HMN : Hid (mn = (if m = 1 then 102 else 117) ∧ mn ≤ 117) := Lib.hid ⟨hmn.symm, by rw [← hmn]; split <;> decide⟩
              have kk : (wc.alloc (.cells #[.int .u32 0, .int .u32 102, .int .u32 117] 47)).cell? ⟨wc.heap.size, m, none⟩ = some (.int .u32 (mn : Nat)) := by
                rw [← hmn]
                rcases hmm with rfl | rfl <;> exact (RowC.new wc _ _ _ rfl).cell _ _ rfl
              have j1 : (0 : Int) ≤ (m : Int) := by omega
              have j2 : (m : Int) < 3 := by omega
              have u1 : IntKind.u64.wrap (sb : Int) = (sb : Int) := by rw [IntKind.wrap_u64]; omega
              have u2 : IntKind.u64.wrap ((high : Int) * 4294967296) = (high : Int) * 4294967296 := by rw [IntKind.wrap_u64]; omega
              have u3 : IntKind.u64.wrap ((high : Int) * 4294967296 + (sb : Int)) = ((high * 4294967296 + sb : Nat) : Int) := by rw [IntKind.wrap_u64]; omega
              have u4 : IntKind.u64.wrap (high : Int) = (high : Int) := by rw [IntKind.wrap_u64]; omega
              have hbw : ∀ (O1 O2 : Obj), Below wc.heap.size wc ((wc.alloc O1).alloc O2) := fun O1 O2 => ((Below.refl _ _).alloc (Nat.le_refl _) O1).alloc (by simp) O2
              have HKW : Hid (∀ W, Below wc.heap.size wc W → TbA W (some ⟨b, o, none⟩) n T ∧ RowC W TK #[.int .u32 3221225534, .int .u32 3221225534, .int .u32 1073741827, .int .u32 3221225655, .int .u32 3221225715] 47 ∧ Below w0.heap.size w0 W) := Lib.hid fun W hW => ⟨HXW.out.below hW (Nat.le_refl _), HTKW.out.below hW HTKW.out.lt, HBW.out.trans (hW.mono HBW.out.size)⟩
              have q7' : ∀ (O1 O2 : Obj), ((wc.alloc O1).alloc O2).cell? ⟨b, o + i * 8 + 7, none⟩ = some (.int .i64 (sb : Nat)) := fun O1 O2 => ((hbw O1 O2).cell (p := ⟨b, o + i * 8 + 7, none⟩) hTb.1).trans q7
              clear hTb hmi hsi hmx hm0 hcs hmn hmm
              have HRC : Hid (∀ W, Calls Try.prog 23 #[.agg #[.int .u32 (mn : Nat), .int .u32 1073741827, .int .u64 0, .int .u64 (high * 4294967296 + sb : Nat), .int .u64 0, .int .u64 0, .int .u64 0, .int .u64 0, .int .u64 0]] W fun e w' => e = .returned (.agg #[.int .u32 (mn : Nat), .int .u32 1073741827, .int .u64 0, .int .u64 (high * 4294967296 + sb : Nat), .int .u64 0, .int .u64 0, .int .u64 0, .int .u64 0, .int .u64 0]) ∧ Below W.heap.size W w') := Lib.hid fun W => record12_any (⟨mn, 1073741827, 0, fun i => if i = 0 then high * 4294967296 + sb else 0⟩ : RV) W
              have HMX : Hid (∀ W, TbA W (some ⟨b, o, none⟩) n T → Calls Try.prog 21 #[.slice (some ⟨b, o, none⟩) n c2, .agg #[.int .u32 (mn : Nat), .int .u32 1073741827, .int .u64 0, .int .u64 (high * 4294967296 + sb : Nat), .int .u64 0, .int .u64 0, .int .u64 0, .int .u64 0, .int .u64 0]] W fun e w' => e = .returned (.agg #[.bool true, .int .i64 2, .string nmq, .bool true]) ∧ Below W.heap.size W w') := Lib.hid fun W h => by
                refine Calls.mono (of_mux (some ⟨b, o, none⟩) n c2 T (⟨mn, 1073741827, 0, fun i => if i = 0 then high * 4294967296 + sb else 0⟩ : RV) ⟨by show mn < _; have := HMN.out; omega, by show (1073741827 : Nat) < 4294967296; decide, by show (0 : Nat) < _; decide, fun i => by show (if i = 0 then high * 4294967296 + sb else 0) < _; split <;> omega⟩ W (by omega) h) ?_
                rintro e w' ⟨sm, ab, nm, mu, hc, rfl, hB⟩
                obtain ⟨rfl, rfl, rfl, rfl⟩ := reach_mux HOK.out HI.out HMI.out HMM.out HSI.out rfl HMN.out.1 (by show (if (0 : Nat) = 0 then high * 4294967296 + sb else 0) % 4294967296 = sb; rw [if_pos rfl]; omega) hc
                exact ⟨by rw [HNMQ.out] <;> rfl, hB⟩
              go_upto_region 21 with fail
              have hz := HKW.out _ (hbw (.cells #[.int .u32 0, .int .u32 102, .int .u32 117] 47) (.cells #[.int .u32 (mn : Nat), .int .u32 1073741827, .int .u64 0, .int .u64 ((high : Int) * 4294967296 + (sb : Int)), .int .u64 0, .int .u64 0, .int .u64 0, .int .u64 0, .int .u64 0] 51))
              have HXW := Lib.hid hz.1
              have HTKW := Lib.hid hz.2.1
              have HBW := Lib.hid hz.2.2
              clear hz hbw q7' HKW q6 q7 kk
              go_wp2_with fail
              refine (HRC.out _).mono ?_
              rintro e wa ⟨rfl, hBa⟩
              have HXa := Lib.hid (HXW.out.below hBa (Nat.le_refl _))
              have HTKa := Lib.hid (HTKW.out.below hBa HTKW.out.lt)
              have HBa := Lib.hid (HBW.out.trans (hBa.mono HBW.out.size))
              clear hBa HXW HTKW HBW
              go_wp2_with fail
              refine (HMX.out _ HXa.out).mono ?_
              rintro e wb ⟨rfl, hBb⟩
              obtain ⟨V, hV⟩ : ∃ V, wb.alloc (.cells #[.bool true, .int .i64 2, .string nmq, .bool true] 53) = V := ⟨_, rfl⟩
              have rv : RowC V wb.heap.size #[.bool true, .int .i64 2, .string nmq, .bool true] 53 := by rw [← hV]; exact RowC.new _ _ _ _ rfl
              have hbV : Below wa.heap.size wa V := by rw [← hV]; exact hBb.alloc hBb.size _
              have HK0 : Hid (∀ N, Below V.heap.size V (V.drewN N)) := Lib.hid fun N => bdn (Below.refl _ V) N
              have HXV := Lib.hid (HXa.out.below hbV (Nat.le_refl _))
              have HTKV := Lib.hid (HTKa.out.below hbV HTKa.out.lt)
              have HBV := Lib.hid (HBa.out.trans (hbV.mono HBa.out.size))
              have x0 := rv.cell 0 _ rfl
              have x1 := rv.cell 1 _ rfl
              have x2 := rv.cell 2 _ rfl
              have x3 := rv.cell 3 _ rfl
              have hTb := HXV.out.tb HI.out
              have q0 := (hTb.2 i HI.out).1
              rw [HNMQ.out] at q0
              have e53 : ∀ W, (binOp .neq 53 (.agg #[.bool true, .int .i64 2, .string nmq, .bool true]) (.agg #[.bool true, .int .i64 2, .string nmq, .bool true])).run Try.prog W = .ok (.bool false) W := by
                intro W
                go_simp
              have HV := Lib.hid hV
              clear hBb hbV rv hTb hV HXa HTKa HBa HMX HRC
              go_upto_region 22 with fail
              rw [HV.out]
              go_cut [102] from 26 to 102 (fun s wx => s = .bool false ∧ TbA wx (some ⟨b, o, none⟩) n T ∧ RowC wx TK #[.int .u32 3221225534, .int .u32 3221225534, .int .u32 1073741827, .int .u32 3221225655, .int .u32 3221225715] 47 ∧ Below w0.heap.size w0 wx)
              case first =>
                go_quiet (fail)
                go_wp2
                go_meet
                exact ⟨rfl, HXV.out.below (HK0.out _) (Nat.le_refl _), HTKV.out.below (HK0.out _) HTKV.out.lt, HBV.out.trans ((HK0.out _).mono HBV.out.size)⟩
              case rest =>
                obtain ⟨rfl, hx, htk, hB⟩ := hcut
                have HXW := Lib.hid hx
                have HTKW := Lib.hid htk
                have HBW := Lib.hid hB
                clear hx htk hB x0 x1 x2 x3 q0 e53 HV HXV HTKV HBV HK0
                go_wp2
                exact ⟨⟨i + 1, by have := HI.out; omega, by go_num, HXW.out, HTKW.out, HBW.out⟩, by have := HI.out; simp [intOf]; omega⟩
            · have g1 : decide (mi > 0) = false := decide_eq_false hm0
              clear hTb hmi hsi hmx hm0
              go_wp2
              exact ⟨⟨i + 1, by have := HI.out; omega, by go_num, HXW.out, HTKW.out, HBW.out⟩, by have := HI.out; simp [intOf]; omega⟩
      · have g0 : decide (y ≥ 0) = false := decide_eq_false hy0
        clear hy0 hrg HY t0
        go_upto_region 17 with fail
        have hTb := HXW.out.tb HI.out
        obtain ⟨-, -, -, -, -, -, q6, q7⟩ := hTb.2 i HI.out
        have hmx := (row_ok (HOK.out.2 i HI.out)).2.2.2.1
        obtain ⟨mi, hmi⟩ : ∃ mi, (T i).mx = mi := ⟨_, rfl⟩
        obtain ⟨si, hsi⟩ : ∃ si, (T i).sb = si := ⟨_, rfl⟩
        unfold MxP at hmx
        rw [hmi, hsi] at hmx
        rw [hmi] at q6
        rw [hsi] at q7
        by_cases hm0 : mi > 0
        · have g1 : decide (mi > 0) = true := decide_eq_true hm0
          have hcs : (mi = 1 ∨ mi = 2) ∧ 1 ≤ si ∧ si ≤ 255 := by rcases hmx with ⟨h, _⟩ | h; exact absurd h (by omega); exact h
          obtain ⟨sb, rfl⟩ := Int.eq_ofNat_of_zero_le (show 0 ≤ si by omega)
          obtain ⟨m, rfl⟩ := Int.eq_ofNat_of_zero_le (show 0 ≤ mi by omega)
          have hmm : m = 1 ∨ m = 2 := by omega
          have hsl : sb ≤ 255 := by omega
          have HMI := Lib.hid hmi
          have HSI := Lib.hid hsi
          have HMM : Hid (0 < m) := Lib.hid (by omega)
          obtain ⟨mn, hmn⟩ : ∃ mn, (if m = 1 then 102 else 117) = mn := ⟨_, rfl⟩
          have HMN : Hid (mn = (if m = 1 then 102 else 117) ∧ mn ≤ 117) := Lib.hid ⟨hmn.symm, by rw [← hmn]; split <;> decide⟩
          have kk : (wr.alloc (.cells #[.int .u32 0, .int .u32 102, .int .u32 117] 47)).cell? ⟨wr.heap.size, m, none⟩ = some (.int .u32 (mn : Nat)) := by
            rw [← hmn]
            rcases hmm with rfl | rfl <;> exact (RowC.new wr _ _ _ rfl).cell _ _ rfl
          have j1 : (0 : Int) ≤ (m : Int) := by omega
          have j2 : (m : Int) < 3 := by omega
          have u1 : IntKind.u64.wrap (sb : Int) = (sb : Int) := by rw [IntKind.wrap_u64]; omega
          have u2 : IntKind.u64.wrap ((high : Int) * 4294967296) = (high : Int) * 4294967296 := by rw [IntKind.wrap_u64]; omega
          have u3 : IntKind.u64.wrap ((high : Int) * 4294967296 + (sb : Int)) = ((high * 4294967296 + sb : Nat) : Int) := by rw [IntKind.wrap_u64]; omega
          have u4 : IntKind.u64.wrap (high : Int) = (high : Int) := by rw [IntKind.wrap_u64]; omega
          have hbw : ∀ (O1 O2 : Obj), Below wr.heap.size wr ((wr.alloc O1).alloc O2) := fun O1 O2 => ((Below.refl _ _).alloc (Nat.le_refl _) O1).alloc (by simp) O2
          have HKW : Hid (∀ W, Below wr.heap.size wr W → TbA W (some ⟨b, o, none⟩) n T ∧ RowC W TK #[.int .u32 3221225534, .int .u32 3221225534, .int .u32 1073741827, .int .u32 3221225655, .int .u32 3221225715] 47 ∧ Below w0.heap.size w0 W) := Lib.hid fun W hW => ⟨HXW.out.below hW (Nat.le_refl _), HTKW.out.below hW HTKW.out.lt, HBW.out.trans (hW.mono HBW.out.size)⟩
          have q7' : ∀ (O1 O2 : Obj), ((wr.alloc O1).alloc O2).cell? ⟨b, o + i * 8 + 7, none⟩ = some (.int .i64 (sb : Nat)) := fun O1 O2 => ((hbw O1 O2).cell (p := ⟨b, o + i * 8 + 7, none⟩) hTb.1).trans q7
          clear hTb hmi hsi hmx hm0 hcs hmn hmm
          have HRC : Hid (∀ W, Calls Try.prog 23 #[.agg #[.int .u32 (mn : Nat), .int .u32 1073741827, .int .u64 0, .int .u64 (high * 4294967296 + sb : Nat), .int .u64 0, .int .u64 0, .int .u64 0, .int .u64 0, .int .u64 0]] W fun e w' => e = .returned (.agg #[.int .u32 (mn : Nat), .int .u32 1073741827, .int .u64 0, .int .u64 (high * 4294967296 + sb : Nat), .int .u64 0, .int .u64 0, .int .u64 0, .int .u64 0, .int .u64 0]) ∧ Below W.heap.size W w') := Lib.hid fun W => record12_any (⟨mn, 1073741827, 0, fun i => if i = 0 then high * 4294967296 + sb else 0⟩ : RV) W
          have HMX : Hid (∀ W, TbA W (some ⟨b, o, none⟩) n T → Calls Try.prog 21 #[.slice (some ⟨b, o, none⟩) n c2, .agg #[.int .u32 (mn : Nat), .int .u32 1073741827, .int .u64 0, .int .u64 (high * 4294967296 + sb : Nat), .int .u64 0, .int .u64 0, .int .u64 0, .int .u64 0, .int .u64 0]] W fun e w' => e = .returned (.agg #[.bool true, .int .i64 2, .string nmq, .bool true]) ∧ Below W.heap.size W w') := Lib.hid fun W h => by
            refine Calls.mono (of_mux (some ⟨b, o, none⟩) n c2 T (⟨mn, 1073741827, 0, fun i => if i = 0 then high * 4294967296 + sb else 0⟩ : RV) ⟨by show mn < _; have := HMN.out; omega, by show (1073741827 : Nat) < 4294967296; decide, by show (0 : Nat) < _; decide, fun i => by show (if i = 0 then high * 4294967296 + sb else 0) < _; split <;> omega⟩ W (by omega) h) ?_
            rintro e w' ⟨sm, ab, nm, mu, hc, rfl, hB⟩
            obtain ⟨rfl, rfl, rfl, rfl⟩ := reach_mux HOK.out HI.out HMI.out HMM.out HSI.out rfl HMN.out.1 (by show (if (0 : Nat) = 0 then high * 4294967296 + sb else 0) % 4294967296 = sb; rw [if_pos rfl]; omega) hc
            exact ⟨by rw [HNMQ.out] <;> rfl, hB⟩
          go_upto_region 21 with fail
          have hz := HKW.out _ (hbw (.cells #[.int .u32 0, .int .u32 102, .int .u32 117] 47) (.cells #[.int .u32 (mn : Nat), .int .u32 1073741827, .int .u64 0, .int .u64 ((high : Int) * 4294967296 + (sb : Int)), .int .u64 0, .int .u64 0, .int .u64 0, .int .u64 0, .int .u64 0] 51))
          have HXW := Lib.hid hz.1
          have HTKW := Lib.hid hz.2.1
          have HBW := Lib.hid hz.2.2
          clear hz hbw q7' HKW q6 q7 kk
          go_wp2_with fail
          refine (HRC.out _).mono ?_
          rintro e wa ⟨rfl, hBa⟩
          have HXa := Lib.hid (HXW.out.below hBa (Nat.le_refl _))
          have HTKa := Lib.hid (HTKW.out.below hBa HTKW.out.lt)
          have HBa := Lib.hid (HBW.out.trans (hBa.mono HBW.out.size))
          clear hBa HXW HTKW HBW
          go_wp2_with fail
          refine (HMX.out _ HXa.out).mono ?_
          rintro e wb ⟨rfl, hBb⟩
          obtain ⟨V, hV⟩ : ∃ V, wb.alloc (.cells #[.bool true, .int .i64 2, .string nmq, .bool true] 53) = V := ⟨_, rfl⟩
          have rv : RowC V wb.heap.size #[.bool true, .int .i64 2, .string nmq, .bool true] 53 := by rw [← hV]; exact RowC.new _ _ _ _ rfl
          have hbV : Below wa.heap.size wa V := by rw [← hV]; exact hBb.alloc hBb.size _
          have HK0 : Hid (∀ N, Below V.heap.size V (V.drewN N)) := Lib.hid fun N => bdn (Below.refl _ V) N
          have HXV := Lib.hid (HXa.out.below hbV (Nat.le_refl _))
          have HTKV := Lib.hid (HTKa.out.below hbV HTKa.out.lt)
          have HBV := Lib.hid (HBa.out.trans (hbV.mono HBa.out.size))
          have x0 := rv.cell 0 _ rfl
          have x1 := rv.cell 1 _ rfl
          have x2 := rv.cell 2 _ rfl
          have x3 := rv.cell 3 _ rfl
          have hTb := HXV.out.tb HI.out
          have q0 := (hTb.2 i HI.out).1
          rw [HNMQ.out] at q0
          have e53 : ∀ W, (binOp .neq 53 (.agg #[.bool true, .int .i64 2, .string nmq, .bool true]) (.agg #[.bool true, .int .i64 2, .string nmq, .bool true])).run Try.prog W = .ok (.bool false) W := by
            intro W
            go_simp
          have HV := Lib.hid hV
          clear hBb hbV rv hTb hV HXa HTKa HBa HMX HRC
          go_upto_region 22 with fail
          rw [HV.out]
          go_cut [102] from 26 to 102 (fun s wx => s = .bool false ∧ TbA wx (some ⟨b, o, none⟩) n T ∧ RowC wx TK #[.int .u32 3221225534, .int .u32 3221225534, .int .u32 1073741827, .int .u32 3221225655, .int .u32 3221225715] 47 ∧ Below w0.heap.size w0 wx)
          case first =>
            go_quiet (fail)
            go_wp2
            go_meet
            exact ⟨rfl, HXV.out.below (HK0.out _) (Nat.le_refl _), HTKV.out.below (HK0.out _) HTKV.out.lt, HBV.out.trans ((HK0.out _).mono HBV.out.size)⟩
          case rest =>
            obtain ⟨rfl, hx, htk, hB⟩ := hcut
            have HXW := Lib.hid hx
            have HTKW := Lib.hid htk
            have HBW := Lib.hid hB
            clear hx htk hB x0 x1 x2 x3 q0 e53 HV HXV HTKV HBV HK0
            go_wp2
            exact ⟨⟨i + 1, by have := HI.out; omega, by go_num, HXW.out, HTKW.out, HBW.out⟩, by have := HI.out; simp [intOf]; omega⟩
        · have g1 : decide (mi > 0) = false := decide_eq_false hm0
          clear hTb hmi hsi hmx hm0
          go_wp2
          exact ⟨⟨i + 1, by have := HI.out; omega, by go_num, HXW.out, HTKW.out, HBW.out⟩, by have := HI.out; simp [intOf]; omega⟩
    · obtain rfl : i = n := by omega
      have i2 : ¬ (i : Int) < (i : Int) := by omega
      go_wp2_with (go_at_call 25; refine (HAW.out _).mono ?_; rintro e w9 ⟨rfl, hB9⟩)
      go_ret
      exact ⟨rfl, HBW.out.trans (hB9.mono HBW.out.size)⟩

namespace muxReachesRow
open Go.ChangeShapes Go.WideShapes Go.ChangeAt Go.RowKit Go.Joins
open Go.ChangeMaps (open_string shut_string)
set_option linter.unusedVariables false
theorem own : ownKnob Try.prog.godebug = none := by kernel_rfl
theorem laidOut : laidOutB Try.prog = true := by kernel_rfl
set_option maxRecDepth 100000 in
theorem lifted (os : Os) (started : os.Started) (H : Type) (enc : TypeId × Value → H) :
    ReturnsInHanded {} Try.checked os 7 .any (Rows.muxReachesSpec.pre6 enc Try.prog Try.f7 Rows.muxReachesRow.domain false) (Rows.muxReachesSpec.post enc Try.prog Try.f7 false true false false) := by
  refine returnsInHanded_of_change (C := Try.checked) own started (by kernel_rfl) Try.func7
    (ChangeSpec.witness6 (enc := enc) (C := Try.checked) false ⟨#[], #[.slice none 0 0, .int .u8 0, .int .u32 0], []⟩ 8 (by kernel_rfl) (by kernel_rfl) (by kernel_rfl) (by kernel_rfl)) ?_
  intro W base args ds gs before hval0 hW hcnd _
  have hval : ∀ (j : Nat) t v, Try.f7.params[j]? = some t → args[j]? = some v → Value.okWide Try.prog W .any base t v := hval0
  have hW' := hW
  obtain ⟨p, q, hA0, hV, rfl, hfz, hnd⟩ := hW
  have hA : DataW.TrodAll enc Try.prog W 0 (fun _ => true) true Try.f7.params.toList args.toList ds p := hA0
  rw [Try.params7] at hA hval
  obtain ⟨v0, vs0, d0, ds0, p0, q0, hargs, rfl, rfl, h0, r0⟩ := trodAll_cons hA
  obtain ⟨v1, vs1, d1, ds1, p1, q1, rfl, rfl, rfl, h1, r1⟩ := trodAll_cons r0
  obtain ⟨v2, vs2, d2, ds2, p2, q2, rfl, rfl, rfl, h2, r2⟩ := trodAll_cons r1
  obtain ⟨rfl, rfl, rfl⟩ := trodAll_nil r2
  obtain rfl : args = #[v0, v1, v2] := by cases args; simp_all
  obtain ⟨rfl, rfl⟩ := trodVars_none hV
  have k0 := h0
  have lt0 : ∀ x ∈ p0, x.block < W.heap.size := by obtain ⟨m, hm⟩ := k0; exact DataW.trod_lt m _ _ _ hm
  have k1 := h1
  have lt1 : ∀ x ∈ p1, x.block < W.heap.size := by obtain ⟨m, hm⟩ := k1; exact DataW.trod_lt m _ _ _ hm
  have k2 := h2
  have lt2 : ∀ x ∈ p2, x.block < W.heap.size := by obtain ⟨m, hm⟩ := k2; exact DataW.trod_lt m _ _ _ hm
  obtain ⟨a0, len0, cap0, rfl⟩ := okWide_slice Try.underlying22 (hval 0 22 v0 rfl rfl)
  obtain ⟨g0, w0⟩ := open_rows h0
  obtain ⟨a1, rfl, rfl, rfl, w1⟩ := open_int Try.underlying5 (hval 1 5 v1 rfl rfl) h1
  obtain ⟨a2, rfl, rfl, rfl, w2⟩ := open_int Try.underlying47 (hval 2 47 v2 rfl rfl) h2
  clear hA0 hval0
  refine (walk_MuxReaches (w0 := W) a0 len0 cap0 g0 w0 a1 w1 a2 w2).mono fun e W' ⟨he, bel⟩ => ?_
  subst he
  exact ⟨_, rfl, _, _, _, [], _, [], hW', trodAll_mk1 (shut_bool Try.underlying4 _), (trodAll_cons_mk (Below.trod laidOut (by kernel_rfl) (of_decide_eq_true (by kernel_rfl)) k0 bel lt0) (trodAll_cons_mk (Below.trod laidOut (by kernel_rfl) (of_decide_eq_true (by kernel_rfl)) k1 bel lt1) (trodAll_cons_mk (Below.trod laidOut (by kernel_rfl) (of_decide_eq_true (by kernel_rfl)) k2 bel lt2) trodAll_mk0))), rfl, bel.frame _, fun h => by cases h⟩

theorem over : Rows.muxReachesRow.holds Try.pinned (OpenSpec.ofChange Rows.muxReachesSpec) :=
  OpenClaim.holds_of_wide 7 Try.f7 rfl rfl rfl rfl rfl rfl rfl ⟨rfl, rfl, rfl, rfl, rfl⟩ rfl rfl rfl rfl rfl (by kernel_rfl) Try.func7 (by kernel_rfl)
    (of_decide_eq_true (by kernel_rfl)) (by unfold Func.isWrapper; first | (rw [if_pos (by decide +kernel)]; kernel_rfl) | (rw [if_neg (by decide +kernel)]; exact ⟨rfl, rfl⟩))
    (fun os started H enc _ => lifted os started H enc)
end muxReachesRow

theorem muxReaches_proved : Rows.MuxReachesSaid := muxReachesRow.over
#print axioms muxReaches_proved
end Go.Proofs.Ytlninlempefjcaa
