/-
  Rows that do not rise are no table; more than 400 are too many.
-/
import Derived.Test.YtlninlempefjcaaDoorRows
import Derived.Test.YtlninlempefjcaaDoorCards
import Derived.Test.YtlninlempefjcaaDoorTie
import Derived.Test.YtlninlempefjcaaDoorUe
import Derived.Test.YtlninlempefjcaaDoorSi
import Derived.Test.YtlninlempefjcaaDoorSm
import Derived.Test.YtlninlempefjcaaDoorSn
import Derived.Test.YtlninlempefjcaaDoorSr
import Derived.Test.YtlninlempefjcaaDoorUi
import Derived.Laws.BytesArg
import Derived.WalkKit
import Derived.ProofKit
import Derived.OpenShut
import Derived.ShutString
import Derived.ChangeOld
import Derived.Below
import Derived.Lib.SmallJoins
import Derived.SevenTiedAt
import Derived.LaidMore
import Derived.MakeChecks
import Derived.Lay
import Derived.Stop.Joined
import Derived.Deep.Cut
import Derived.RegionTactic
import Derived.BigQuiet
import Derived.Deep.QuietTactic
import Derived.Deep.RegionHeld3
import Derived.Deep.CutRange
namespace Go.Proofs.YtlninlempefjcaaDoor
open Go.RowKit
set_option linter.unusedVariables false

def o1 (i : Nat) : Nat := 97 + i / 26 % 26
def o2 (i : Nat) : Nat := 97 + i % 26
def nmO (i : Nat) : ByteArray := ⟨#[110, UInt8.ofNat (o1 i), UInt8.ofNat (o2 i)]⟩
theorem nmO_app (i : Nat) : (⟨#[110]⟩ : ByteArray) ++ strOfNums [97 + (i : Int) / 26 % 26, 97 + (i : Int) % 26] = nmO i := by
  have e1 : (97 + (i : Int) / 26 % 26).toNat = o1 i := by unfold o1; omega
  have e2 : (97 + (i : Int) % 26).toNat = o2 i := by unfold o2; omega
  apply ByteArray.ext
  rw [ByteArray.data_append]
  simp [strOfNums, nmO, e1, e2]
def TO (i : Nat) : SR := ⟨nmO i, -1, -1, -1, -1, (i : Int), 0, 0⟩
theorem TO_nm : ((List.range 405).all fun i => nmB (nmO i) && riseB TO i) = true := by kernel_rfl
theorem TO_ok (i : Nat) (hi : i < 405) : rowF TO i = 0 := by
  have h := List.all_eq_true.1 TO_nm i (List.mem_range.2 hi)
  rw [Bool.and_eq_true] at h
  refine row0 (nmB_P h.1) (fun h0 => ?_) (fun a ha => ?_) (.inl ⟨rfl, rfl⟩) ?_ ?_
  · have h2 := h.2
    unfold riseB at h2
    rw [Bool.or_eq_true] at h2
    rcases h2 with h2 | h2
    · have := eq_of_beq h2; omega
    · rw [ByteArray.toList_eq, ByteArray.toList_eq]; exact h2
  · have hc : a = 0 ∨ a = 1 ∨ a = 2 ∨ a = 3 ∨ a = 4 := by omega
    rcases hc with rfl | rfl | rfl | rfl | rfl
    · show -1 ≤ (-1 : Int) ∧ (-1 : Int) ≤ 1073741823; omega
    · show -1 ≤ (-1 : Int) ∧ (-1 : Int) ≤ 1073741823; omega
    · show -1 ≤ (-1 : Int) ∧ (-1 : Int) ≤ 1073741823; omega
    · show -1 ≤ (-1 : Int) ∧ (-1 : Int) ≤ 1073741823; omega
    · show -1 ≤ (i : Int) ∧ (i : Int) ≤ 1073741823; omega
  · show ¬ ((-1 : Int) = 102 ∨ (-1 : Int) = 117)
    omega
  · rintro ⟨k, hk, ⟨a, h1, h2, h3⟩ | ⟨h1, _⟩⟩
    · have hc : a = 0 ∨ a = 1 ∨ a = 2 ∨ a = 3 ∨ a = 4 := by omega
      rcases hc with rfl | rfl | rfl | rfl | rfl
      · exact absurd (show (0 : Int) ≤ -1 from h2) (by omega)
      · exact absurd (show (0 : Int) ≤ -1 from h2) (by omega)
      · exact absurd (show (0 : Int) ≤ -1 from h2) (by omega)
      · exact absurd (show (0 : Int) ≤ -1 from h2) (by omega)
      · have : (k : Int) = (i : Int) := h3
        omega
    · exact absurd (show (0 : Int) < 0 from h1) (by omega)
/-- The rows with the first two exchanged. -/
def TX (i : Nat) : SR := if i = 0 then TO 1 else if i = 1 then TO 0 else TO i
theorem TX_0 : okB TX 0 = true := by kernel_rfl
theorem TX_1 : rowF TX 1 = 15 := row15a (nmB_P (by kernel_rfl)) (fun h => by
  have h1 := h (by omega)
  rw [ByteArray.toList_eq, ByteArray.toList_eq] at h1
  have h2 : Op.bytesLess (TX 0).nm.data.toList (TX 1).nm.data.toList = false := by kernel_rfl
  rw [show (1 : Nat) - 1 = 0 from rfl, h2] at h1
  cases h1)
theorem TX_right : RightP TX 10 1 15 := .inr (.inl ⟨by omega, by omega, fun j hj => by
  obtain rfl : j = 0 := by omega
  exact okB_row TX_0, by rw [TX_1]; decide, TX_1.symm⟩)
theorem TO_right (k : Nat) (hk : k ≤ 405) : RightP TO k 0 (if k > 400 then 3 else 0) := by
  by_cases h : k > 400
  · rw [if_pos h]; exact .inl ⟨h, rfl, rfl⟩
  · rw [if_neg h]; exact .inr (.inr ⟨by omega, fun j hj => TO_ok j (by omega), rfl, rfl⟩)
theorem drewC {W : World} {b : Nat} {cs : Array Value} {T : TypeId} (h : RowC W b cs T) : RowC W.drew b cs T := h
theorem own_cap {w : World} {base n c : Nat} {E : TypeId} {A : Option Addr} {F : Nat → Value} (h : OwnC w base E 8 A n c F) (hn : 0 < n) : n ≤ c := by
  obtain ⟨_, h2⟩ := h
  rcases h2 with ⟨e, h0⟩ | ⟨g, cap, cur, e, hg, hh, h3, _⟩
  · omega
  · injection e with e1 e2 e3
    omega
theorem own_row {w : World} {base n c : Nat} {E : TypeId} {A : Option Addr} {F : Nat → Value} (h : OwnC w base E 8 A n c F) (hn : 0 < n) : ∃ b, A = some ⟨b, 0, none⟩ ∧ base ≤ b ∧ ∃ cur : Array Value, RowC w b cur E ∧ n * 8 ≤ cur.size ∧ ∀ i, i < n * 8 → cur[i]? = some (F i) := by
  obtain ⟨h1, h2⟩ := h
  rcases h2 with ⟨e, h0⟩ | ⟨g, cap, cur, e, hg, hh, h3, h4, h5, h6⟩
  · omega
  · injection e with e1 e2 e3
    subst e1
    refine ⟨g, rfl, hg, cur, hh, by rw [h5]; omega, fun i hi => ?_⟩
    have h7 := congrArg (fun l => l[i]?) h6
    simp only [List.getElem?_take, List.getElem?_map, List.getElem?_range hi, Option.map_some] at h7
    rw [if_pos hi] at h7
    simpa using h7
theorem set16 (cur : Array Value) (hsz : 80 ≤ cur.size) (hc : ∀ i, i < 80 → cur[i]? = some (rcell TO i)) (j : Nat) (hj : j < 80) : ((((((((((((((((cur.setIfInBounds 0 (.string (nmO 1))).setIfInBounds 1 (.int .i64 (-1))).setIfInBounds 2 (.int .i64 (-1))).setIfInBounds 3 (.int .i64 (-1))).setIfInBounds 4 (.int .i64 (-1))).setIfInBounds 5 (.int .i64 1)).setIfInBounds 6 (.int .i64 0)).setIfInBounds 7 (.int .i64 0)).setIfInBounds 8 (.string (nmO 0))).setIfInBounds 9 (.int .i64 (-1))).setIfInBounds 10 (.int .i64 (-1))).setIfInBounds 11 (.int .i64 (-1))).setIfInBounds 12 (.int .i64 (-1))).setIfInBounds 13 (.int .i64 0)).setIfInBounds 14 (.int .i64 0)).setIfInBounds 15 (.int .i64 0))[j]? = some (rcell TX j) := by
  have z : ∀ k, k < 80 → k < cur.size := fun k hk => by omega
  by_cases h : j < 16
  · have hcs : j = 0 ∨ j = 1 ∨ j = 2 ∨ j = 3 ∨ j = 4 ∨ j = 5 ∨ j = 6 ∨ j = 7 ∨ j = 8 ∨ j = 9 ∨ j = 10 ∨ j = 11 ∨ j = 12 ∨ j = 13 ∨ j = 14 ∨ j = 15 := by omega
    rcases hcs with rfl | rfl | rfl | rfl | rfl | rfl | rfl | rfl | rfl | rfl | rfl | rfl | rfl | rfl | rfl | rfl
    all_goals
      simp only [Array.getElem?_setIfInBounds, Array.size_setIfInBounds]
      repeat rw [if_neg (by decide)]
      rw [if_pos (by trivial), if_pos (by omega)]
      rfl
  · have he : rcell TX j = rcell TO j := by
      unfold rcell TX
      rw [if_neg (by omega), if_neg (by omega)]
    rw [he, ← hc j hj]
    simp only [Array.getElem?_setIfInBounds]
    repeat rw [if_neg (by omega)]
theorem fin10 {W : World} {b : Nat} {cs : Array Value} {T : TypeId} (h : RowC W b cs T) (hg : ∀ j, j < 80 → cs[j]? = some (rcell TX j)) : Tb W.drew b 0 10 TX := by
  refine ⟨(drewC h).lt, fun i hi => ?_⟩
  have hc : ∀ c, c < 8 → ∀ v, (srow (TX i))[c]? = some v → W.drew.cell? ⟨b, 0 + i * 8 + c, none⟩ = some v := fun c hcc v hv => by
    refine (drewC h).cell _ _ ?_
    rw [Nat.zero_add, hg (i * 8 + c) (by omega)]
    unfold rcell
    rw [show (i * 8 + c) / 8 = i by omega, show (i * 8 + c) % 8 = c by omega, Array.getD_eq_getD_getElem?, hv]
    rfl
  exact ⟨hc 0 (by omega) _ rfl, hc 1 (by omega) _ rfl, hc 2 (by omega) _ rfl, hc 3 (by omega) _ rfl, hc 4 (by omega) _ rfl, hc 5 (by omega) _ rfl, hc 6 (by omega) _ rfl, hc 7 (by omega) _ rfl⟩
theorem bel16 {w0 w5 : World} {b : Nat} (h : Below w0.heap.size w0 w5) (hb : w0.heap.size ≤ b) {W : World} (hB : Below w0.heap.size w5 W) : Below w0.heap.size w0 W.drew := Below.drew (h.trans hB)
theorem of_laid {W : World} (h : laidMetH Tryd.prog Rows.systabOrderRow.laid W) : True := trivial
set_option maxRecDepth 100000 in
set_option maxHeartbeats 16000000 in
theorem walk_SystabOrder {w0 : World} (a' : Int) (ha : (Lit.int .u8 a').wf = true) (_ : True) :
    Calls Tryd.prog 7 #[.int .u8 a'] w0 fun e w' => e = .returned (.bool true) ∧ Below w0.heap.size w0 w' := by
  simp [Lit.wf, IntKind.min, IntKind.max, IntKind.signed, IntKind.bits] at ha
  obtain ⟨a, rfl⟩ := Int.eq_ofNat_of_zero_le ha.1
  have HAW := Lib.hid fun W => awake11_any W
  obtain ⟨k, hk⟩ : ∃ k : Nat, 396 + a % 10 = k := ⟨_, rfl⟩
  have hkl : 396 ≤ k ∧ k ≤ 405 := by omega
  have v1 : ((a : Int)).tmod 10 = ((a % 10 : Nat) : Int) := by rw [Int.tmod_eq_emod_of_nonneg (by omega)]; omega
  have v2 : IntKind.i64.wrap (396 + (a : Int) % 10) = (k : Int) := by rw [IntKind.wrap_i64]; omega
  go_enter Tryd.func7, Tryd.ntmps7
  go_upto_region 2 with fail
  go_wp2_with fail
  clear v1 v2
  go_loopw [4, 5] (fun v s wr => ∃ (i : Nat) (A' : Option Addr) (c' : Nat), i ≤ k ∧ s = .int .i64 i ∧ v = .slice A' i c' ∧ OwnC wr w0.heap.size 36 8 A' i c' (rcell TO) ∧ Below w0.heap.size w0 wr)
    (fun _ s _ => k - (intOf s).toNat)
  case atStart => exact ⟨0, none, 0, by omega, rfl, rfl, OwnC.nil_, Below.refl _ _⟩
  case round =>
    obtain ⟨i, A', c', hi, rfl, rfl, hown, hB⟩ := hrel
    have HOW := Lib.hid hown
    have HB := Lib.hid hB
    clear hown hB
    by_cases hlt : i < k
    · have i2 : (i : Int) < (k : Int) := by omega
      have d1 : ((i : Int)).tdiv 26 = ((i / 26 : Nat) : Int) := by rw [Int.tdiv_eq_ediv_of_nonneg (by omega)]; omega
      have d2 : ((i : Int)).tmod 26 = ((i % 26 : Nat) : Int) := by rw [Int.tmod_eq_emod_of_nonneg (by omega)]; omega
      have hr1 := RowC.new wr #[.int .u8 (97 + (i : Int) / 26 % 26), .int .u8 (97 + (i : Int) % 26)] 5 _ rfl
      have hcv := run_convert_bytes_arg (P := Tryd.prog) (wr.alloc (.cells #[.int .u8 (97 + (i : Int) / 26 % 26), .int .u8 (97 + (i : Int) % 26)] 5)) 47 5 Tryd.underlying47 Tryd.underlying5 wr.heap.size 0 2 2 [97 + (i : Int) / 26 % 26, 97 + (i : Int) % 26] rfl (fun j hj => by
        have hc : j = 0 ∨ j = 1 := by omega
        rcases hc with rfl | rfl <;> exact hr1.cell _ _ rfl) 9 Tryd.underlying9
      obtain ⟨S, hS⟩ : ∃ S, strOfNums [97 + (i : Int) / 26 % 26, 97 + (i : Int) % 26] = S := ⟨_, rfl⟩
      rw [hS] at hcv
      have hsz : S.size = 2 := by rw [← hS]; rfl
      have hap : (⟨#[110]⟩ : ByteArray) ++ S = nmO i := by rw [← hS]; exact nmO_app i
      have hcel : Cel ((wr.alloc (.cells #[.int .u8 (97 + (i : Int) / 26 % 26), .int .u8 (97 + (i : Int) % 26)] 5)).alloc (.cells #[.string (nmO i), .int .i64 (-1), .int .i64 (-1), .int .i64 (-1), .int .i64 (-1), .int .i64 (i : Int), .int .i64 0, .int .i64 0] 36)) (wr.heap.size + 1 + 1) 8 (some ⟨wr.heap.size + 1, 0, none⟩) 1 1 (fun c => (srow ⟨nmO i, -1, -1, -1, -1, (i : Int), 0, 0⟩).getD c undef) := by
        have h := one_row (wr.alloc (.cells #[.int .u8 (97 + (i : Int) / 26 % 26), .int .u8 (97 + (i : Int) % 26)] 5)) ⟨nmO i, -1, -1, -1, -1, (i : Int), 0, 0⟩ 36
        rw [show (wr.alloc (.cells #[.int .u8 (97 + (i : Int) / 26 % 26), .int .u8 (97 + (i : Int) % 26)] 5)).heap.size = wr.heap.size + 1 by simp] at h
        exact h
      have HCE := Lib.hid hcel
      clear hcel
      have HRC := Lib.hid (rcell_cat TO i ⟨nmO i, -1, -1, -1, -1, (i : Int), 0, 0⟩ rfl)
      have HSB := Lib.hid HB.out.size
      have HKL := Lib.hid hkl
      clear hr1 hS
      go_upto_region 6 with fail
      go_wp2_with (at_builtin; go_must (refine app_cells _ rfl _ _ _ 36 rfl Tryd.underlying27 infoT2 rfl (by decide) rfl ((HOW.out.alloc _).alloc _) rfl HCE.out (srow_one _) (by have := HKL.out; unfold maxLen; omega) (by have := HKL.out; omega) (by have := HSB.out; simp; omega) (i + 1) rfl (rcell TO) HRC.out ?_; rintro A2 c2 w2 hown2 hB2))
      exact ⟨⟨i + 1, A2, c2, by omega, by go_num, rfl, hown2, ((HB.out.alloc HSB.out _).alloc (by have := HSB.out; simp; omega) _).trans hB2⟩, by simp [intOf]; omega⟩
    · obtain rfl : i = k := by omega
      have i2 : ¬ (i : Int) < (i : Int) := by omega
      have HT := Lib.hid (own_tbl HOW.out)
      have hrt : Calls Tryd.prog 10 #[.slice A' i c'] wr fun e w' => ∃ q : Nat, ((i > 400 ∧ q = 3) ∨ (i ≤ 400 ∧ q = 0)) ∧ e = .returned (.tuple #[.int .i64 0, .int .i64 (q : Nat)]) ∧ Below wr.heap.size wr w' := by
        refine (Right_any A' i c' TO wr HT.out).mono ?_
        rintro e w' ⟨p, q, hP, rfl, hB⟩
        obtain ⟨rfl, rfl⟩ := RightP.uniq hP (TO_right i hkl.2)
        refine ⟨_, ?_, rfl, hB⟩
        by_cases h : i > 400
        · exact .inl ⟨h, by rw [if_pos h]⟩
        · exact .inr ⟨by omega, by rw [if_neg h]⟩
      have HRT := Lib.hid hrt
      clear hrt
      go_wp2_with fail
      refine HRT.out.mono ?_
      rintro e w5 ⟨q, hq, rfl, hB5⟩
      have HOW5 := Lib.hid (HOW.out.below hB5 (Nat.le_refl _))
      have HB5 := Lib.hid (HB.out.trans (hB5.mono HB.out.size))
      have HQ := Lib.hid hq
      have HKL := Lib.hid hkl
      clear hB5 HRT HT hq HOW HB hkl
      go_upto_region 8 with fail
      obtain ⟨b, rfl, hb0, cur, hrow, hsz, hcu⟩ := own_row HOW5.out (by have := HKL.out; omega)
      have hcap := own_cap HOW5.out (by have := HKL.out; omega)
      have hil := HKL.out.1
      have hcells : ∀ j, j < 16 → w5.cell? ⟨b, j, none⟩ = some (rcell TO j) := fun j hj => by
        have h := hcu j (by omega)
        exact hrow.cell j _ h
      have x0 : w5.cell? ⟨b, 0, none⟩ = some (.string (nmO 0)) := hcells 0 (by omega)
      have y0 := hrow.frozen 0
      have x1 : w5.cell? ⟨b, 1, none⟩ = some (.int .i64 (-1)) := hcells 1 (by omega)
      have y1 := hrow.frozen 1
      have x2 : w5.cell? ⟨b, 2, none⟩ = some (.int .i64 (-1)) := hcells 2 (by omega)
      have y2 := hrow.frozen 2
      have x3 : w5.cell? ⟨b, 3, none⟩ = some (.int .i64 (-1)) := hcells 3 (by omega)
      have y3 := hrow.frozen 3
      have x4 : w5.cell? ⟨b, 4, none⟩ = some (.int .i64 (-1)) := hcells 4 (by omega)
      have y4 := hrow.frozen 4
      have x5 : w5.cell? ⟨b, 5, none⟩ = some (.int .i64 0) := hcells 5 (by omega)
      have y5 := hrow.frozen 5
      have x6 : w5.cell? ⟨b, 6, none⟩ = some (.int .i64 0) := hcells 6 (by omega)
      have y6 := hrow.frozen 6
      have x7 : w5.cell? ⟨b, 7, none⟩ = some (.int .i64 0) := hcells 7 (by omega)
      have y7 := hrow.frozen 7
      have x8 : w5.cell? ⟨b, 8, none⟩ = some (.string (nmO 1)) := hcells 8 (by omega)
      have y8 := hrow.frozen 8
      have x9 : w5.cell? ⟨b, 9, none⟩ = some (.int .i64 (-1)) := hcells 9 (by omega)
      have y9 := hrow.frozen 9
      have x10 : w5.cell? ⟨b, 10, none⟩ = some (.int .i64 (-1)) := hcells 10 (by omega)
      have y10 := hrow.frozen 10
      have x11 : w5.cell? ⟨b, 11, none⟩ = some (.int .i64 (-1)) := hcells 11 (by omega)
      have y11 := hrow.frozen 11
      have x12 : w5.cell? ⟨b, 12, none⟩ = some (.int .i64 (-1)) := hcells 12 (by omega)
      have y12 := hrow.frozen 12
      have x13 : w5.cell? ⟨b, 13, none⟩ = some (.int .i64 1) := hcells 13 (by omega)
      have y13 := hrow.frozen 13
      have x14 : w5.cell? ⟨b, 14, none⟩ = some (.int .i64 0) := hcells 14 (by omega)
      have y14 := hrow.frozen 14
      have x15 : w5.cell? ⟨b, 15, none⟩ = some (.int .i64 0) := hcells 15 (by omega)
      have y15 := hrow.frozen 15
      have j1 : (0 : Int) < (i : Int) := by omega
      have j2 : (1 : Int) < (i : Int) := by omega
      clear hcells
      go_cut [51] from 42 to 51 (fun s wx => Tb wx b 0 10 TX ∧ Below w0.heap.size w0 wx)
      case first =>
        rename_i J1 K1 hJ1 hK1
        have hrx := ((((((((((((((((hrow.set 0 (.string (nmO 1))).set 1 (.int .i64 (-1))).set 2 (.int .i64 (-1))).set 3 (.int .i64 (-1))).set 4 (.int .i64 (-1))).set 5 (.int .i64 1)).set 6 (.int .i64 0)).set 7 (.int .i64 0)).set 8 (.string (nmO 0))).set 9 (.int .i64 (-1))).set 10 (.int .i64 (-1))).set 11 (.int .i64 (-1))).set 12 (.int .i64 (-1))).set 13 (.int .i64 0)).set 14 (.int .i64 0)).set 15 (.int .i64 0))
        have hst := set16 cur (by omega) (fun i hi => hcu i (by omega))
        have hbs : ∀ w', Below w0.heap.size w5 w' → Below w0.heap.size w0 w' := fun w' h => HB5.out.trans h
        clear HAW HOW5 HKL HQ
        go_region
        refine hK1 _ _ (Met.intro (hJ1 _ _ ?_))
        iterate 10 apply Exists.intro
        refine ⟨?_, rfl⟩
        refine ⟨fin10 hrx hst, bel16 HB5.out hb0 ?_⟩
        repeat (with_reducible first | exact Below.refl _ _ | (refine Below.setCell ?_ hb0 _))
      case rest =>
        obtain ⟨ht, hB⟩ := hcut
        have HTX := Lib.hid (TbA.of ht)
        have HBX := Lib.hid hB
        have hrt : Calls Tryd.prog 10 #[.slice (some ⟨b, 0, none⟩) 10 c'] wc fun e w' => e = .returned (.tuple #[.int .i64 1, .int .i64 15]) ∧ Below wc.heap.size wc w' := by
          refine (Right_any (some ⟨b, 0, none⟩) 10 c' TX wc HTX.out).mono ?_
          rintro e w' ⟨p, q, hP, rfl, hB⟩
          obtain ⟨rfl, rfl⟩ := RightP.uniq hP TX_right
          exact ⟨rfl, hB⟩
        have HRT := Lib.hid hrt
        have j3 : (10 : Int) ≤ (c' : Int) := by omega
        have j4 : 10 ≤ c' := by omega
        clear ht hB HOW5 HB5 hrow hrt
        go_wp2_with fail
        refine HRT.out.mono ?_
        rintro e w6 ⟨rfl, hB6⟩
        have HB6 := Lib.hid (HBX.out.trans (hB6.mono HBX.out.size))
        clear hB6 HRT
        rcases HQ.out with ⟨h4, rfl⟩ | ⟨h4, rfl⟩
        · have f1 : decide ((i : Int) > 400) = true := decide_eq_true (by omega)
          have f2 : decide ((i : Int) ≤ 400) = false := decide_eq_false (by omega)
          clear h4
          go_wp2_with (go_at_call 13; refine (HAW.out _).mono ?_; rintro e w9 ⟨rfl, hB9⟩)
          go_ret
          exact ⟨rfl, HB6.out.trans (hB9.mono HB6.out.size)⟩
        · have f1 : decide ((i : Int) > 400) = false := decide_eq_false (by omega)
          have f2 : decide ((i : Int) ≤ 400) = true := decide_eq_true (by omega)
          clear h4
          go_wp2_with (go_at_call 13; refine (HAW.out _).mono ?_; rintro e w9 ⟨rfl, hB9⟩)
          go_ret
          exact ⟨rfl, HB6.out.trans (hB9.mono HB6.out.size)⟩

namespace systabOrderRow
open Go.ChangeShapes Go.WideShapes Go.ChangeAt Go.RowKit Go.Joins
open Go.ChangeMaps (open_string shut_string)
set_option linter.unusedVariables false
theorem own : ownKnob Tryd.prog.godebug = none := by kernel_rfl
theorem laidOut : laidOutB Tryd.prog = true := by kernel_rfl
set_option maxRecDepth 100000 in
theorem lifted (os : Os) (started : os.Started) (H : Type) (enc : TypeId × Value → H) :
    ReturnsInHanded {} Tryd.checked os 7 .any (fun w args => (Rows.systabOrderSpec.pre enc Tryd.prog Tryd.f7 [] false w args ∧ laidMetH Tryd.prog Rows.systabOrderRow.laid w) ∧ sizedMet enc Tryd.prog Tryd.f7 (OpenSpec.ofChange Rows.systabOrderSpec) false w args) (Rows.systabOrderSpec.post enc Tryd.prog Tryd.f7 false true false false) := by
  refine returnsInHanded_of_change_and (C := Tryd.checked) (X := fun w _ => laidMetH Tryd.prog Rows.systabOrderRow.laid w) (fun _ _ _ hh h => h.of_heap hh) own started (by kernel_rfl) Tryd.func7
    (ChangeSpec.witness_shaped (enc := enc) (C := Tryd.checked) (os := os) (X := fun w _ => laidMetH Tryd.prog Rows.systabOrderRow.laid w) false (World.laidAll Tryd.prog os Rows.systabOrderRow.laid) #[.int .u8 0] 8 (World.laidAll_os _ _ _) (World.shaped_of_ZipB (by kernel_rfl) (by kernel_rfl)) (by kernel_rfl) (by kernel_rfl) (by kernel_rfl) (by rw [MakeChecks.laidMetH_plain _ _ _ (by kernel_rfl)]; exact laidMet_laidAll _ (by kernel_rfl) (by kernel_rfl))) ?_
  intro W base args ds gs before hval0 hW _ _ hL _
  have hval : ∀ (j : Nat) t v, Tryd.f7.params[j]? = some t → args[j]? = some v → Value.okWide Tryd.prog W .any base t v := hval0
  have hW' := hW
  obtain ⟨p, q, hA0, hV, rfl, hfz, hnd⟩ := hW
  have hA : DataW.TrodAll enc Tryd.prog W 0 (fun _ => true) true Tryd.f7.params.toList args.toList ds p := hA0
  rw [Tryd.params7] at hA hval
  obtain ⟨v0, vs0, d0, ds0, p0, q0, hargs, rfl, rfl, h0, r0⟩ := trodAll_cons hA
  obtain ⟨rfl, rfl, rfl⟩ := trodAll_nil r0
  obtain rfl : args = #[v0] := by cases args; simp_all
  obtain ⟨rfl, rfl⟩ := trodVars_none hV
  have k0 := h0
  have lt0 : ∀ x ∈ p0, x.block < W.heap.size := by obtain ⟨m, hm⟩ := k0; exact DataW.trod_lt m _ _ _ hm
  obtain ⟨a0, rfl, rfl, rfl, w0⟩ := open_int Tryd.underlying5 (hval 0 5 v0 rfl rfl) h0
  clear hA0 hval0
  refine (walk_SystabOrder (w0 := W) a0 w0 (of_laid hL)).mono fun e W' ⟨he, bel⟩ => ?_
  subst he
  exact ⟨_, rfl, _, _, _, [], _, [], hW', trodAll_mk1 (shut_bool Tryd.underlying4 _), (trodAll_cons_mk (Below.trod laidOut (by kernel_rfl) (of_decide_eq_true (by kernel_rfl)) k0 bel lt0) trodAll_mk0), rfl, bel.frame _, fun h => by cases h⟩

theorem over : Rows.systabOrderRow.holds Tryd.pinned (OpenSpec.ofChange Rows.systabOrderSpec) :=
  OpenClaim.holds_of_wide 7 Tryd.f7 rfl rfl rfl rfl rfl rfl rfl ⟨rfl, rfl, rfl, rfl, rfl⟩ rfl rfl rfl rfl rfl (by kernel_rfl) Tryd.func7 (by kernel_rfl)
    (of_decide_eq_true (by kernel_rfl)) (by unfold Func.isWrapper; first | (rw [if_pos (by decide +kernel)]; kernel_rfl) | (rw [if_neg (by decide +kernel)]; exact ⟨rfl, rfl⟩))
    (fun os started H enc _ => lifted os started H enc)
end systabOrderRow

theorem systabOrder_proved : Rows.SystabOrderCardSaid :=
  Claim7.holds_tied_plain_at .later [] [.data, .pinned] true Rows.systabOrderCard.stood.harness false
    systabOrderRow.over (fun _ h => by cases h) (by kernel_rfl) (fun _ h => by cases h) systabOrder_row_tie rfl ⟨rfl, rfl⟩ (by kernel_rfl) rfl
    (fun f fn hf hfn => by
      obtain rfl : f = 7 := Option.some.inj ((show Tryd.prog.funcNamed "strainer/strainerlaw11.SystabOrder" = some 7 by kernel_rfl).symm.trans hf) |>.symm
      obtain rfl : fn = Tryd.f7 := (Option.some.inj (Tryd.func7.symm.trans hfn)).symm
      exact ⟨by kernel_rfl, fun j t ht => by
        rw [Tryd.params7] at ht
        have hall : ∀ t ∈ [5], Tryd.prog.wantsStandIn t = false := by
          intro t ht
          simp only [List.mem_cons, List.not_mem_nil, or_false] at ht
          rcases ht with rfl <;> kernel_rfl
        exact hall t (by simpa using Array.mem_of_getElem? ht)⟩)
    (by kernel_rfl)
#print axioms systabOrder_proved
end Go.Proofs.YtlninlempefjcaaDoor
