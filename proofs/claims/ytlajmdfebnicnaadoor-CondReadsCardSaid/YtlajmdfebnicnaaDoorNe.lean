/-
  The contract of the document's own Read of layer 10: its ends.
-/
import Derived.Test.YtlajmdfebnicnaaDoorNb
import Derived.Test.YtlajmdfebnicnaaDoorGi
import Derived.RegionTactic
import Derived.Deep.Cut
namespace Go.Proofs.YtlajmdfebnicnaaDoor
open Go.Shelf Go.RowKit
set_option linter.unusedVariables false

theorem infoRC : (Tryd.prog.info? 29).map (·.size) = some 4 := by kernel_rfl
abbrev badC (k : Int) : Value := .tuple #[.agg #[.int .i64 0, .int .i64 0, .int .u64 0, .int .u64 0], .int .i64 0, .int .i64 k]
/-- The number of the operator of a word, of those below q; 0: none. -/
def opF (s : ByteArray) : Nat → Nat
  | 0 => 0
  | q + 1 => if (sgO q).toList == s.toList then q + 1 else opF s q
/-- What reading gives, behind a right first word. -/
def readV (i J : Nat) (o2 : Option Nat) (len : Nat) (eq3 : Bool) (o4 : Option Nat) : Value :=
  if len < 3 then badC 13 else if J = 0 then badC 13 else match o2 with
  | none => badC 13
  | some v => if J < 7 then .tuple #[.agg #[.int .i64 i, .int .i64 J, .int .u64 0, .int .u64 v], .int .i64 3, .int .i64 0] else if len < 5 then badC 13 else if eq3 = false then badC 13 else match o4 with
    | none => badC 13
    | some x => .tuple #[.agg #[.int .i64 i, .int .i64 7, .int .u64 v, .int .u64 x], .int .i64 5, .int .i64 0]
theorem opF_le (s : ByteArray) : ∀ q, opF s q ≤ q := by
  intro q
  induction q with
  | zero => rw [opF]; omega
  | succ q ih =>
    rw [opF]
    split <;> omega
theorem numE_tuple (o : Option Nat) : ∃ (a : Nat) (b : Bool), numE o = .tuple #[.int .u64 a, .bool b] := by
  cases o with
  | none => exact ⟨0, false, rfl⟩
  | some u => exact ⟨u, true, rfl⟩
theorem numE_false {o : Option Nat} {a : Nat} (h : numE o = .tuple #[.int .u64 a, .bool false]) : o = none := by
  cases o with
  | none => rfl
  | some u => simp [numE] at h
theorem numE_true {o : Option Nat} {a : Nat} (h : numE o = .tuple #[.int .u64 a, .bool true]) : o = some a := by
  cases o with
  | none => simp [numE] at h
  | some u =>
    simp [numE] at h
    congr 1
    omega
set_option maxRecDepth 100000 in
set_option maxHeartbeats 4000000 in
theorem wordC_at (j : Nat) (hj : j < 7) (w : World) : Calls Tryd.prog 14 #[.int .i64 ((j : Int) + 1)] w fun e w' => e = .returned (.string (sgO j)) ∧ Below w.heap.size w w' := by
  have hB : ∀ o, Below w.heap.size w (w.alloc o) := fun o => (Below.refl _ _).alloc (Nat.le_refl _) o
  have HB := Lib.hid hB
  clear hB
  have h : j = 0 ∨ j = 1 ∨ j = 2 ∨ j = 3 ∨ j = 4 ∨ j = 5 ∨ j = 6 := by omega
  clear hj
  rcases h with rfl | rfl | rfl | rfl | rfl | rfl | rfl
  · show Calls Tryd.prog 14 #[.int .i64 1] w fun e w' => e = .returned (.string ⟨#[61, 61]⟩) ∧ Below w.heap.size w w'
    go_enter Tryd.func14, Tryd.ntmps14
    go_wp2
    go_ret
    exact ⟨rfl, HB.out _⟩
  · show Calls Tryd.prog 14 #[.int .i64 2] w fun e w' => e = .returned (.string ⟨#[33, 61]⟩) ∧ Below w.heap.size w w'
    go_enter Tryd.func14, Tryd.ntmps14
    go_wp2
    go_ret
    exact ⟨rfl, HB.out _⟩
  · show Calls Tryd.prog 14 #[.int .i64 3] w fun e w' => e = .returned (.string ⟨#[60]⟩) ∧ Below w.heap.size w w'
    go_enter Tryd.func14, Tryd.ntmps14
    go_wp2
    go_ret
    exact ⟨rfl, HB.out _⟩
  · show Calls Tryd.prog 14 #[.int .i64 4] w fun e w' => e = .returned (.string ⟨#[60, 61]⟩) ∧ Below w.heap.size w w'
    go_enter Tryd.func14, Tryd.ntmps14
    go_wp2
    go_ret
    exact ⟨rfl, HB.out _⟩
  · show Calls Tryd.prog 14 #[.int .i64 5] w fun e w' => e = .returned (.string ⟨#[62]⟩) ∧ Below w.heap.size w w'
    go_enter Tryd.func14, Tryd.ntmps14
    go_wp2
    go_ret
    exact ⟨rfl, HB.out _⟩
  · show Calls Tryd.prog 14 #[.int .i64 6] w fun e w' => e = .returned (.string ⟨#[62, 61]⟩) ∧ Below w.heap.size w w'
    go_enter Tryd.func14, Tryd.ntmps14
    go_wp2
    go_ret
    exact ⟨rfl, HB.out _⟩
  · show Calls Tryd.prog 14 #[.int .i64 7] w fun e w' => e = .returned (.string ⟨#[38]⟩) ∧ Below w.heap.size w w'
    go_enter Tryd.func14, Tryd.ntmps14
    go_wp2
    go_ret
    exact ⟨rfl, HB.out _⟩
set_option maxRecDepth 100000 in
set_option maxHeartbeats 16000000 in
theorem refC_0 (A : Option Addr) (cap : Nat) (w : World) :
    Calls Tryd.prog 5 #[.slice A 0 cap] w fun e w' => e = .returned (badC 4) ∧ Below w.heap.size w w' := by
  obtain ⟨W0, hW0⟩ : ∃ W, w.alloc (.cells zC 29) = W := ⟨_, rfl⟩
  have hb0 : Below w.heap.size w W0 := by rw [← hW0]; exact (Below.refl _ _).alloc (Nat.le_refl _) _
  have r2 : RowC W0 w.heap.size zC 29 := by rw [← hW0]; exact RowC.new _ _ _ _ rfl
  have HV : Hid (badC 4 = badC 4) := Lib.hid rfl
  have HW0 := Lib.hid hW0
  have HB0 := Lib.hid hb0
  have R2 := Lib.hid r2
  have z0 := r2.cell 0 (.int .i64 0) rfl
  have z1 := r2.cell 1 (.int .i64 0) rfl
  have z2 := r2.cell 2 (.int .u64 0) rfl
  have z3 := r2.cell 3 (.int .u64 0) rfl
  have g0 := r2.frozen 0
  have g1 := r2.frozen 1
  have g2 := r2.frozen 2
  have g3 := r2.frozen 3
  clear hb0 r2 hW0
  go_enter Tryd.func5, Tryd.ntmps5
  go_upto_region 1 with fail
  rw [HW0.out]
  go_wp2
  exact bodyPost_ret (results_ctt Tryd.results5 _ _ w.heap.size _ _ (0, 0) _ (.int .i64 0) (.int .i64 4) (by rfl) (by rfl) (by rfl) (show RowC _ w.heap.size #[.int .i64 0, .int .i64 0, .int .u64 0, .int .u64 0] 29 from (((R2.out.set 0 (.int .i64 0)).set 1 (.int .i64 0)).set 2 (.int .u64 0)).set 3 (.int .u64 0)) Tryd.underlying29 (by rfl) (show _ = some 4 from infoRC)) rfl
    ⟨rfl, (((HB0.out.setCell (Nat.le_refl _) _).setCell (Nat.le_refl _) _).setCell (Nat.le_refl _) _).setCell (Nat.le_refl _) _⟩
set_option maxRecDepth 100000 in
set_option maxHeartbeats 16000000 in
theorem refC_no (S : ByteArray) (hS : S.size < 2 ∨ ∃ c, 2 ≤ S.size ∧ S.data.toList[0]? = some c ∧ c ≠ 97) (b o len cap : Nat) (hlen : 1 ≤ len) (w : World) (c0 : w.cell? ⟨b, o, none⟩ = some (.string S)) :
    Calls Tryd.prog 5 #[.slice (some ⟨b, o, none⟩) len cap] w fun e w' => e = .returned (badC 13) ∧ Below w.heap.size w w' := by
  have lb : b < w.heap.size := World.block_lt_of_cell? _ _ c0
  obtain ⟨W0, hW0⟩ : ∃ W, w.alloc (.cells zC 29) = W := ⟨_, rfl⟩
  have hb0 : Below w.heap.size w W0 := by rw [← hW0]; exact (Below.refl _ _).alloc (Nat.le_refl _) _
  have r2 : RowC W0 w.heap.size zC 29 := by rw [← hW0]; exact RowC.new _ _ _ _ rfl
  have ie : ((len : Int) == 0) = false := beq_eq_false_iff_ne.2 (by omega)
  have i0 : (0 : Int) < (len : Int) := by omega
  have k0 := (hb0.cell (p := ⟨b, o, none⟩) lb).trans c0
  have HW0 := Lib.hid hW0
  have HB0 := Lib.hid hb0
  have R2 := Lib.hid r2
  have LB := Lib.hid lb
  have HV : Hid (badC 13 = badC 13) := Lib.hid rfl
  have z0 := r2.cell 0 (.int .i64 0) rfl
  have z1 := r2.cell 1 (.int .i64 0) rfl
  have z2 := r2.cell 2 (.int .u64 0) rfl
  have z3 := r2.cell 3 (.int .u64 0) rfl
  have g0 := r2.frozen 0
  have g1 := r2.frozen 1
  have g2 := r2.frozen 2
  have g3 := r2.frozen 3
  rcases hS with hS | ⟨c, hS, hc, hn⟩
  · have q1 : (S.size : Int) < 2 := by omega
    have q2 : decide ((S.size : Int) < 2) = true := by simpa using q1
    clear hb0 r2 hW0 c0 lb
    go_enter Tryd.func5, Tryd.ntmps5
    go_upto_region 1 with fail
    rw [HW0.out]
    go_wp2
    exact bodyPost_ret (results_ctt Tryd.results5 _ _ w.heap.size _ _ (0, 0) _ (.int .i64 0) (.int .i64 13) (by rfl) (by rfl) (by rfl) (show RowC _ w.heap.size #[.int .i64 0, .int .i64 0, .int .u64 0, .int .u64 0] 29 from (((R2.out.set 0 (.int .i64 0)).set 1 (.int .i64 0)).set 2 (.int .u64 0)).set 3 (.int .u64 0)) Tryd.underlying29 (by rfl) (show _ = some 4 from infoRC)) rfl
      ⟨rfl, (((HB0.out.setCell (Nat.le_refl _) _).setCell (Nat.le_refl _) _).setCell (Nat.le_refl _) _).setCell (Nat.le_refl _) _⟩
  · have q1 : ¬ (S.size : Int) < 2 := by omega
    have q2 : decide ((S.size : Int) < 2) = false := by simpa using q1
    have hix0 := ixSb S 0 c hc
    have hix0' : ∀ W, (Instr.index 9 (.string S) (.int .i64 0)).run Tryd.prog W = .ok (.int .u8 c.toNat) W := fun W => hix0 W
    have ec : ((c.toNat : Int) == 97) = false := by
      rw [beq_eq_false_iff_ne]
      intro h
      exact hn (UInt8.toNat_inj.1 (by show c.toNat = 97; omega))
    have ec2 : ((c.toNat : Int) != 97) = true := by rw [bne, ec]; rfl
    clear hb0 r2 hW0 c0 lb hix0 hc hn hS
    go_enter Tryd.func5, Tryd.ntmps5
    go_upto_region 1 with fail
    rw [HW0.out]
    go_wp2
    exact bodyPost_ret (results_ctt Tryd.results5 _ _ w.heap.size _ _ (0, 0) _ (.int .i64 0) (.int .i64 13) (by rfl) (by rfl) (by rfl) (show RowC _ w.heap.size #[.int .i64 0, .int .i64 0, .int .u64 0, .int .u64 0] 29 from (((R2.out.set 0 (.int .i64 0)).set 1 (.int .i64 0)).set 2 (.int .u64 0)).set 3 (.int .u64 0)) Tryd.underlying29 (by rfl) (show _ = some 4 from infoRC)) rfl
      ⟨rfl, (((HB0.out.setCell (Nat.le_refl _) _).setCell (Nat.le_refl _) _).setCell (Nat.le_refl _) _).setCell (Nat.le_refl _) _⟩
set_option maxRecDepth 100000 in
set_option maxHeartbeats 16000000 in
theorem refC_form (S : ByteArray) (hs : S.size ≤ 60) (h2 : 2 ≤ S.size) (h97 : S.data.toList[0]? = some 97) (hbad : ∃ k e, 1 ≤ k ∧ S.data.toList[k]? = some e ∧ ¬ (48 ≤ e.toNat ∧ e.toNat ≤ 57)) (b o len cap : Nat) (hlen : 1 ≤ len) (w : World) (c0 : w.cell? ⟨b, o, none⟩ = some (.string S)) :
    Calls Tryd.prog 5 #[.slice (some ⟨b, o, none⟩) len cap] w fun e w' => e = .returned (badC 13) ∧ Below w.heap.size w w' := by
  have lb : b < w.heap.size := World.block_lt_of_cell? _ _ c0
  obtain ⟨W0, hW0⟩ : ∃ W, w.alloc (.cells zC 29) = W := ⟨_, rfl⟩
  have hb0 : Below w.heap.size w W0 := by rw [← hW0]; exact (Below.refl _ _).alloc (Nat.le_refl _) _
  have r2 : RowC W0 w.heap.size zC 29 := by rw [← hW0]; exact RowC.new _ _ _ _ rfl
  have ie : ((len : Int) == 0) = false := beq_eq_false_iff_ne.2 (by omega)
  have i0 : (0 : Int) < (len : Int) := by omega
  have k0 := (hb0.cell (p := ⟨b, o, none⟩) lb).trans c0
  have HW0 := Lib.hid hW0
  have HB0 := Lib.hid hb0
  have R2 := Lib.hid r2
  have LB := Lib.hid lb
  have HV : Hid (badC 13 = badC 13) := Lib.hid rfl
  have HBAD := Lib.hid hbad
  have z0 := r2.cell 0 (.int .i64 0) rfl
  have z1 := r2.cell 1 (.int .i64 0) rfl
  have z2 := r2.cell 2 (.int .u64 0) rfl
  have z3 := r2.cell 3 (.int .u64 0) rfl
  have g0 := r2.frozen 0
  have g1 := r2.frozen 1
  have g2 := r2.frozen 2
  have g3 := r2.frozen 3
  have q1 : ¬ (S.size : Int) < 2 := by omega
  have q2 : decide ((S.size : Int) < 2) = false := by simpa using q1
  have hix0 := ixSb S 0 97 h97
  have hix0' : ∀ W, (Instr.index 9 (.string S) (.int .i64 0)).run Tryd.prog W = .ok (.int .u8 97) W := fun W => hix0 W
  clear hix0
  clear hb0 r2 hW0 c0 lb h97 hbad
  go_enter Tryd.func5, Tryd.ntmps5
  go_upto_region 1 with fail
  rw [HW0.out]
  go_wp2_with fail
  go_loopw [6] (fun i wr => ∃ q : Nat, 1 ≤ q ∧ q ≤ S.size ∧ i = .int .i64 q ∧ Hid (∀ k e, 1 ≤ k → k < q → S.data.toList[k]? = some e → 48 ≤ e.toNat ∧ e.toNat ≤ 57) ∧ W0 = wr)
    (fun i _ => S.size - (intOf i).toNat)
  case atStart => exact ⟨1, by omega, by omega, rfl, Lib.hid fun k e h1 h2 => by omega, rfl⟩
  case round =>
    obtain ⟨q, hq1, hq, rfl, HQ, rfl⟩ := hrel
    by_cases hlt : q < S.size
    · have g1 : (q : Int) < (S.size : Int) := by omega
      obtain ⟨e, he⟩ : ∃ e, S.data.toList[q]? = some e := ⟨_, List.getElem?_eq_getElem (by rw [show S.data.toList.length = S.size from Array.length_toList]; exact hlt)⟩
      have hix := ixSb S q e he
      have HE := Lib.hid he
      clear he
      by_cases hlo : e.toNat < 48
      · have g2 : (e.toNat : Int) < 48 := by omega
        have g3 : decide ((e.toNat : Int) < 48) = true := by simpa using g2
        go_wp2
        exact bodyPost_ret (results_ctt Tryd.results5 _ _ w.heap.size _ _ (0, 0) _ (.int .i64 0) (.int .i64 13) (by rfl) (by rfl) (by rfl) (show RowC _ w.heap.size #[.int .i64 0, .int .i64 0, .int .u64 0, .int .u64 0] 29 from (((R2.out.set 0 (.int .i64 0)).set 1 (.int .i64 0)).set 2 (.int .u64 0)).set 3 (.int .u64 0)) Tryd.underlying29 (by rfl) (show _ = some 4 from infoRC)) rfl
          ⟨rfl, (((HB0.out.setCell (Nat.le_refl _) _).setCell (Nat.le_refl _) _).setCell (Nat.le_refl _) _).setCell (Nat.le_refl _) _⟩
      have g2 : ¬ (e.toNat : Int) < 48 := by omega
      have g3 : decide ((e.toNat : Int) < 48) = false := by simpa using g2
      by_cases hhi : e.toNat > 57
      · have g4 : (e.toNat : Int) > 57 := by omega
        have g5 : decide ((e.toNat : Int) > 57) = true := by simpa using g4
        go_wp2
        exact bodyPost_ret (results_ctt Tryd.results5 _ _ w.heap.size _ _ (0, 0) _ (.int .i64 0) (.int .i64 13) (by rfl) (by rfl) (by rfl) (show RowC _ w.heap.size #[.int .i64 0, .int .i64 0, .int .u64 0, .int .u64 0] 29 from (((R2.out.set 0 (.int .i64 0)).set 1 (.int .i64 0)).set 2 (.int .u64 0)).set 3 (.int .u64 0)) Tryd.underlying29 (by rfl) (show _ = some 4 from infoRC)) rfl
          ⟨rfl, (((HB0.out.setCell (Nat.le_refl _) _).setCell (Nat.le_refl _) _).setCell (Nat.le_refl _) _).setCell (Nat.le_refl _) _⟩
      · have g4 : ¬ (e.toNat : Int) > 57 := by omega
        have g5 : decide ((e.toNat : Int) > 57) = false := by simpa using g4
        go_wp2
        exact ⟨⟨q + 1, by omega, by omega, by go_num, Lib.hid fun k e' h1 h2 h3 => by
          by_cases hk : k = q
          · subst hk
            rw [HE.out] at h3
            obtain rfl := Option.some.inj h3
            omega
          · exact HQ.out k e' h1 (by omega) h3, trivial⟩, by simp [intOf]; omega⟩
    · exfalso
      obtain ⟨k, e, h1, h3, h4⟩ := HBAD.out
      have h5 := (List.getElem?_eq_some_iff.1 h3).1
      have h6 : k < S.size := by rw [show S.data.toList.length = S.size from Array.length_toList] at h5; exact h5
      exact h4 (HQ.out k e h1 (by omega) h3)
set_option maxRecDepth 100000 in
set_option maxHeartbeats 16000000 in
theorem refC_range (S : ByteArray) (hs : S.size ≤ 60) (h2 : 2 ≤ S.size) (h97 : S.data.toList[0]? = some 97) (c : UInt8) (h1c : S.data.toList[1]? = some c) (hd : ∀ k e, 1 ≤ k → S.data.toList[k]? = some e → 48 ≤ e.toNat ∧ e.toNat ≤ 57) (hr : 2 < S.size ∨ 53 < c.toNat) (b o len cap : Nat) (hlen : 1 ≤ len) (w : World) (c0 : w.cell? ⟨b, o, none⟩ = some (.string S)) :
    Calls Tryd.prog 5 #[.slice (some ⟨b, o, none⟩) len cap] w fun e w' => e = .returned (badC 16) ∧ Below w.heap.size w w' := by
  have lb : b < w.heap.size := World.block_lt_of_cell? _ _ c0
  obtain ⟨W0, hW0⟩ : ∃ W, w.alloc (.cells zC 29) = W := ⟨_, rfl⟩
  have hb0 : Below w.heap.size w W0 := by rw [← hW0]; exact (Below.refl _ _).alloc (Nat.le_refl _) _
  have r2 : RowC W0 w.heap.size zC 29 := by rw [← hW0]; exact RowC.new _ _ _ _ rfl
  have ie : ((len : Int) == 0) = false := beq_eq_false_iff_ne.2 (by omega)
  have i0 : (0 : Int) < (len : Int) := by omega
  have k0 := (hb0.cell (p := ⟨b, o, none⟩) lb).trans c0
  have HW0 := Lib.hid hW0
  have HB0 := Lib.hid hb0
  have R2 := Lib.hid r2
  have LB := Lib.hid lb
  have HV : Hid (badC 16 = badC 16) := Lib.hid rfl
  have HD := Lib.hid hd
  have HR := Lib.hid hr
  have H1C := Lib.hid h1c
  have z0 := r2.cell 0 (.int .i64 0) rfl
  have z1 := r2.cell 1 (.int .i64 0) rfl
  have z2 := r2.cell 2 (.int .u64 0) rfl
  have z3 := r2.cell 3 (.int .u64 0) rfl
  have g0 := r2.frozen 0
  have g1 := r2.frozen 1
  have g2 := r2.frozen 2
  have g3 := r2.frozen 3
  have q1 : ¬ (S.size : Int) < 2 := by omega
  have q2 : decide ((S.size : Int) < 2) = false := by simpa using q1
  have hix0 := ixSb S 0 97 h97
  have hix0' : ∀ W, (Instr.index 9 (.string S) (.int .i64 0)).run Tryd.prog W = .ok (.int .u8 97) W := fun W => hix0 W
  clear hix0
  clear hb0 r2 hW0 c0 lb h97 hd hr h1c
  go_enter Tryd.func5, Tryd.ntmps5
  go_upto_region 1 with fail
  rw [HW0.out]
  go_wp2_with fail
  go_loopw [6] (fun i wr => ∃ q : Nat, 1 ≤ q ∧ q ≤ S.size ∧ i = .int .i64 q ∧ Hid (∀ k e, 1 ≤ k → k < q → S.data.toList[k]? = some e → 48 ≤ e.toNat ∧ e.toNat ≤ 57) ∧ W0 = wr)
    (fun i _ => S.size - (intOf i).toNat)
  case atStart => exact ⟨1, by omega, by omega, rfl, Lib.hid fun k e h1 h2 => by omega, rfl⟩
  case round =>
    obtain ⟨q, hq1, hq, rfl, HQ, rfl⟩ := hrel
    by_cases hlt : q < S.size
    · have g1 : (q : Int) < (S.size : Int) := by omega
      obtain ⟨e, he⟩ : ∃ e, S.data.toList[q]? = some e := ⟨_, List.getElem?_eq_getElem (by rw [show S.data.toList.length = S.size from Array.length_toList]; exact hlt)⟩
      have hix := ixSb S q e he
      have HE := Lib.hid he
      clear he
      have hdig := HD.out q e hq1 HE.out
      have g2 : ¬ (e.toNat : Int) < 48 := by omega
      have g3 : decide ((e.toNat : Int) < 48) = false := by simpa using g2
      have g4 : ¬ (e.toNat : Int) > 57 := by omega
      have g5 : decide ((e.toNat : Int) > 57) = false := by simpa using g4
      · go_wp2
        exact ⟨⟨q + 1, by omega, by omega, by go_num, Lib.hid fun k e' h1 h2 h3 => by
          by_cases hk : k = q
          · subst hk
            rw [HE.out] at h3
            obtain rfl := Option.some.inj h3
            omega
          · exact HQ.out k e' h1 (by omega) h3, trivial⟩, by simp [intOf]; omega⟩
    obtain rfl : q = S.size := by omega
    have g1 : ¬ ((S.size : Nat) : Int) < (S.size : Int) := by omega
    clear hq1 hq HQ hlt
    have hix1 := ixSb S 1 c H1C.out
    have hix1' : ∀ W, (Instr.index 9 (.string S) (.int .i64 1)).run Tryd.prog W = .ok (.int .u8 c.toNat) W := fun W => hix1 W
    have p1 : (1 : Int) < (S.size : Int) := by omega
    clear hix1
    by_cases h3 : 2 < S.size
    · have g2 : (S.size : Int) > 2 := by omega
      have g3 : decide ((S.size : Int) > 2) = true := by simpa using g2
      go_wp2
      exact bodyPost_ret (results_ctt Tryd.results5 _ _ w.heap.size _ _ (0, 0) _ (.int .i64 0) (.int .i64 16) (by rfl) (by rfl) (by rfl) (show RowC _ w.heap.size #[.int .i64 0, .int .i64 0, .int .u64 0, .int .u64 0] 29 from (((R2.out.set 0 (.int .i64 0)).set 1 (.int .i64 0)).set 2 (.int .u64 0)).set 3 (.int .u64 0)) Tryd.underlying29 (by rfl) (show _ = some 4 from infoRC)) rfl
        ⟨rfl, (((HB0.out.setCell (Nat.le_refl _) _).setCell (Nat.le_refl _) _).setCell (Nat.le_refl _) _).setCell (Nat.le_refl _) _⟩
    · have g2 : ¬ (S.size : Int) > 2 := by omega
      have g3 : decide ((S.size : Int) > 2) = false := by simpa using g2
      have g4 : (c.toNat : Int) > 53 := by rcases HR.out with h | h; exact absurd h h3; omega
      have g5 : decide ((c.toNat : Int) > 53) = true := by simpa using g4
      go_wp2
      exact bodyPost_ret (results_ctt Tryd.results5 _ _ w.heap.size _ _ (0, 0) _ (.int .i64 0) (.int .i64 16) (by rfl) (by rfl) (by rfl) (show RowC _ w.heap.size #[.int .i64 0, .int .i64 0, .int .u64 0, .int .u64 0] 29 from (((R2.out.set 0 (.int .i64 0)).set 1 (.int .i64 0)).set 2 (.int .u64 0)).set 3 (.int .u64 0)) Tryd.underlying29 (by rfl) (show _ = some 4 from infoRC)) rfl
        ⟨rfl, (((HB0.out.setCell (Nat.le_refl _) _).setCell (Nat.le_refl _) _).setCell (Nat.le_refl _) _).setCell (Nat.le_refl _) _⟩
set_option maxRecDepth 100000 in
set_option maxHeartbeats 16000000 in
theorem refC_main (S : ByteArray) (i : Nat) (c : UInt8) (h2 : S.size = 2) (h97 : S.data.toList[0]? = some 97) (h1c : S.data.toList[1]? = some c) (hci : i < 6 ∧ c.toNat = 48 + i) (s1 s2 s3 s4 : ByteArray) (o2 o4 : Option Nat) (b o len cap : Nat) (hlen : 1 ≤ len) (w : World) (c0 : w.cell? ⟨b, o, none⟩ = some (.string S))
    (hn2 : ∀ X, Calls Tryd.prog 7 #[.string s2] X fun e w' => e = .returned (numE o2) ∧ Below X.heap.size X w') (hn4 : ∀ X, Calls Tryd.prog 7 #[.string s4] X fun e w' => e = .returned (numE o4) ∧ Below X.heap.size X w')
    (c1 : 3 ≤ len → w.cell? ⟨b, o + 1, none⟩ = some (.string s1)) (c2 : 3 ≤ len → w.cell? ⟨b, o + 2, none⟩ = some (.string s2)) (c3 : 5 ≤ len → w.cell? ⟨b, o + 3, none⟩ = some (.string s3)) (c4 : 5 ≤ len → w.cell? ⟨b, o + 4, none⟩ = some (.string s4)) :
    Calls Tryd.prog 5 #[.slice (some ⟨b, o, none⟩) len cap] w fun e w' => e = .returned (readV i (opF s1 7) o2 len (s3.toList == [61, 61]) o4) ∧ Below w.heap.size w w' := by
  have lb : b < w.heap.size := World.block_lt_of_cell? _ _ c0
  obtain ⟨W0, hW0⟩ : ∃ W, w.alloc (.cells zC 29) = W := ⟨_, rfl⟩
  have hb0 : Below w.heap.size w W0 := by rw [← hW0]; exact (Below.refl _ _).alloc (Nat.le_refl _) _
  have r2 : RowC W0 w.heap.size zC 29 := by rw [← hW0]; exact RowC.new _ _ _ _ rfl
  have ie : ((len : Int) == 0) = false := beq_eq_false_iff_ne.2 (by omega)
  have i0 : (0 : Int) < (len : Int) := by omega
  have k0 := (hb0.cell (p := ⟨b, o, none⟩) lb).trans c0
  have HW0 := Lib.hid hW0
  have HB0 := Lib.hid hb0
  have R2 := Lib.hid r2
  have LB := Lib.hid lb
  have HD : Hid (∀ k e, 1 ≤ k → S.data.toList[k]? = some e → 48 ≤ e.toNat ∧ e.toNat ≤ 57) := Lib.hid fun k e h1 h3 => by
    have h5 := (List.getElem?_eq_some_iff.1 h3).1
    have h6 : k < S.size := by rw [show S.data.toList.length = S.size from Array.length_toList] at h5; exact h5
    obtain rfl : k = 1 := by omega
    rw [h1c] at h3
    obtain rfl := Option.some.inj h3
    omega
  have HCI := Lib.hid hci
  have H1C := Lib.hid h1c
  have K1 := Lib.hid c1
  have K2 := Lib.hid c2
  have K3 := Lib.hid c3
  have K4 := Lib.hid c4
  have HN2 := Lib.hid hn2
  have HN4 := Lib.hid hn4
  have z0 := r2.cell 0 (.int .i64 0) rfl
  have z1 := r2.cell 1 (.int .i64 0) rfl
  have z2 := r2.cell 2 (.int .u64 0) rfl
  have z3 := r2.cell 3 (.int .u64 0) rfl
  have g0 := r2.frozen 0
  have g1 := r2.frozen 1
  have g2' := r2.frozen 2
  have g3' := r2.frozen 3
  have q1 : ¬ (S.size : Int) < 2 := by omega
  have q2 : decide ((S.size : Int) < 2) = false := by simpa using q1
  have hix0 := ixSb S 0 97 h97
  have hix0' : ∀ W, (Instr.index 9 (.string S) (.int .i64 0)).run Tryd.prog W = .ok (.int .u8 97) W := fun W => hix0 W
  clear hix0
  clear hb0 r2 hW0 c0 lb h97 hci h1c c1 c2 c3 c4 hn2 hn4
  go_enter Tryd.func5, Tryd.ntmps5
  go_upto_region 1 with fail
  rw [HW0.out]
  go_wp2_with fail
  go_loopw [6] (fun i wr => ∃ q : Nat, 1 ≤ q ∧ q ≤ S.size ∧ i = .int .i64 q ∧ Hid (∀ k e, 1 ≤ k → k < q → S.data.toList[k]? = some e → 48 ≤ e.toNat ∧ e.toNat ≤ 57) ∧ W0 = wr)
    (fun i _ => S.size - (intOf i).toNat)
  case atStart => exact ⟨1, by omega, by omega, rfl, Lib.hid fun k e h1 h2 => by omega, rfl⟩
  case round =>
    obtain ⟨q, hq1, hq, rfl, HQ, rfl⟩ := hrel
    by_cases hlt : q < S.size
    · have g1 : (q : Int) < (S.size : Int) := by omega
      obtain ⟨e, he⟩ : ∃ e, S.data.toList[q]? = some e := ⟨_, List.getElem?_eq_getElem (by rw [show S.data.toList.length = S.size from Array.length_toList]; exact hlt)⟩
      have hix := ixSb S q e he
      have HE := Lib.hid he
      clear he
      have hdig := HD.out q e hq1 HE.out
      have g2 : ¬ (e.toNat : Int) < 48 := by omega
      have g3 : decide ((e.toNat : Int) < 48) = false := by simpa using g2
      have g4 : ¬ (e.toNat : Int) > 57 := by omega
      have g5 : decide ((e.toNat : Int) > 57) = false := by simpa using g4
      · go_wp2
        exact ⟨⟨q + 1, by omega, by omega, by go_num, Lib.hid fun k e' h1 h2 h3 => by
          by_cases hk : k = q
          · subst hk
            rw [HE.out] at h3
            obtain rfl := Option.some.inj h3
            omega
          · exact HQ.out k e' h1 (by omega) h3, trivial⟩, by simp [intOf]; omega⟩
    obtain rfl : q = S.size := by omega
    have g1 : ¬ ((S.size : Nat) : Int) < (S.size : Int) := by omega
    clear hq1 hq HQ hlt
    have hix1 := ixSb S 1 c H1C.out
    have hix1' : ∀ W, (Instr.index 9 (.string S) (.int .i64 1)).run Tryd.prog W = .ok (.int .u8 c.toNat) W := fun W => hix1 W
    have p1 : (1 : Int) < (S.size : Int) := by omega
    have g2 : ¬ (S.size : Int) > 2 := by omega
    have g3 : decide ((S.size : Int) > 2) = false := by simpa using g2
    have g4 : ¬ (c.toNat : Int) > 53 := by have := HCI.out; omega
    have g5 : decide ((c.toNat : Int) > 53) = false := by simpa using g4
    have v1 : IntKind.u8.wrap ((c.toNat : Int) - 48) = (i : Int) := by rw [IntKind.wrap_u8]; have := HCI.out; omega
    have v2 : IntKind.i64.wrap (i : Int) = (i : Int) := by rw [IntKind.wrap_i64]; have := HCI.out; omega
    clear hix1
    obtain ⟨V, hV⟩ : ∃ V, W0.alloc (.cells #[.int .i64 i, .int .i64 0, .int .u64 0, .int .u64 0] 29) = V := ⟨_, rfl⟩
    have ez : W0.heap.size = w.heap.size + 1 := by rw [← HW0.out]; simp
    have hBV : Below w.heap.size w V := by rw [← hV]; exact HB0.out.alloc HB0.out.size _
    have rV : RowC V (w.heap.size + 1) #[.int .i64 i, .int .i64 0, .int .u64 0, .int .u64 0] 29 := by rw [← hV, ← ez]; exact RowC.new _ _ _ _ rfl
    have rZ : RowC V w.heap.size zC 29 := by rw [← hV]; exact R2.out.alloc _
    have EZ := Lib.hid ez
    have HVV := Lib.hid hV
    have HBV := Lib.hid hBV
    have RV := Lib.hid rV
    have RZ := Lib.hid rZ
    clear z0 z1 z2 z3 g0 g1 g2' g3' k0 ez hV hBV rV rZ
    go_upto_region 14 with fail
    rw [HVV.out, EZ.out]
    by_cases hl3 : len < 3
    · have HV : Hid (readV i (opF s1 7) o2 len (s3.toList == [61, 61]) o4 = badC 13) := Lib.hid (by unfold readV; rw [if_pos hl3])
      have n1 : (len : Int) < 3 := by omega
      have n2 : decide ((len : Int) < 3) = true := by simpa using n1
      have z0 := RZ.out.cell 0 (.int .i64 0) rfl
      have z1 := RZ.out.cell 1 (.int .i64 0) rfl
      have z2 := RZ.out.cell 2 (.int .u64 0) rfl
      have z3 := RZ.out.cell 3 (.int .u64 0) rfl
      have f0 := RZ.out.frozen 0
      have f1 := RZ.out.frozen 1
      have f2 := RZ.out.frozen 2
      have f3 := RZ.out.frozen 3
      go_wp2
      exact bodyPost_ret (results_ctt Tryd.results5 _ _ w.heap.size _ _ (0, 0) _ (.int .i64 0) (.int .i64 13) (by rfl) (by rfl) (by rfl) (show RowC _ w.heap.size #[.int .i64 0, .int .i64 0, .int .u64 0, .int .u64 0] 29 from (((RZ.out.set 0 (.int .i64 0)).set 1 (.int .i64 0)).set 2 (.int .u64 0)).set 3 (.int .u64 0)) Tryd.underlying29 (by rfl) (show _ = some 4 from infoRC)) rfl
        ⟨by rw [HV.out], (((HBV.out.setCell (Nat.le_refl _) _).setCell (Nat.le_refl _) _).setCell (Nat.le_refl _) _).setCell (Nat.le_refl _) _⟩
    have n1 : ¬ (len : Int) < 3 := by omega
    have n2 : decide ((len : Int) < 3) = false := by simpa using n1
    have i1 : (1 : Int) < (len : Int) := by omega
    have i2 : (2 : Int) < (len : Int) := by omega
    have HL := Lib.hid hl3
    have HM : Hid (RowC V w.heap.size zC 29 ∧ RowC V (w.heap.size + 1) #[.int .i64 i, .int .i64 ((opF s1 0 : Nat) : Int), .int .u64 0, .int .u64 0] 29 ∧ Below w.heap.size w V) := Lib.hid ⟨RZ.out, RV.out, HBV.out⟩
    clear RZ RV HBV HVV hix1' p1 g2 g3 g4 g5 v1 v2 hix0' q1 q2 HD H1C R2 HB0 HW0 EZ
    go_wp2_with fail
    go_loopw [8] (fun nv wr => ∃ q : Nat, q ≤ 7 ∧ nv = .int .i64 ((q : Int) + 1) ∧ Hid (RowC wr w.heap.size zC 29 ∧ RowC wr (w.heap.size + 1) #[.int .i64 i, .int .i64 ((opF s1 q : Nat) : Int), .int .u64 0, .int .u64 0] 29 ∧ Below w.heap.size w wr))
      (fun nv _ => 9 - (intOf nv).toNat)
    case atStart => exact ⟨0, by omega, rfl, HM⟩
    case round =>
      obtain ⟨q, hq, rfl, HR⟩ := hrel
      clear HM
      have lbr : Hid (b < wr.heap.size) := Lib.hid (Nat.lt_of_lt_of_le LB.out HR.out.2.2.size)
      by_cases hlt : q < 7
      · have g1 : (q : Int) + 1 ≤ 7 := by omega
        have k1 := (HR.out.2.2.cell (p := ⟨b, o + 1, none⟩) LB.out).trans (K1.out (by omega))
        have KK1 := Lib.hid k1
        have HWD := Lib.hid fun W => wordC_at q hlt W
        cases hsg : ((sgO q).toList == s1.toList)
        · have hop : ((opF s1 (q + 1) : Nat) : Int) = ((opF s1 q : Nat) : Int) := by rw [opF, if_neg (by rw [hsg]; decide)]
          have HOP := Lib.hid hop
          clear hop
          go_wp2_with fail
          first
          | (go_region_with (go_at_call 14; refine (HWD.out _).mono ?_; rintro e w6 ⟨rfl, hB6⟩
                             have kk1 := (hB6.cell (p := ⟨b, o + 1, none⟩) lbr.out).trans KK1.out))
          | fail "nineteen"
          all_goals go_wp2
          all_goals exact ⟨⟨q + 1, by omega, by go_num, Lib.hid ⟨RowC.below (w := wr.drew) HR.out.1 hB6 HR.out.1.lt, by rw [HOP.out]; exact RowC.below (w := wr.drew) HR.out.2.1 hB6 HR.out.2.1.lt, HR.out.2.2.drew.trans (hB6.mono HR.out.2.2.size)⟩⟩, by simp [intOf]; omega⟩
        · have hop : ((opF s1 (q + 1) : Nat) : Int) = (q : Int) + 1 := by rw [opF, if_pos hsg]; omega
          have HOP := Lib.hid hop
          clear hop
          go_wp2_with fail
          first
          | (go_region_with (go_at_call 14; refine (HWD.out _).mono ?_; rintro e w6 ⟨rfl, hB6⟩
                             have kk1 := (hB6.cell (p := ⟨b, o + 1, none⟩) lbr.out).trans KK1.out))
          | fail "nineteen"
          all_goals
            have r10 := RowC.below (w := wr.drew) HR.out.2.1 hB6 HR.out.2.1.lt
            have r0 := RowC.below (w := wr.drew) HR.out.1 hB6 HR.out.1.lt
            have hb6 := HR.out.2.2.drew.trans (hB6.mono HR.out.2.2.size)
            have x1 := r10.cell 1 (.int .i64 ((opF s1 q : Nat) : Int)) rfl
            have f1 := r10.frozen 1
            have hnew := r10.set 1 (.int .i64 ((q : Int) + 1))
            rw [← HOP.out] at hnew
            have HNW := Lib.hid hnew
            have H0W := Lib.hid (r0.setOther (g := w.heap.size + 1) 1 (.int .i64 ((q : Int) + 1)) (by omega))
            have HBW := Lib.hid (hb6.setCell (p := ⟨w.heap.size + 1, 1, none⟩) (Nat.le_succ _) (.int .i64 ((q : Int) + 1)))
            rw [HOP.out] at HNW
            clear hnew r10 r0 hb6
            go_wp2
            exact ⟨⟨q + 1, by omega, by go_num, Lib.hid ⟨H0W.out, by rw [HOP.out]; exact HNW.out, HBW.out⟩⟩, by simp [intOf]; omega⟩
      obtain rfl : q = 7 := by omega
      have g1 : ¬ ((7 : Nat) : Int) + 1 ≤ 7 := by omega
      have g1b : ¬ (8 : Int) ≤ 7 := by omega
      have hJ7 : opF s1 7 ≤ 7 := opF_le s1 7
      obtain ⟨J, hJ⟩ : ∃ J, opF s1 7 = J := ⟨_, rfl⟩
      rw [hJ] at hJ7
      rw [hJ] at HR
      obtain ⟨oa, ob, hab⟩ := numE_tuple o2
      have HN2' : Hid (∀ X, Calls Tryd.prog 7 #[.string s2] X fun e w' => e = .returned (.tuple #[.int .u64 oa, .bool ob]) ∧ Below X.heap.size X w') := Lib.hid fun X => by
        have := HN2.out X
        rw [hab] at this
        exact this
      have HAB := Lib.hid hab
      have HJ := Lib.hid hJ
      have k2 := (HR.out.2.2.cell (p := ⟨b, o + 2, none⟩) LB.out).trans (K2.out (by omega))
      clear hab hJ HN2 hlt hq
      go_wp2_with fail
      refine (HN2'.out _).mono ?_
      rintro e w7 ⟨rfl, hB7⟩
      have r0 := HR.out.1.below hB7 HR.out.1.lt
      have r10 := HR.out.2.1.below hB7 HR.out.2.1.lt
      have hb7 := HR.out.2.2.trans (hB7.mono HR.out.2.2.size)
      have H0 := Lib.hid r0
      have H10 := Lib.hid r10
      have H7 := Lib.hid hb7
      have x1 := r10.cell 1 (.int .i64 (J : Int)) rfl
      clear r0 r10 hb7 hB7 k2 HR lbr
      by_cases hJ0 : J = 0
      · have HV : Hid (readV i (opF s1 7) o2 len (s3.toList == [61, 61]) o4 = badC 13) := Lib.hid (by unfold readV; rw [if_neg HL.out, HJ.out, if_pos hJ0])
        have t1 : ((J : Int) == 0) = true := by rw [hJ0]; rfl
        have z0 := H0.out.cell 0 (.int .i64 0) rfl
        have z1 := H0.out.cell 1 (.int .i64 0) rfl
        have z2 := H0.out.cell 2 (.int .u64 0) rfl
        have z3 := H0.out.cell 3 (.int .u64 0) rfl
        have f0 := H0.out.frozen 0
        have f1 := H0.out.frozen 1
        have f2 := H0.out.frozen 2
        have f3 := H0.out.frozen 3
        go_wp2
        exact bodyPost_ret (results_ctt Tryd.results5 _ _ w.heap.size _ _ (0, 0) _ (.int .i64 0) (.int .i64 13) (by rfl) (by rfl) (by rfl) (show RowC _ w.heap.size #[.int .i64 0, .int .i64 0, .int .u64 0, .int .u64 0] 29 from (((H0.out.set 0 (.int .i64 0)).set 1 (.int .i64 0)).set 2 (.int .u64 0)).set 3 (.int .u64 0)) Tryd.underlying29 (by rfl) (show _ = some 4 from infoRC)) rfl
          ⟨by rw [HV.out], (((H7.out.setCell (Nat.le_refl _) _).setCell (Nat.le_refl _) _).setCell (Nat.le_refl _) _).setCell (Nat.le_refl _) _⟩
      have t1 : ((J : Int) == 0) = false := beq_eq_false_iff_ne.2 (by omega)
      cases hob : ob
      · subst hob
        have ho : o2 = none := numE_false HAB.out
        have HV : Hid (readV i (opF s1 7) o2 len (s3.toList == [61, 61]) o4 = badC 13) := Lib.hid (by unfold readV; rw [if_neg HL.out, HJ.out, if_neg hJ0, ho])
        have z0 := H0.out.cell 0 (.int .i64 0) rfl
        have z1 := H0.out.cell 1 (.int .i64 0) rfl
        have z2 := H0.out.cell 2 (.int .u64 0) rfl
        have z3 := H0.out.cell 3 (.int .u64 0) rfl
        have f0 := H0.out.frozen 0
        have f1 := H0.out.frozen 1
        have f2 := H0.out.frozen 2
        have f3 := H0.out.frozen 3
        go_wp2
        exact bodyPost_ret (results_ctt Tryd.results5 _ _ w.heap.size _ _ (0, 0) _ (.int .i64 0) (.int .i64 13) (by rfl) (by rfl) (by rfl) (show RowC _ w.heap.size #[.int .i64 0, .int .i64 0, .int .u64 0, .int .u64 0] 29 from (((H0.out.set 0 (.int .i64 0)).set 1 (.int .i64 0)).set 2 (.int .u64 0)).set 3 (.int .u64 0)) Tryd.underlying29 (by rfl) (show _ = some 4 from infoRC)) rfl
          ⟨by rw [HV.out], (((H7.out.setCell (Nat.le_refl _) _).setCell (Nat.le_refl _) _).setCell (Nat.le_refl _) _).setCell (Nat.le_refl _) _⟩
      subst hob
      have ho : o2 = some oa := numE_true HAB.out
      have HO := Lib.hid ho
      clear ho
      by_cases hJ7' : J < 7
      · have HV : Hid (readV i (opF s1 7) o2 len (s3.toList == [61, 61]) o4 = .tuple #[.agg #[.int .i64 i, .int .i64 J, .int .u64 0, .int .u64 oa], .int .i64 3, .int .i64 0]) := Lib.hid (by unfold readV; rw [if_neg HL.out, HJ.out, if_neg hJ0, HO.out]; show (if J < 7 then _ else _) = _; rw [if_pos hJ7'])
        have t2 : (J : Int) < 7 := by omega
        have t3 : decide ((J : Int) < 7) = true := by simpa using t2
        have st3 := H10.out.cell 3 (.int .u64 0) rfl
        have sf3 := H10.out.frozen 3
        have Q10 := Lib.hid (H10.out.set 3 (.int .u64 oa))
        have Q0 := Lib.hid (H0.out.setOther (g := w.heap.size + 1) 3 (.int .u64 oa) (by omega))
        have HB8 := Lib.hid (H7.out.setCell (p := ⟨w.heap.size + 1, 3, none⟩) (Nat.le_succ _) (.int .u64 oa))
        go_upto_region 26 with fail
        generalize w7.setCell ⟨w.heap.size + 1, 3, none⟩ (.int .u64 oa) = U at *
        have y0 := Q10.out.cell 0 (.int .i64 i) rfl
        have y1 := Q10.out.cell 1 (.int .i64 (J : Int)) rfl
        have y2 := Q10.out.cell 2 (.int .u64 0) rfl
        have y3 := Q10.out.cell 3 (.int .u64 oa) rfl
        have z0 := Q0.out.cell 0 (.int .i64 0) rfl
        have z1 := Q0.out.cell 1 (.int .i64 0) rfl
        have z2 := Q0.out.cell 2 (.int .u64 0) rfl
        have z3 := Q0.out.cell 3 (.int .u64 0) rfl
        have f0 := Q0.out.frozen 0
        have f1 := Q0.out.frozen 1
        have f2 := Q0.out.frozen 2
        have f3 := Q0.out.frozen 3
        go_wp2
        exact bodyPost_ret (results_ctt Tryd.results5 _ _ w.heap.size _ _ (0, 0) _ (.int .i64 3) (.int .i64 0) (by rfl) (by rfl) (by rfl) (show RowC _ w.heap.size #[.int .i64 i, .int .i64 J, .int .u64 0, .int .u64 oa] 29 from (((Q0.out.set 0 (.int .i64 i)).set 1 (.int .i64 J)).set 2 (.int .u64 0)).set 3 (.int .u64 oa)) Tryd.underlying29 (by rfl) (show _ = some 4 from infoRC)) rfl
          ⟨by rw [HV.out], (((HB8.out.setCell (Nat.le_refl _) _).setCell (Nat.le_refl _) _).setCell (Nat.le_refl _) _).setCell (Nat.le_refl _) _⟩
      have t2 : ¬ (J : Int) < 7 := by omega
      have t3 : decide ((J : Int) < 7) = false := by simpa using t2
      by_cases hl5 : len < 5
      · have HV : Hid (readV i (opF s1 7) o2 len (s3.toList == [61, 61]) o4 = badC 13) := Lib.hid (by unfold readV; rw [if_neg HL.out, HJ.out, if_neg hJ0, HO.out]; show (if J < 7 then _ else _) = _; rw [if_neg hJ7', if_pos hl5])
        have t4 : (len : Int) < 5 := by omega
        have t5 : decide ((len : Int) < 5) = true := by simpa using t4
        have z0 := H0.out.cell 0 (.int .i64 0) rfl
        have z1 := H0.out.cell 1 (.int .i64 0) rfl
        have z2 := H0.out.cell 2 (.int .u64 0) rfl
        have z3 := H0.out.cell 3 (.int .u64 0) rfl
        have f0 := H0.out.frozen 0
        have f1 := H0.out.frozen 1
        have f2 := H0.out.frozen 2
        have f3 := H0.out.frozen 3
        go_wp2
        exact bodyPost_ret (results_ctt Tryd.results5 _ _ w.heap.size _ _ (0, 0) _ (.int .i64 0) (.int .i64 13) (by rfl) (by rfl) (by rfl) (show RowC _ w.heap.size #[.int .i64 0, .int .i64 0, .int .u64 0, .int .u64 0] 29 from (((H0.out.set 0 (.int .i64 0)).set 1 (.int .i64 0)).set 2 (.int .u64 0)).set 3 (.int .u64 0)) Tryd.underlying29 (by rfl) (show _ = some 4 from infoRC)) rfl
          ⟨by rw [HV.out], (((H7.out.setCell (Nat.le_refl _) _).setCell (Nat.le_refl _) _).setCell (Nat.le_refl _) _).setCell (Nat.le_refl _) _⟩
      have t4 : ¬ (len : Int) < 5 := by omega
      have t5 : decide ((len : Int) < 5) = false := by simpa using t4
      have i3 : (3 : Int) < (len : Int) := by omega
      have i4 : (4 : Int) < (len : Int) := by omega
      have k3 := (H7.out.cell (p := ⟨b, o + 3, none⟩) LB.out).trans (K3.out (by omega))
      have k4 := (H7.out.cell (p := ⟨b, o + 4, none⟩) LB.out).trans (K4.out (by omega))
      cases h61 : (s3.toList == [61, 61])
      · have HV : Hid (readV i (opF s1 7) o2 len (s3.toList == [61, 61]) o4 = badC 13) := Lib.hid (by unfold readV; rw [if_neg HL.out, HJ.out, if_neg hJ0, HO.out]; show (if J < 7 then _ else _) = _; rw [if_neg hJ7', if_neg hl5, if_pos h61])
        have u1 : (s3.toList != [61, 61]) = true := by rw [bne, h61]; rfl
        have u2 : (s3.data.toList != [61, 61]) = true := by rw [← Lib.toList_data]; exact u1
        have z0 := H0.out.cell 0 (.int .i64 0) rfl
        have z1 := H0.out.cell 1 (.int .i64 0) rfl
        have z2 := H0.out.cell 2 (.int .u64 0) rfl
        have z3 := H0.out.cell 3 (.int .u64 0) rfl
        have f0 := H0.out.frozen 0
        have f1 := H0.out.frozen 1
        have f2 := H0.out.frozen 2
        have f3 := H0.out.frozen 3
        go_wp2
        exact bodyPost_ret (results_ctt Tryd.results5 _ _ w.heap.size _ _ (0, 0) _ (.int .i64 0) (.int .i64 13) (by rfl) (by rfl) (by rfl) (show RowC _ w.heap.size #[.int .i64 0, .int .i64 0, .int .u64 0, .int .u64 0] 29 from (((H0.out.set 0 (.int .i64 0)).set 1 (.int .i64 0)).set 2 (.int .u64 0)).set 3 (.int .u64 0)) Tryd.underlying29 (by rfl) (show _ = some 4 from infoRC)) rfl
          ⟨by rw [HV.out], (((H7.out.setCell (Nat.le_refl _) _).setCell (Nat.le_refl _) _).setCell (Nat.le_refl _) _).setCell (Nat.le_refl _) _⟩
      have u1 : (s3.toList != [61, 61]) = false := by rw [bne, h61]; rfl
      have u2 : (s3.data.toList != [61, 61]) = false := by rw [← Lib.toList_data]; exact u1
      cases o4 with
      | none =>
        have HV : Hid (readV i (opF s1 7) o2 len (s3.toList == [61, 61]) none = badC 13) := Lib.hid (by unfold readV; rw [if_neg HL.out, HJ.out, if_neg hJ0, HO.out]; show (if J < 7 then _ else _) = _; rw [if_neg hJ7', if_neg hl5, if_neg (by rw [h61]; decide)])
        have HN4' : Hid (∀ X, Calls Tryd.prog 7 #[.string s4] X fun e w' => e = .returned (.tuple #[.int .u64 0, .bool false]) ∧ Below X.heap.size X w') := HN4
        go_wp2_with fail
        refine (HN4'.out _).mono ?_
        rintro e w8 ⟨rfl, hB8⟩
        have r0 := H0.out.below hB8 H0.out.lt
        have HB8 := Lib.hid (H7.out.trans (hB8.mono H7.out.size))
        have Q0 := Lib.hid r0
        have z0 := r0.cell 0 (.int .i64 0) rfl
        have z1 := r0.cell 1 (.int .i64 0) rfl
        have z2 := r0.cell 2 (.int .u64 0) rfl
        have z3 := r0.cell 3 (.int .u64 0) rfl
        have f0 := r0.frozen 0
        have f1 := r0.frozen 1
        have f2 := r0.frozen 2
        have f3 := r0.frozen 3
        clear r0 hB8 k3 k4 x1
        go_wp2
        exact bodyPost_ret (results_ctt Tryd.results5 _ _ w.heap.size _ _ (0, 0) _ (.int .i64 0) (.int .i64 13) (by rfl) (by rfl) (by rfl) (show RowC _ w.heap.size #[.int .i64 0, .int .i64 0, .int .u64 0, .int .u64 0] 29 from (((Q0.out.set 0 (.int .i64 0)).set 1 (.int .i64 0)).set 2 (.int .u64 0)).set 3 (.int .u64 0)) Tryd.underlying29 (by rfl) (show _ = some 4 from infoRC)) rfl
          ⟨by rw [HV.out], (((HB8.out.setCell (Nat.le_refl _) _).setCell (Nat.le_refl _) _).setCell (Nat.le_refl _) _).setCell (Nat.le_refl _) _⟩
      | some x =>
        have HV : Hid (readV i (opF s1 7) o2 len (s3.toList == [61, 61]) (some x) = .tuple #[.agg #[.int .i64 i, .int .i64 7, .int .u64 oa, .int .u64 x], .int .i64 5, .int .i64 0]) := Lib.hid (by unfold readV; rw [if_neg HL.out, HJ.out, if_neg hJ0, HO.out]; show (if J < 7 then _ else _) = _; rw [if_neg hJ7', if_neg hl5, if_neg (by rw [h61]; decide)])
        have HN4' : Hid (∀ X, Calls Tryd.prog 7 #[.string s4] X fun e w' => e = .returned (.tuple #[.int .u64 x, .bool true]) ∧ Below X.heap.size X w') := HN4
        obtain rfl : J = 7 := by omega
        go_wp2_with fail
        refine (HN4'.out _).mono ?_
        rintro e w8 ⟨rfl, hB8⟩
        have r0 := H0.out.below hB8 H0.out.lt
        have r10 := H10.out.below hB8 H10.out.lt
        have hb8 := H7.out.trans (hB8.mono H7.out.size)
        have st2 := r10.cell 2 (.int .u64 0) rfl
        have sf2 := r10.frozen 2
        have st3 := r10.cell 3 (.int .u64 0) rfl
        have sf3 := r10.frozen 3
        have Q10 := Lib.hid ((r10.set 2 (.int .u64 oa)).set 3 (.int .u64 x))
        have Q0 := Lib.hid ((r0.setOther (g := w.heap.size + 1) 2 (.int .u64 oa) (by omega)).setOther (g := w.heap.size + 1) 3 (.int .u64 x) (by omega))
        have HB8 := Lib.hid ((hb8.setCell (p := ⟨w.heap.size + 1, 2, none⟩) (Nat.le_succ _) (.int .u64 oa)).setCell (p := ⟨w.heap.size + 1, 3, none⟩) (Nat.le_succ _) (.int .u64 x))
        clear r0 r10 hb8 hB8 k3 k4 x1
        go_upto_region 33 with fail
        generalize (w8.setCell ⟨w.heap.size + 1, 2, none⟩ (.int .u64 oa)).setCell ⟨w.heap.size + 1, 3, none⟩ (.int .u64 x) = U at *
        have y0 := Q10.out.cell 0 (.int .i64 i) rfl
        have y1 := Q10.out.cell 1 (.int .i64 ((7 : Nat) : Int)) rfl
        have y2 := Q10.out.cell 2 (.int .u64 oa) rfl
        have y3 := Q10.out.cell 3 (.int .u64 x) rfl
        have z0 := Q0.out.cell 0 (.int .i64 0) rfl
        have z1 := Q0.out.cell 1 (.int .i64 0) rfl
        have z2 := Q0.out.cell 2 (.int .u64 0) rfl
        have z3 := Q0.out.cell 3 (.int .u64 0) rfl
        have f0 := Q0.out.frozen 0
        have f1 := Q0.out.frozen 1
        have f2 := Q0.out.frozen 2
        have f3 := Q0.out.frozen 3
        go_wp2
        exact bodyPost_ret (results_ctt Tryd.results5 _ _ w.heap.size _ _ (0, 0) _ (.int .i64 5) (.int .i64 0) (by rfl) (by rfl) (by rfl) (show RowC _ w.heap.size #[.int .i64 i, .int .i64 7, .int .u64 oa, .int .u64 x] 29 from (((Q0.out.set 0 (.int .i64 i)).set 1 (.int .i64 7)).set 2 (.int .u64 oa)).set 3 (.int .u64 x)) Tryd.underlying29 (by rfl) (show _ = some 4 from infoRC)) rfl
          ⟨by rw [HV.out], (((HB8.out.setCell (Nat.le_refl _) _).setCell (Nat.le_refl _) _).setCell (Nat.le_refl _) _).setCell (Nat.le_refl _) _⟩

end Go.Proofs.YtlajmdfebnicnaaDoor
