/-
  The law CondBack holds for every input: what is told is read as it was, whatever stands behind it. No condition.
-/
import Derived.Test.YtplnaejbfanioaaDoorRows
import Derived.Test.YtplnaejbfanioaaDoorCards
import Derived.Test.YtplnaejbfanioaaDoorTie
import Derived.Test.YtplnaejbfanioaaDoorGk
import Derived.Test.YtplnaejbfanioaaDoorGl
import Derived.Test.YtplnaejbfanioaaDoorGn
import Derived.Test.YtplnaejbfanioaaDoorMem
import Derived.WalkKit
import Derived.ProofKit
import Derived.OpenShut
import Derived.ShutString
import Derived.ChangeOld
import Derived.Below
import Derived.Lib.SmallJoins
import Derived.SevenTiedAt
import Derived.LaidMore
import Derived.Stop.Joined
import Derived.Deep.Cut
import Derived.RegionTactic
import Derived.Deep.RegionHeld3
import Derived.Deep.CutRange
namespace Go.Proofs.YtplnaejbfanioaaDoor
open Go.RowKit Go.Shelf
set_option linter.unusedVariables false

theorem infoS : (Tryd.prog.info? 9).map (fun i => (i.zero, i.size, i.bytes)) = some (some (.string ⟨#[]⟩), 1, 16) := by kernel_rfl
def wd (L : List (List UInt8)) (n : Nat) : List UInt8 := L.getD n []
abbrev strW (L : List (List UInt8)) (n : Nat) : Value := .string ⟨(wd L n).toArray⟩
theorem wd_eq {L : List (List UInt8)} {n : Nat} (h : n < L.length) : wd L n = L[n] := by simp [wd, List.getD, List.getElem?_eq_getElem h]
theorem one_str (w : World) (s : ByteArray) (E : TypeId) : Cel (w.alloc (.cells #[.string s] E)) (w.heap.size + 1) 1 (some ⟨w.heap.size, 0, none⟩) 1 1 (fun _ => .string s) :=
  Cel.mk_ (by omega) (by decide) (by decide) (fun i hi => by
    obtain rfl : i = 0 := by omega
    exact (RowC.new w #[.string s] E _ rfl).cell 0 _ rfl)
theorem strW_cat (L : List (List UInt8)) (n : Nat) (s : ByteArray) (hs : s = ⟨(wd L n).toArray⟩) : ∀ i, i < (n + 1) * 1 → catC (n * 1) (strW L) (fun _ => .string s) i = strW L i := by
  intro i hi
  unfold catC
  split
  · rfl
  · obtain rfl : i = n := by omega
    rw [hs]
theorem cat_last (L : List (List UInt8)) (n : Nat) (s : ByteArray) : ∀ i, i < (n + 1) * 1 → catC (n * 1) (strW L) (fun _ => .string s) i = (if i < n then strW L i else .string s) := by
  intro i hi
  unfold catC
  rw [Nat.mul_one]
theorem own_at {w : World} {base n c : Nat} {E : TypeId} {A : Option Addr} {F : Nat → Value} (h : OwnC w base E 1 A n c F) (hn : 0 < n) : ∃ b, A = some ⟨b, 0, none⟩ ∧ base ≤ b ∧ b < w.heap.size ∧ ∀ i, i < n → w.cell? ⟨b, i, none⟩ = some (F i) := by
  have hown := h
  obtain ⟨gg, cap, hv, hg, hl⟩ := World.ownsRow.form hown hn
  injection hv with e1 e2 e3
  subst e1 e3
  refine ⟨gg, rfl, hg, hl, fun i hi => ?_⟩
  have hc := World.ownsRow.cells hown rfl i (F i) (by simp [hi])
  rw [Lib.add_plain, Nat.zero_add] at hc
  exact hc
theorem ixS (S : ByteArray) (p : Nat) (b : UInt8) (h : S.data.toList[p]? = some b) (W : World) : (Instr.index 9 (.string S) (.int .i64 p)).run Tryd.prog W = .ok (.int .u8 b.toNat) W := by
  have hp : p < S.size := by
    have := (List.getElem?_eq_some_iff.1 h).1
    simpa using this
  have hb : S[p] = b := by
    have := (List.getElem?_eq_some_iff.1 h).2
    show S.data[p] = b
    simpa using this
  have h1 : (0 ≤ (p : Int) ∧ (p : Int) < S.size) := by omega
  simp [Instr.index, run_underlying Tryd.underlying9, asIntOf, h1, hp, hb, go_sem]
theorem piece (l : List UInt8) (x k : Nat) : (ByteArray.mk l.toArray).extract x (x + k) = ⟨((l.drop x).take k).toArray⟩ := by
  apply ByteArray.ext
  rw [ByteArray.data_extract]
  apply Array.toList_inj.1
  simp
set_option maxRecDepth 100000 in
set_option maxHeartbeats 4000000 in
theorem of10_any (a o : Int) (m v : Nat) (w : World) :
    Calls Tryd.prog 15 #[.agg (condA a o m v)] w fun e w' => e = .returned (.agg #[.int .i64 a, .int .i64 o, .int .u64 m, .int .u64 v]) ∧ Below w.heap.size w w' := by
  have hb : Below w.heap.size w ((w.alloc (.cells (condA a o m v) 29)).alloc (.cells (condA a o m v) 25)) := ((Below.refl _ _).alloc (Nat.le_refl _) _).alloc (by simp) _
  have r1 : RowC ((w.alloc (.cells (condA a o m v) 29)).alloc (.cells (condA a o m v) 25)) (w.heap.size + 1) (condA a o m v) 25 := RowC.new _ _ _ _ (by simp)
  have HB := Lib.hid hb
  have R1 := Lib.hid r1
  clear hb r1
  go_enter Tryd.func15, Tryd.ntmps15
  go_wp2
  exact bodyPost_ret (results_cell_row Tryd.results15 _ _ (w.heap.size + 1) _ (condA a o m v) (0, 0) _ (by rfl) R1.out Tryd.underlying25 (by rfl) (by kernel_rfl)) rfl ⟨rfl, HB.out⟩

set_option maxRecDepth 100000 in
set_option maxHeartbeats 8000000 in
/-- The walk at a right condition, its text's words being known. -/
theorem back_right {w0 : World} (a o : Int) (m v : Nat) (s : ByteArray) (hs : s.size ≤ 30) (ht : TabP w0) (L : List (List UInt8)) (N : Nat) (hN : L.length = N) (hN0 : 0 < N) (hN5 : N ≤ 5)
    (hsz : (joinW L).length ≤ 60) (h32 : ∀ (n : Nat), n < N → ∀ (q : Nat) (b : UInt8), (wd L n)[q]? = some b → b ≠ 32)
    (hR : ∀ X, Calls Tryd.prog 18 #[.agg (condA a o m v)] X fun e w' => e = .returned (.bool true) ∧ Below X.heap.size X w')
    (hT : ∀ X, TabP X → Calls Tryd.prog 19 #[.agg (condA a o m v)] X fun e w' => e = .returned (.string ⟨(joinW L).toArray⟩) ∧ Below X.heap.size X w')
    (hRd : ∀ X b c', TabP X → (∀ q, q < N → X.cell? ⟨b, q, none⟩ = some (strW L q)) → Calls Tryd.prog 11 #[.slice (some ⟨b, 0, none⟩) (N + 1) c'] X fun e w' => e = .returned (.tuple #[.agg (condA a o m v), .int .i64 N, .int .i64 0]) ∧ Below X.heap.size X w') :
    Calls Tryd.prog 5 #[.agg (condA a o m v), .string s] w0 fun e w' => e = .returned (.bool true) ∧ Below w0.heap.size w0 w' := by
  have hoffN : offW L N = (joinW L).length + 1 := by rw [← hN]; exact offW_all L (by rintro rfl; simp at hN; omega)
  have hoffS : ∀ n, n < N → offW L (n + 1) = offW L n + (wd L n).length + 1 := fun n hn => by rw [wd_eq (by omega)]; exact offW_succ L n (by omega)
  have hpc : ∀ n, n < N → (ByteArray.mk (joinW L).toArray).extract (offW L n) (offW L n + (wd L n).length) = ⟨(wd L n).toArray⟩ := fun n hn => by rw [piece, wd_eq (by omega), joinW_word (by omega)]
  have hget : ∀ n, n < N → ∀ q, q < (wd L n).length → ∃ b, (ByteArray.mk (joinW L).toArray).data.toList[offW L n + q]? = some b ∧ b ≠ 32 := fun n hn q hq => by
    have e := wd_eq (L := L) (n := n) (by omega)
    have hq' : q < L[n].length := by rw [← e]; exact hq
    exact ⟨_, joinW_get (by omega) q hq', h32 n hn q _ (by rw [e]; exact List.getElem?_eq_getElem hq')⟩
  have hbl : ∀ n, n + 1 < N → (ByteArray.mk (joinW L).toArray).data.toList[offW L n + (wd L n).length]? = some 32 := fun n hn => by rw [wd_eq (by omega)]; exact joinW_blank (by omega)
  have hmono : ∀ n, n ≤ N → offW L n ≤ (joinW L).length + 1 := fun n hn => by
    have : ∀ d, ∀ n, n + d = N → offW L n ≤ (joinW L).length + 1 := by
      intro d
      induction d with
      | zero => intro n h; rw [show n = N by omega, hoffN]; omega
      | succ d ih => intro n h; have h1 := ih (n + 1) (by omega); rw [hoffS n (by omega)] at h1; omega
    exact this (N - n) n (by omega)
  have hoff0 : offW L 0 = 0 := by cases L <;> rfl
  have hw : ∀ n, n < N → offW L n + (wd L n).length ≤ (joinW L).length := fun n hn => by have := hmono (n + 1) (by omega); rw [hoffS n hn] at this; omega
  obtain ⟨S, hS⟩ : ∃ S : ByteArray, ⟨(joinW L).toArray⟩ = S := ⟨_, rfl⟩
  have hSs : S.size = (joinW L).length := by rw [← hS]; simp [ByteArray.size]
  rw [hS] at hpc hT
  have hget' : ∀ n, n < N → ∀ q, q < (wd L n).length → ∃ b, S.data.toList[offW L n + q]? = some b ∧ b ≠ 32 := by rw [← hS]; exact hget
  have hbl' : ∀ n, n + 1 < N → S.data.toList[offW L n + (wd L n).length]? = some 32 := by rw [← hS]; exact hbl
  rw [← hSs] at hoffN hsz hw hmono
  clear hget hbl h32 hS hSs
  obtain ⟨W0, hW0⟩ : ∃ W, w0.alloc (.cells (condA a o m v) 29) = W := ⟨_, rfl⟩
  have r0 : RowC W0 w0.heap.size (condA a o m v) 29 := by rw [← hW0]; exact RowC.new _ _ _ _ rfl
  have hb0 : Below w0.heap.size w0 W0 := by rw [← hW0]; exact (Below.refl _ _).alloc (Nat.le_refl _) _
  have R0 := Lib.hid r0
  have HB0 := Lib.hid hb0
  have HT := Lib.hid ht
  have HW0 := Lib.hid hW0
  have HO := Lib.hid fun X => of10_any a o m v X
  have HR := Lib.hid hR
  have HTX := Lib.hid hT
  have HRD := Lib.hid hRd
  have HP := Lib.hid (And.intro hpc (And.intro hget' hbl'))
  have HQ := Lib.hid (And.intro hoffN (And.intro hoffS (And.intro hoff0 (And.intro hw hmono))))
  have HS := Lib.hid hsz
  have q0 : ¬ (s.size : Int) > 30 := by omega
  have q1 : decide ((s.size : Int) > 30) = false := by simpa using q0
  clear hR hT hRd hpc hget' hbl' hoffN hoffS hoff0 hw hmono ht hW0 hb0 r0 hsz
  go_enter Tryd.func5, Tryd.ntmps5
  go_upto_region 1 with fail
  rw [HW0.out]
  have k0 := R0.out.cell 0 (.int .i64 a) rfl
  have k1 := R0.out.cell 1 (.int .i64 o) rfl
  have k2 := R0.out.cell 2 (.int .u64 m) rfl
  have k3 := R0.out.cell 3 (.int .u64 v) rfl
  go_wp2_with fail
  refine (HO.out _).mono ?_
  rintro e w1 ⟨rfl, hB1⟩
  go_wp2_with fail
  refine (HR.out _).mono ?_
  rintro e w2 ⟨rfl, hB2⟩
  have h12 : Below W0.heap.size W0 w2 := hB1.trans (hB2.mono hB1.size)
  have r2 := R0.out.below h12 R0.out.lt
  have b2 := Lib.hid (HB0.out.trans (h12.mono HB0.out.size))
  clear k0 k1 k2 k3 hB1 hB2 h12
  have k0 := r2.cell 0 (.int .i64 a) rfl
  have k1 := r2.cell 1 (.int .i64 o) rfl
  have k2 := r2.cell 2 (.int .u64 m) rfl
  have k3 := r2.cell 3 (.int .u64 v) rfl
  go_wp2_with fail
  refine (HO.out _).mono ?_
  rintro e w3 ⟨rfl, hB3⟩
  have b3 := Lib.hid (b2.out.trans (hB3.mono b2.out.size))
  have HX3 := Lib.hid (HTX.out w3 (tab_on HT.out b3.out (Nat.le_refl _)))
  go_wp2_with fail
  refine HX3.out.mono ?_
  rintro e w4 ⟨rfl, hB4⟩
  have h34 : Below w2.heap.size w2 w4 := hB3.trans (hB4.mono hB3.size)
  have r4 := r2.below h34 r2.lt
  have b4 := Lib.hid (b2.out.trans (h34.mono b2.out.size))
  have s4 : Hid (w0.heap.size < w4.heap.size) := Lib.hid r4.lt
  have R4 := Lib.hid r4
  clear hB3 hB4 k0 k1 k2 k3 r2 h34 r4 HX3
  go_wp2_with fail
  go_loopw [5, 7, 8] (fun ws at_ i wr => ∃ (n p : Nat) (A' : Option Addr) (c' : Nat), n ≤ N ∧ i = .int .i64 p ∧ ws = .slice A' n c' ∧ at_ = .int .i64 (offW L n) ∧ offW L n ≤ p ∧ (n < N → p ≤ offW L n + (wd L n).length) ∧ (n = N → p = offW L n) ∧ OwnC wr w4.heap.size 9 1 A' n c' (strW L) ∧ Below w4.heap.size w4 wr)
    (fun _ _ i _ => S.size + 1 - (intOf i).toNat)
  case atStart => exact ⟨0, 0, none, 0, by omega, rfl, rfl, by rw [HQ.out.2.2.1]; rfl, by rw [HQ.out.2.2.1]; omega, fun _ => by omega, fun h => by omega, OwnC.nil_, Below.refl _ _⟩
  case round =>
    obtain ⟨n, p, A', c', hn, rfl, rfl, rfl, hp0, hp1, hp2, hown, hB⟩ := hrel
    have HOW := Lib.hid hown
    have HBW := Lib.hid hB
    have hsz := HS.out
    have hsB := hB.size
    clear hown hB
    by_cases hlt : n < N
    · have hp1 := hp1 hlt
      have hws := HQ.out.2.2.2.1 n hlt
      have g1 : (p : Int) ≤ (S.size : Int) := by omega
      have g2 : decide ((p : Int) ≤ (S.size : Int)) = true := by simpa using g1
      have i0 : (0 : Int) ≤ (p : Int) := by omega
      clear hp2
      by_cases hend : p = offW L n + (wd L n).length
      · have HPC := Lib.hid (HP.out.1 n hlt)
        have hsc := HQ.out.2.1 n hlt
        obtain ⟨O, hO⟩ : ∃ O, offW L n = O := ⟨_, rfl⟩
        have HOO := Lib.hid hO
        rw [hO] at hp0 hend hws hsc ⊢
        have hpc := HPC.out
        rw [hO, ← hend] at hpc
        have o0 : (0 : Int) ≤ (O : Int) := by omega
        have o1 : (O : Int) ≤ (p : Int) := by omega
        have HSC := Lib.hid hsc
        have HEN := Lib.hid hend
        clear hO hend hws hsc
        have hfin : ∀ (A2 : Option Addr) (c2 : Nat) (w' : World), OwnC w' w4.heap.size 9 1 A2 (n + 1) c2 (strW L) → Below w4.heap.size w4 w' → ∃ (n' p' : Nat) (A' : Option Addr) (c' : Nat), n' ≤ N ∧ (Value.int .i64 ((p : Int) + 1)) = .int .i64 p' ∧ (Value.slice A2 (n + 1) c2) = .slice A' n' c' ∧ (Value.int .i64 ((p : Int) + 1)) = .int .i64 (offW L n') ∧ offW L n' ≤ p' ∧ (n' < N → p' ≤ offW L n' + (wd L n').length) ∧ (n' = N → p' = offW L n') ∧ OwnC w' w4.heap.size 9 1 A' n' c' (strW L) ∧ Below w4.heap.size w4 w' := by
          intro A2 c2 w' h1 h2
          have e1 : offW L (n + 1) = p + 1 := by rw [HSC.out, HEN.out]
          refine ⟨n + 1, p + 1, A2, c2, by omega, by go_num, rfl, ?_, by omega, fun _ => by omega, fun _ => e1.symm, h1, h2⟩
          rw [e1]
          go_num
        have HFIN := Lib.hid hfin
        clear hfin
        by_cases hlast : n + 1 < N
        · have hbl := HP.out.2.2 n hlast
          rw [HOO.out, ← HEN.out] at hbl
          have hix := ixS S p 32 hbl
          have g3 : (p : Int) < (S.size : Int) := by
            have := (List.getElem?_eq_some_iff.1 hbl).1
            have h2 : S.data.toList.length = S.size := Array.length_toList
            omega
          have g4 : ((p : Int) == (S.size : Int)) = false := by simp; omega
          have HIX := Lib.hid hbl
          clear hbl
          go_upto_region 9 with fail
          go_wp2_with (at_builtin; go_must (refine app_cells _ rfl _ _ _ 9 rfl Tryd.underlying22 infoS rfl (by decide) rfl (HOW.out.alloc _) rfl (one_str wr _ 9) (fun i _ => rfl) (by unfold maxLen; omega) (by omega) (by simp; omega) (n + 1) rfl (strW L) (strW_cat L n _ (by first | rfl | exact hpc)) ?_; rintro A2 c2 w5 ho2 hb5))
          exact ⟨HFIN.out A2 c2 _ ho2 ((HBW.out.alloc hsB _).trans hb5), by simp [intOf]; omega⟩
        · have hlen : p = S.size := by
            have h1 := HSC.out
            rw [show n + 1 = N by omega, HQ.out.1] at h1
            have := HEN.out
            omega
          have g4 : ((p : Int) == (S.size : Int)) = true := by simp; omega
          have HLEN := Lib.hid hlen
          clear hlen
          go_upto_region 9 with fail
          go_wp2_with (at_builtin; go_must (refine app_cells _ rfl _ _ _ 9 rfl Tryd.underlying22 infoS rfl (by decide) rfl (HOW.out.alloc _) rfl (one_str wr _ 9) (fun i _ => rfl) (by unfold maxLen; omega) (by omega) (by simp; omega) (n + 1) rfl (strW L) (strW_cat L n _ (by first | rfl | exact hpc)) ?_; rintro A2 c2 w5 ho2 hb5))
          exact ⟨HFIN.out A2 c2 _ ho2 ((HBW.out.alloc hsB _).trans hb5), by simp [intOf]; omega⟩
      · obtain ⟨b, hb, hne⟩ := HP.out.2.1 n hlt (p - offW L n) (by omega)
        rw [show offW L n + (p - offW L n) = p by omega] at hb
        have hix := ixS S p b hb
        have g3 : (p : Int) < (S.size : Int) := by omega
        have g4 : ((p : Int) == (S.size : Int)) = false := by simp; omega
        have g5 : ((b.toNat : Int) == 32) = false := by
          rw [show ((b.toNat : Int) == 32) = (b == 32) by rw [Bool.eq_iff_iff]; simp [← UInt8.toNat_inj]; omega]
          simpa using hne
        clear hb hne
        go_wp2
        exact ⟨⟨n, p + 1, A', c', hn, by go_num, rfl, rfl, by omega, fun _ => by omega, fun h => by omega, HOW.out, HBW.out⟩, by simp [intOf]; omega⟩
    · obtain rfl : n = N := by omega
      have hpe := hp2 rfl
      rw [HQ.out.1] at hpe
      have g1 : ¬ (p : Int) ≤ (S.size : Int) := by omega
      have g2 : decide ((p : Int) ≤ (S.size : Int)) = false := by simpa using g1
      clear hp0 hp1 hp2
      go_upto_region 11 with fail
      go_wp2_with (at_builtin; go_must (refine app_cells _ rfl _ _ _ 9 rfl Tryd.underlying22 infoS rfl (by decide) rfl (HOW.out.alloc _) rfl (one_str wr _ 9) (fun i _ => rfl) (by unfold maxLen; omega) (by omega) (by simp; omega) (n + 1) rfl (fun i => if i < n then strW L i else .string s) (cat_last L n s) ?_; rintro A2 c2 w5 ho2 hb5))
      have hB5 : Below w4.heap.size w4 w5 := (HBW.out.alloc hsB _).trans hb5
      obtain ⟨bb, rfl, hbb, hbl, hcl⟩ := own_at ho2 (by omega)
      have b5 := Lib.hid (b4.out.trans (hB5.mono b4.out.size))
      have HR5 := Lib.hid (HRD.out w5 bb c2 (tab_on HT.out b5.out (Nat.le_refl _)) (fun q hq => by rw [hcl q (by omega), if_pos hq]))
      refine HR5.out.mono ?_
      rintro e w6 ⟨rfl, hB6⟩
      have hs4 := s4.out
      have hs5 := hB5.size
      have hs6 := hB6.size
      obtain ⟨U, hU⟩ : ∃ U, w6.alloc (.cells #[.int .i64 a, .int .i64 o, .int .u64 m, .int .u64 v] 25) = U := ⟨_, rfl⟩
      have ru : RowC U w6.heap.size #[.int .i64 a, .int .i64 o, .int .u64 m, .int .u64 v] 25 := by rw [← hU]; exact RowC.new _ _ _ _ rfl
      have h46 : Below w4.heap.size w4 U := by rw [← hU]; exact (hB5.trans (hB6.mono hs5)).alloc (by omega) _
      have r4 := R4.out.below h46 R4.out.lt
      have bU := Lib.hid (b4.out.trans (h46.mono b4.out.size))
      have HU := Lib.hid hU
      have RU := Lib.hid ru
      clear hU h46 hB6 hB5 hcl ho2 hb5
      go_upto_region 12 with fail
      rw [HU.out]
      have R4U := Lib.hid r4
      have hS : Hid (∀ W, Below U.heap.size U W → W.cell? ⟨w0.heap.size, 0, none⟩ = some (.int .i64 a) ∧ W.cell? ⟨w0.heap.size, 1, none⟩ = some (.int .i64 o) ∧ W.cell? ⟨w0.heap.size, 2, none⟩ = some (.int .u64 m) ∧ W.cell? ⟨w0.heap.size, 3, none⟩ = some (.int .u64 v) ∧ W.cell? ⟨w6.heap.size, 0, none⟩ = some (.int .i64 a) ∧ W.cell? ⟨w6.heap.size, 1, none⟩ = some (.int .i64 o) ∧ W.cell? ⟨w6.heap.size, 2, none⟩ = some (.int .u64 m) ∧ W.cell? ⟨w6.heap.size, 3, none⟩ = some (.int .u64 v)) := Lib.hid fun W hW => ⟨(R4U.out.below hW R4U.out.lt).cell 0 _ rfl, (R4U.out.below hW R4U.out.lt).cell 1 _ rfl, (R4U.out.below hW R4U.out.lt).cell 2 _ rfl, (R4U.out.below hW R4U.out.lt).cell 3 _ rfl, (RU.out.below hW RU.out.lt).cell 0 _ rfl, (RU.out.below hW RU.out.lt).cell 1 _ rfl, (RU.out.below hW RU.out.lt).cell 2 _ rfl, (RU.out.below hW RU.out.lt).cell 3 _ rfl⟩
      have hk0 : Below U.heap.size U U.drew := (Below.refl _ U).drew
      have HAW : Hid (∀ W, Below U.heap.size U W → Calls Tryd.prog 16 #[] W fun e w' => e = .returned (.bool true) ∧ Below W.heap.size W w') := Lib.hid fun W hW => awake10_any W (tab_on HT.out (bU.out.trans (hW.mono bU.out.size)) (Nat.le_refl _))
      clear r4 ru hs4 hs5 hs6 R4U RU HU HT HQ HP HS HBW HOW HR5 HRD HTX HR HB0 HW0 R0 R4 g1 g2 hpe hsz hlt q0 q1 hs hN5 hN0 hN hn hsB hbb hbl
      generalize w6.heap.size = X at *
      go_region_held3 (fun w' => w'.cell? ⟨w0.heap.size, 0, none⟩ = some (.int .i64 a) ∧ w'.cell? ⟨w0.heap.size, 1, none⟩ = some (.int .i64 o) ∧ w'.cell? ⟨w0.heap.size, 2, none⟩ = some (.int .u64 m) ∧ w'.cell? ⟨w0.heap.size, 3, none⟩ = some (.int .u64 v) ∧ w'.cell? ⟨X, 0, none⟩ = some (.int .i64 a) ∧ w'.cell? ⟨X, 1, none⟩ = some (.int .i64 o) ∧ w'.cell? ⟨X, 2, none⟩ = some (.int .u64 m) ∧ w'.cell? ⟨X, 3, none⟩ = some (.int .u64 v))
        (first | exact hS.out _ hk2 | exact hS.out _ hk1 | exact hS.out _ hk0 | assumption | go_keep)
        (first
          | (go_at_call 15
             (with_reducible refine (HO.out _).mono ?_)
             rintro e w7 ⟨rfl, hB7⟩
             have hk1 := hk0.trans (hB7.mono hk0.size))
          | (go_at_call 16
             (with_reducible refine (HAW.out _ hk1).mono ?_)
             rintro e w8 ⟨rfl, hB8⟩
             have hk2 := hk1.trans (hB8.mono hk1.size)))
      all_goals go_wp2
      all_goals go_ret
      all_goals exact ⟨rfl, bU.out.trans (hk2.mono bU.out.size)⟩


set_option maxRecDepth 100000 in
set_option maxHeartbeats 8000000 in
theorem back_wrong {w0 : World} (a o : Int) (m v : Nat) (s : ByteArray) (hs : s.size ≤ 30) (ht : TabP w0) (hno : a < 0 ∨ 6 ≤ a ∨ ∀ j, j < 7 → isO o m j = false) :
    Calls Tryd.prog 5 #[.agg (condA a o m v), .string s] w0 fun e w' => e = .returned (.bool true) ∧ Below w0.heap.size w0 w' := by
  have hb0 : Below w0.heap.size w0 (w0.alloc (.cells (condA a o m v) 29)) := (Below.refl _ _).alloc (Nat.le_refl _) _
  have HB0 := Lib.hid hb0
  have HT := Lib.hid ht
  have HO := Lib.hid fun X => of10_any a o m v X
  have HR := Lib.hid fun X => right_no a o m v hno X
  have q0 : ¬ (s.size : Int) > 30 := by omega
  have q1 : decide ((s.size : Int) > 30) = false := by simpa using q0
  clear hb0 ht hno
  go_enter Tryd.func5, Tryd.ntmps5
  go_wp2_with fail
  refine (HO.out _).mono ?_
  rintro e w1 ⟨rfl, hB1⟩
  go_wp2_with fail
  refine (HR.out _).mono ?_
  rintro e w2 ⟨rfl, hB2⟩
  have h12 := hB1.trans (hB2.mono hB1.size)
  have b2 := Lib.hid (HB0.out.trans (h12.mono HB0.out.size))
  have HA := Lib.hid (awake10_any w2 (tab_on HT.out b2.out (Nat.le_refl _)))
  clear hB1 hB2 h12
  go_wp2_with (go_at_call 16; refine HA.out.mono ?_; rintro e w9 ⟨rfl, hB9⟩)
  go_ret
  exact ⟨rfl, b2.out.trans (hB9.mono b2.out.size)⟩
set_option maxRecDepth 100000 in
set_option maxHeartbeats 4000000 in
theorem back_long {w0 : World} (a o : Int) (m v : Nat) (s : ByteArray) (hs : ¬ s.size ≤ 30) :
    Calls Tryd.prog 5 #[.agg (condA a o m v), .string s] w0 fun e w' => e = .returned (.bool true) ∧ Below w0.heap.size w0 w' := by
  have hb0 : Below w0.heap.size w0 (w0.alloc (.cells (condA a o m v) 29)) := (Below.refl _ _).alloc (Nat.le_refl _) _
  have HB0 := Lib.hid hb0
  have q0 : (s.size : Int) > 30 := by omega
  have q1 : decide ((s.size : Int) > 30) = true := by simpa using q0
  clear hb0
  go_enter Tryd.func5, Tryd.ntmps5
  go_wp2
  go_ret
  exact ⟨rfl, HB0.out⟩

theorem sgO_no32 (j : Nat) : ∀ b ∈ (sgO j).data.toList, b ≠ 32 := by unfold sgO; split <;> decide
theorem words_no32 (i j m v : Nat) (hi : i < 6) : ∀ l ∈ wordsL i j m v, ∀ b ∈ l, b ≠ 32 := by
  have hd : ∀ u, ∀ b ∈ Lib.decDigits u, b ≠ 32 := fun u b hb e => by
    have := (decDigits_dig u b hb).1
    rw [e] at this
    exact absurd this (by decide)
  have ha : ∀ b ∈ ([97, UInt8.ofNat (48 + i)] : List UInt8), b ≠ 32 := by
    intro b hb
    simp only [List.mem_cons, List.not_mem_nil, or_false] at hb
    rcases hb with rfl | rfl
    · decide
    · intro e
      have := congrArg UInt8.toNat e
      rw [dig_nat (by omega)] at this
      have h32 : (32 : UInt8).toNat = 32 := rfl
      omega
  intro l hl
  unfold wordsL at hl
  split at hl
  · simp only [List.mem_cons, List.not_mem_nil, or_false] at hl
    rcases hl with rfl | rfl | rfl | rfl | rfl
    · exact ha
    · decide
    · exact hd m
    · decide
    · exact hd v
  · simp only [List.mem_cons, List.not_mem_nil, or_false] at hl
    rcases hl with rfl | rfl | rfl
    · exact ha
    · exact sgO_no32 j
    · exact hd v
theorem dec_len (u : Nat) (h : u < 18446744073709551616) : (Lib.decDigits u).length ≤ 20 := by rw [Lib.decDigits_length]; exact nDigits_le u h
theorem words_wd {L : List (List UInt8)} (h : ∀ l ∈ L, ∀ b ∈ l, b ≠ 32) : ∀ (n : Nat), n < L.length → ∀ (q : Nat) (b : UInt8), (wd L n)[q]? = some b → b ≠ 32 := fun n hn q b hb => by
  rw [wd_eq hn] at hb
  exact h _ (List.getElem_mem hn) b (List.mem_of_getElem? hb)
theorem walk_CondBack {w0 : World} (a : Int) (o : Int) (m v : Nat) (ha : (Lit.int .i64 a).wf = true) (ho : (Lit.int .i64 o).wf = true) (hm : m < 18446744073709551616) (hv : v < 18446744073709551616) (s : ByteArray) (hs : s.size ≤ maxLen) (ht : TabP w0) :
    Calls Tryd.prog 5 #[.agg #[.int .i64 a, .int .i64 o, .int .u64 m, .int .u64 v], .string s] w0 fun e w' => e = .returned (.bool true) ∧ Below w0.heap.size w0 w' := by
  by_cases hl : s.size ≤ 30
  · rcases right_or10 a o m with ⟨j, hr⟩ | hno
    · obtain ⟨i, rfl⟩ := Int.eq_ofNat_of_zero_le hr.1
      have hi : i < 6 := by have := hr.2.1; omega
      have hd1 := dec_len m hm
      have hd2 := dec_len v hv
      have hss := sgO_size j
      have hsl : (sgO j).data.toList.length ≤ 2 := by rw [Array.length_toList]; exact hss
      by_cases h6 : j = 6
      · subst h6
        have ho : o = 7 := hr.2.2.2.1
        subst ho
        have hlen : (wordsL i 6 m v).length = 5 := rfl
        refine back_right i 7 m v s hl ht (wordsL i 6 m v) 5 hlen (by omega) (by omega) ?_ (fun n hn => words_wd (words_no32 i 6 m v hi) n (by rw [hlen]; exact hn)) (fun X => right_ok _ _ m v 6 hr X) (fun X hX => text5_ok i hi m hm v hv X hX) ?_
        · simp [wordsL, joinW]; omega
        · intro X b c' hX hc
          exact read5_ok i hi m hm v hv b 6 c' (by omega) X hX (hc 0 (by omega)) (hc 1 (by omega)) (hc 2 (by omega)) (hc 3 (by omega)) (hc 4 (by omega))
      · have hj : j < 6 := by have := hr.2.2.1; omega
        have ho : o = (j : Int) + 1 := hr.2.2.2.1
        subst ho
        have hm0 : m = 0 := by
          have := hr.2.2.2.2
          simp [mkO, h6] at this
          exact this
        subst hm0
        have hlen : (wordsL i j 0 v).length = 3 := by rw [wordsL, if_neg h6]; rfl
        refine back_right i ((j : Int) + 1) 0 v s hl ht (wordsL i j 0 v) 3 hlen (by omega) (by omega) ?_ (fun n hn => words_wd (words_no32 i j 0 v hi) n (by rw [hlen]; exact hn)) (fun X => right_ok _ _ 0 v j hr X) (fun X hX => text3_ok i hi j hj v hv X hX) ?_
        · rw [wordsL, if_neg h6]; simp [joinW]; omega
        · intro X b c' hX hc
          have e : ∀ q, strW (wordsL i j 0 v) q = .string ⟨(([[97, UInt8.ofNat (48 + i)], (sgO j).data.toList, Lib.decDigits v] : List (List UInt8)).getD q []).toArray⟩ := fun q => by rw [strW, wd, wordsL, if_neg h6]
          exact read3_ok i hi j hj v hv b 4 c' (by omega) X hX ((hc 0 (by omega)).trans (by rw [e]; rfl)) ((hc 1 (by omega)).trans (by rw [e]; rfl)) ((hc 2 (by omega)).trans (by rw [e]; rfl))
    · exact back_wrong a o m v s hl ht hno
  · exact back_long a o m v s hl

theorem of_laid {W : World} (h : laidMetH Tryd.prog Rows.condBackRow.laid W) : TabP W := by
  rw [MakeChecks.laidMetH_plain _ _ _ (by kernel_rfl)] at h
  exact tab_of_third h

namespace condBackRow
open Go.ChangeShapes Go.WideShapes Go.ChangeAt Go.RowKit Go.Joins
open Go.ChangeMaps (open_string shut_string)
set_option linter.unusedVariables false
theorem own : ownKnob Tryd.prog.godebug = none := by kernel_rfl
theorem laidOut : laidOutB Tryd.prog = true := by kernel_rfl
set_option maxRecDepth 100000 in
theorem lifted (os : Os) (started : os.Started) (H : Type) (enc : TypeId × Value → H) :
    ReturnsInHanded {} Tryd.checked os 5 .any (fun w args => (Rows.condBackSpec.pre enc Tryd.prog Tryd.f5 [] false w args ∧ laidMetH Tryd.prog Rows.condBackRow.laid w) ∧ sizedMet enc Tryd.prog Tryd.f5 (OpenSpec.ofChange Rows.condBackSpec) false w args) (Rows.condBackSpec.post enc Tryd.prog Tryd.f5 false true false false) := by
  refine returnsInHanded_of_change_and (C := Tryd.checked) (X := fun w _ => laidMetH Tryd.prog Rows.condBackRow.laid w) (fun _ _ _ hh h => h.of_heap hh) own started (by kernel_rfl) Tryd.func5
    (ChangeSpec.witness_shaped (enc := enc) (C := Tryd.checked) (os := os) (X := fun w _ => laidMetH Tryd.prog Rows.condBackRow.laid w) false (World.laidAll Tryd.prog os Rows.condBackRow.laid) #[.agg #[.int .i64 0, .int .i64 0, .int .u64 0, .int .u64 0], .string ⟨#[]⟩] 8 (World.laidAll_os _ _ _) (World.shaped_of_ZipB (by kernel_rfl) (by kernel_rfl)) (by kernel_rfl) (by kernel_rfl) (by kernel_rfl) (by rw [MakeChecks.laidMetH_plain _ _ _ (by kernel_rfl)]; exact laidMet_laidAll _ (by kernel_rfl) (by kernel_rfl))) ?_
  intro W base args ds gs before hval0 hW _ _ hL _
  have hval : ∀ (j : Nat) t v, Tryd.f5.params[j]? = some t → args[j]? = some v → Value.okWide Tryd.prog W .any base t v := hval0
  have hW' := hW
  obtain ⟨p, q, hA0, hV, rfl, hfz, hnd⟩ := hW
  have hA : DataW.TrodAll enc Tryd.prog W 0 (fun _ => true) true Tryd.f5.params.toList args.toList ds p := hA0
  rw [Tryd.params5] at hA hval
  obtain ⟨v0, vs0, d0, ds0, p0, q0, hargs, rfl, rfl, h0, r0⟩ := trodAll_cons hA
  obtain ⟨v1, vs1, d1, ds1, p1, q1, rfl, rfl, rfl, h1, r1⟩ := trodAll_cons r0
  obtain ⟨rfl, rfl, rfl⟩ := trodAll_nil r1
  obtain rfl : args = #[v0, v1] := by cases args; simp_all
  obtain ⟨rfl, rfl⟩ := trodVars_none hV
  have k0 := h0
  have lt0 : ∀ x ∈ p0, x.block < W.heap.size := by obtain ⟨m, hm⟩ := k0; exact DataW.trod_lt m _ _ _ hm
  have k1 := h1
  have lt1 : ∀ x ∈ p1, x.block < W.heap.size := by obtain ⟨m, hm⟩ := k1; exact DataW.trod_lt m _ _ _ hm
  obtain ⟨cc0, cc1, cc2, cc3, yy0, yy1, yy2, yy3, mm, rfl, _, _, hyy0, hyy1, hyy2, hyy3⟩ := open_agg4 Tryd.underlying29 (by kernel_rfl) (show Tryd.prog.cellsOf 29 = 4 by kernel_rfl) (hval 0 29 v0 rfl rfl) h0
  obtain ⟨n0, ee0, _, u0⟩ := DataW.trod_int Tryd.underlying3 hyy0
  obtain ⟨n1, ee1, _, u1⟩ := DataW.trod_int Tryd.underlying3 hyy1
  obtain ⟨n2, ee2, _, u2⟩ := DataW.trod_int Tryd.underlying23 hyy2
  obtain ⟨n3, ee3, _, u3⟩ := DataW.trod_int Tryd.underlying23 hyy3
  simp only [List.cons.injEq, and_true] at ee0 ee1 ee2 ee3
  subst ee0 ee1 ee2 ee3
  simp [Lit.wf, IntKind.min, IntKind.max, IntKind.signed, IntKind.bits] at u2 u3
  obtain ⟨x2, rfl⟩ := Int.eq_ofNat_of_zero_le u2.1
  obtain ⟨x3, rfl⟩ := Int.eq_ofNat_of_zero_le u3.1
  obtain ⟨s1, rfl, rfl, rfl, w1⟩ := open_string Tryd.underlying9 (hval 1 9 v1 rfl rfl) h1
  clear hA0 hval0
  refine (walk_CondBack (w0 := W) n0 n1 x2 x3 u0 u1 (by omega) (by omega) s1 w1 (of_laid hL)).mono fun e W' ⟨he, bel⟩ => ?_
  subst he
  exact ⟨_, rfl, _, _, _, [], _, [], hW', trodAll_mk1 (shut_bool Tryd.underlying4 _), (trodAll_cons_mk (Below.trod laidOut (by kernel_rfl) (of_decide_eq_true (by kernel_rfl)) k0 bel lt0) (trodAll_cons_mk (Below.trod laidOut (by kernel_rfl) (of_decide_eq_true (by kernel_rfl)) k1 bel lt1) trodAll_mk0)), rfl, bel.frame _, fun h => by cases h⟩

theorem over : Rows.condBackRow.holds Tryd.pinned (OpenSpec.ofChange Rows.condBackSpec) :=
  OpenClaim.holds_of_wide 5 Tryd.f5 rfl rfl rfl rfl rfl rfl rfl ⟨rfl, rfl, rfl, rfl, rfl⟩ rfl rfl rfl rfl rfl (by kernel_rfl) Tryd.func5 (by kernel_rfl)
    (of_decide_eq_true (by kernel_rfl)) (by unfold Func.isWrapper; first | (rw [if_pos (by decide +kernel)]; kernel_rfl) | (rw [if_neg (by decide +kernel)]; exact ⟨rfl, rfl⟩))
    (fun os started H enc _ => lifted os started H enc)
end condBackRow

theorem condBack_proved : Rows.CondBackCardSaid :=
  Claim7.holds_tied_plain_at .later [] [.data, .data, .data, .data, .sentinel, .sentinel, .pinned] true Rows.condBackCard.stood.harness true
    condBackRow.over (fun _ h => by cases h) (by kernel_rfl) (fun _ h => by cases h) condBack_row_tie rfl ⟨rfl, rfl⟩ (by kernel_rfl) rfl
    (fun f fn hf hfn => by
      obtain rfl : f = 5 := Option.some.inj ((show Tryd.prog.funcNamed "strainer/strainerlaw10.CondBack" = some 5 by kernel_rfl).symm.trans hf) |>.symm
      obtain rfl : fn = Tryd.f5 := (Option.some.inj (Tryd.func5.symm.trans hfn)).symm
      exact ⟨by kernel_rfl, fun j t ht => by
        rw [Tryd.params5] at ht
        have hall : ∀ t ∈ [29, 9], Tryd.prog.wantsStandIn t = false := by
          intro t ht
          simp only [List.mem_cons, List.not_mem_nil, or_false] at ht
          rcases ht with rfl | rfl <;> kernel_rfl
        exact hall t (by simpa using Array.mem_of_getElem? ht)⟩)
    (by kernel_rfl)
#print axioms condBack_proved
end Go.Proofs.YtplnaejbfanioaaDoor
