/-
  list.Program at lines: the instructions that are read, or the first line that is wrong.
-/
import Derived.Test.YtebeoadmdflfcaaGreatDoorPv
namespace Go.Proofs.YtebeoadmdflfcaaGreatDoor
open Go.RowKit Go.Shelf
set_option linter.unusedVariables false

/-- The pieces of lines. -/
def pcs (L : List (List UInt8)) : List (List UInt8) := L ++ [[]]
def pcN (L : List (List UInt8)) (i : Nat) : List UInt8 := (pcs L).getD i []
theorem pcs_len (L : List (List UInt8)) : (pcs L).length = L.length + 1 := by simp [pcs]
theorem pcN_at (L : List (List UInt8)) (i : Nat) (h : i < L.length) : pcN L i = L.getD i [] := by
  unfold pcN pcs
  rw [List.getD_eq_getElem?_getD, List.getD_eq_getElem?_getD, List.getElem?_append_left h]
theorem pcN_last (L : List (List UInt8)) : pcN L L.length = [] := by
  unfold pcN pcs
  rw [List.getD_eq_getElem?_getD, List.getElem?_append_right (Nat.le_refl _), Nat.sub_self]
  rfl
def pcA (L : List (List UInt8)) : Array Value := (((pcs L).map fun x => (⟨x.toArray⟩ : ByteArray)).map Value.string).toArray
theorem pcA_at (L : List (List UInt8)) (i : Nat) (h : i < L.length + 1) : (pcA L)[i]? = some (.string ⟨(pcN L i).toArray⟩) := by
  unfold pcA pcN
  have h2 : i < (pcs L).length := by rw [pcs_len]; exact h
  rw [List.getElem?_toArray, List.getElem?_map, List.getElem?_map, List.getD_eq_getElem?_getD, List.getElem?_eq_getElem h2]
  rfl
set_option maxRecDepth 100000 in
set_option maxHeartbeats 16000000 in
theorem progL_any (L : List (List UInt8)) (hL : ∀ x ∈ L, ∀ c ∈ x, c ≠ 10) (hsz : (joinL L).length ≤ 65536) (rs : Nat → IV) (xs : Nat → Int) (m : Nat) (hm : m ≤ L.length + 1)
    (hok : ∀ i, i < m → xs i = 0 ∨ xs i = 4) (hbad : m ≤ L.length → (xs m == 0) = false ∧ (xs m == 4) = false) (w : World) (he : EnvL w)
    (HRD0 : ∀ i, i < L.length + 1 → ∀ X, Below w.heap.size w X → Calls Tryz.prog 6 #[.string ⟨(pcN L i).toArray⟩] X fun e w' => e = .returned (.tuple #[.agg (instA (rs i).c (rs i).t (rs i).f (rs i).k), .int .i64 (xs i)]) ∧ Below X.heap.size X w') :
    Calls Tryz.prog 10 #[.string ⟨(joinL L).toArray⟩] w fun e w' => ((m = L.length + 1 ∧ ∃ A c, e = .returned (.tuple #[.slice A (accL rs xs m).length c, .int .i64 0, .int .i64 0]) ∧ Cel w' w'.heap.size 4 A (accL rs xs m).length c (icell (gOf (accL rs xs m)))) ∨ (m ≤ L.length ∧ e = .returned (.tuple #[.slice none 0 0, .int .i64 ((m : Int) + 1), .int .i64 (xs m)]))) ∧ Below w.heap.size w w' := by
  obtain ⟨S, hS⟩ : ∃ S : ByteArray, (⟨(joinL L).toArray⟩ : ByteArray) = S := ⟨_, rfl⟩
  have hSs : S.size ≤ 65536 := by rw [← hS]; show (joinL L).toArray.size ≤ _; simpa using hsz
  have q1 : ¬ (S.size : Int) > 65536 := by omega
  have q2 : decide ((S.size : Int) > 65536) = false := decide_eq_false q1
  obtain ⟨mx, hmx⟩ := he.max
  have hsp := Tryz.strings_Split S ⟨#[10]⟩ mx w (by omega) hmx (Nat.le_refl 1)
  have hN : L.length ≤ 65536 := by
    have h1 : L.length ≤ (joinL L).length := by
      have h2 := (splitB_lines L hL).1
      have h3 := Lib.countB_le ⟨#[10]⟩ (Nat.le_refl 1) _ ⟨(joinL L).toArray⟩ (Nat.le_refl _)
      rw [h2] at h3
      have h4 : (⟨(joinL L).toArray⟩ : ByteArray).size = (joinL L).length := by show (joinL L).toArray.size = _; simp
      omega
    omega
  rw [← hS, (splitB_lines L hL).1, (splitB_lines L hL).2, hS] at hsp
  obtain ⟨W0, hW0⟩ : ∃ W, w.alloc (.cells (pcA L) 9) = W := ⟨_, rfl⟩
  have hb0 : Below w.heap.size w W0 := by rw [← hW0]; exact (Below.refl _ _).alloc (Nat.le_refl _) _
  have hz0 : W0.heap.size = w.heap.size + 1 := by rw [← hW0]; simp
  have r0 : RowC W0 w.heap.size (pcA L) 9 := by rw [← hW0]; exact RowC.new _ _ _ _ rfl
  have HSP : Hid (Calls Tryz.prog 20 #[.string S, .string ⟨#[10]⟩] w fun e w' => e = .returned (.slice (some ⟨w.heap.size, 0, none⟩) (L.length + 1) (L.length + 1)) ∧ w' = W0) := Lib.hid (by rw [← hW0]; exact hsp)
  have HRD := Lib.hid HRD0
  have HOK := Lib.hid (And.intro hok hbad)
  have HAT := Lib.hid (pcA_at L)
  have HB := Lib.hid hb0
  have HR := Lib.hid r0
  have HZ := Lib.hid hz0
  obtain ⟨N, hNN⟩ : ∃ N, L.length = N := ⟨_, rfl⟩
  rw [hS]
  rw [hNN] at HSP HRD HOK HAT hm hN ⊢
  generalize pcN L = P at *
  generalize pcA L = PA at *
  clear he hmx hsp hW0 hb0 r0 hz0 HRD0 hok hbad hS hL hsz hNN
  go_enter Tryz.func10, Tryz.ntmps10
  go_wp2_with fail
  refine HSP.out.mono ?_
  rintro e w1 ⟨rfl, rfl⟩
  go_wp2_with fail
  go_loopw [5, 16] (fun l i wr => ∃ (q : Nat) (A : Option Addr) (c : Nat), q ≤ m ∧ l = .slice A (accL rs xs q).length c ∧ i = .int .i64 q ∧ OwnC wr w1.heap.size 25 4 A (accL rs xs q).length c (icell (gOf (accL rs xs q))) ∧ Below w1.heap.size w1 wr) (fun _ i _ => N + 1 - (intOf i).toNat)
  case atStart => exact ⟨0, none, 0, by omega, rfl, rfl, OwnC.nil_, Below.refl _ _⟩
  case round =>
    obtain ⟨q, A, c, hq, rfl, rfl, hown, hB⟩ := hrel
    by_cases hqN : q < N + 1
    · have g1 : (q : Int) < ((N : Int) + 1) := by omega
      have g2 : (0 : Int) ≤ (q : Int) := by omega
      have g3 : ((q : Int) < (((N + 1 : Nat)) : Int)) := by omega
      have c0 := (HR.out.below hB HR.out.lt).cell q _ (HAT.out q hqN)
      have hb01 : Below w.heap.size w wr := HB.out.trans (hB.mono HB.out.size)
      have HX := Lib.hid (HRD.out q hqN wr hb01)
      have HBR := Lib.hid hB
      have HOW := Lib.hid hown
      have hal : (accL rs xs q).length ≤ q := accL_len rs xs q
      by_cases hqm : q < m
      · rcases HOK.out.1 q hqm with h0 | h4
        · have HAC := Lib.hid (show accL rs xs (q + 1) = accL rs xs q ++ [rs q] by rw [accL, if_pos h0])
          rw [h0] at HX
          obtain ⟨ac, hac⟩ : ∃ ac, accL rs xs q = ac := ⟨_, rfl⟩
          obtain ⟨v, hv⟩ : ∃ v, rs q = v := ⟨_, rfl⟩
          rw [hac, hv] at HAC
          rw [hv] at HX
          rw [hac] at HOW hal
          rw [hac]
          clear hown hB h0 hac hv hb01
          go_wp2_with fail
          refine HX.out.mono ?_
          rintro e w2 ⟨rfl, hB2⟩
          have HO2 := Lib.hid (HOW.out.below hB2 (Nat.le_refl _))
          have HB2 := Lib.hid (HBR.out.trans (hB2.mono HBR.out.size))
          clear hB2 HX HOW
          have hs2 : w1.heap.size ≤ w2.heap.size := HB2.out.size
          go_wp2_with (at_builtin; go_must (refine app_cells _ (by rfl) _ _ _ 25 (by rfl) Tryz.underlying37 infoI (by rfl) (by decide) rfl ((HO2.out.alloc _).alloc _) rfl (one_instK _ (w2.heap.size + 1) (by simp) v 25) (fun i _ => icell_one _ i) (by unfold maxLen; omega) (by omega) (by simp; omega) (ac.length + 1) rfl (icell (gOf (ac ++ [v]))) (icell_gcat ac v) ?_; rintro A7 c7 w7 hown7 hB7))
          exact ⟨⟨q + 1, A7, c7, by omega, by rw [HAC.out, List.length_append]; rfl, by go_num, by rw [HAC.out, List.length_append]; exact hown7, ((HB2.out.alloc hs2 _).alloc (by simp; omega) _).trans hB7⟩, by simp [intOf]; omega⟩
        · have HAC := Lib.hid (show accL rs xs (q + 1) = accL rs xs q by rw [accL, if_neg (by rw [h4]; decide)])
          rw [h4] at HX
          obtain ⟨ac, hac⟩ : ∃ ac, accL rs xs q = ac := ⟨_, rfl⟩
          obtain ⟨v, hv⟩ : ∃ v, rs q = v := ⟨_, rfl⟩
          rw [hac] at HAC
          rw [hv] at HX
          rw [hac] at HOW hal
          rw [hac]
          clear hown hB h4 hac hv hb01
          go_wp2_with fail
          refine HX.out.mono ?_
          rintro e w2 ⟨rfl, hB2⟩
          have HO2 := Lib.hid (HOW.out.below hB2 (Nat.le_refl _))
          have HB2 := Lib.hid (HBR.out.trans (hB2.mono HBR.out.size))
          clear hB2 HX HOW
          have hs2 : w1.heap.size ≤ w2.heap.size := HB2.out.size
          go_wp2
          exact ⟨⟨q + 1, A, c, by omega, by rw [HAC.out], by go_num, by rw [HAC.out]; exact HO2.out.alloc _, HB2.out.alloc hs2 _⟩, by simp [intOf]; omega⟩
      · obtain rfl : q = m := by omega
        obtain ⟨b0, b4⟩ := HOK.out.2 (by omega)
        have hqN2 : q ≤ N := by omega
        obtain ⟨x, hx⟩ : ∃ x, xs q = x := ⟨_, rfl⟩
        rw [hx] at HX b0 b4
        have HXE := Lib.hid hx
        clear hx
        obtain ⟨v, hv⟩ : ∃ v, rs q = v := ⟨_, rfl⟩
        rw [hv] at HX
        clear hown hB hv hb01
        go_wp2_with fail
        refine HX.out.mono ?_
        rintro e w2 ⟨rfl, hB2⟩
        have HB2 := Lib.hid (HBR.out.trans (hB2.mono HBR.out.size))
        clear hB2 HX
        have hs2 : w1.heap.size ≤ w2.heap.size := HB2.out.size
        go_wp2
        go_ret3
        exact ⟨.inr ⟨hqN2, by rw [HXE.out]; go_num⟩, HB.out.trans ((HB2.out.alloc hs2 _).mono HB.out.size)⟩
    · obtain rfl : m = N + 1 := by omega
      obtain rfl : q = N + 1 := by omega
      have g1 : ¬ ((N : Int) + 1) < ((N : Int) + 1) := by omega
      have HO2 := Lib.hid hown
      clear hown
      go_wp2
      go_ret3
      exact ⟨.inl (by first | exact ⟨rfl, _, _, rfl, HO2.out.cel⟩ | exact ⟨_, _, rfl, HO2.out.cel⟩), HB.out.trans (hB.mono HB.out.size)⟩
end Go.Proofs.YtebeoadmdflfcaaGreatDoor
