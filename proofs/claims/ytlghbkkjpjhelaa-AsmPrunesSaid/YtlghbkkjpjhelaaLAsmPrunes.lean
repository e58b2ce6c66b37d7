/-
  The law AsmPrunes holds for every input: items that no way leads to do not stand in the program. No condition (the law itself lets lists of more than 200 items go).
-/
import Derived.Test.YtlghbkkjpjhelaaAs17
import Derived.Test.YtlghbkkjpjhelaaRows
import Derived.Below
import Derived.ChangeOld
import Derived.ShutString
import Derived.Lib.SmallJoins
import Derived.OpenShut
import Derived.ProofKit
import Derived.WalkKit
namespace Go.Proofs.Ytlghbkkjpjhelaa
open Go.RowKit Go.Shelf
set_option linter.unusedVariables false
theorem it_snoc2 {N : Nat} (L : List IT) (x : IT) (h : N = L.length) : ∀ i, i < (N + 1) * 5 → catC (N * 5) (itcell fun i => L[i]!) (itcell fun _ => x) i = itcell (fun i => (L ++ [x])[i]!) i := by
  subst h
  exact it_snoc L x
set_option maxRecDepth 100000 in
set_option maxHeartbeats 16000000 in
theorem walk_AsmPrunes {w0 : World} (A : Option Addr) (n c : Nat) (l : List IT) (hn : l.length = n) (hr : Cel w0 w0.heap.size 5 A n c (itcell fun i => l[i]!)) (hok : ∀ x ∈ l, x.ok)
    (B : Option Addr) (m d : Nat) (g : List IT) (hm : g.length = m) (hq : Cel w0 w0.heap.size 5 B m d (itcell fun i => g[i]!)) (gok : ∀ x ∈ g, x.ok) :
    Calls Try.prog 5 #[.slice A n c, .slice B m d] w0 fun e w' => e = .returned (.bool true) ∧ Below w0.heap.size w0 w' := by
  have HR := Lib.hid hr
  have HQ := Lib.hid hq
  have HOK := Lib.hid hok
  have GOK := Lib.hid gok
  have HN := Lib.hid hn
  have HM := Lib.hid hm
  clear hr hq hok gok hn hm
  by_cases hn2 : n > 200
  · have i1 : (n : Int) > 200 := by omega
    go_enter Try.func5, Try.ntmps5
    go_wp2
    go_ret
    exact ⟨rfl, Below.refl _ _⟩
  have i1 : ¬ (n : Int) > 200 := by omega
  by_cases hm2 : m > 200
  · have i2 : (m : Int) > 200 := by omega
    go_enter Try.func5, Try.ntmps5
    go_wp2
    go_ret
    exact ⟨rfl, Below.refl _ _⟩
  have i2 : ¬ (m : Int) > 200 := by omega
  go_enter Try.func5, Try.ntmps5
  go_wp2_with fail
  refine (refFormed_any A n c l _ HN.out (by omega) HR.out HOK.out).mono ?_
  rintro e w1 ⟨b, rfl, hB1, hF⟩
  cases b with
  | false =>
    clear hF
    go_wp2_with (go_at_call 12; refine (awake21_any _).mono ?_; rintro e w5 ⟨rfl, hB5⟩; have hb5 := hB1.trans (hB5.mono hB1.size))
    go_ret
    exact ⟨rfl, hb5⟩
  | true =>
    have HF := Lib.hid (hF rfl)
    obtain ⟨E, hE⟩ : ∃ E, (checkF (fun i => (progI l)[i]!) (progI l).length).2 = E := ⟨_, rfl⟩
    have HE := Lib.hid hE
    clear hF hE
    go_wp2_with fail
    refine (of21_any A n c _ _ (by omega) ((HR.out.below hB1).more hB1.size)).mono ?_
    rintro e w2 ⟨A2, c2, rfl, hO2, hB2⟩
    have hb2 := hB1.trans (hB2.mono hB1.size)
    have HC2 := Lib.hid hO2.cel
    clear hO2 hB2
    go_wp2_with fail
    refine (assemble_ok A2 n c2 l _ HN.out (by omega) HC2.out HOK.out HF.out E HE.out).mono ?_
    rintro e w3 ⟨A3, n3, c3, rfl, hB3, hz0, hz1⟩
    have hb3 := hb2.trans (hB3.mono hb2.size)
    obtain ⟨q, hq⟩ : ∃ q, (if E = 0 then (progI l).length else 0) = q := ⟨_, rfl⟩
    have hq3 : q ≤ 600 := by
      have := progI_len l
      rw [HN.out] at this
      rw [← hq]
      split <;> omega
    have hn3 : n3 = q := by
      rw [← hq]
      by_cases h : E = 0
      · rw [if_pos h]; exact (hz1 h).1
      · rw [if_neg h]; exact (hz0 h).2.1
    subst hn3
    have HP3 : Hid (Cel w3 w3.heap.size 4 A3 n3 c3 (icell fun i => (progI l)[i]!)) := Lib.hid (by
      by_cases h : E = 0
      · exact (hz1 h).2.cel
      · obtain ⟨rfl, rfl, rfl⟩ := hz0 h
        exact Cel.nil_)
    have HQ3 := Lib.hid hq
    clear hz0 hz1 hq hB3
    obtain ⟨S, hS⟩ : ∃ S, w3.heap.size = S := ⟨_, rfl⟩
    have hS0 : w0.heap.size ≤ S := by rw [← hS]; exact hb3.size
    have HSS := Lib.hid hS
    go_wp2_with fail
    refine (of21_any A n c _ _ (by omega) ((HR.out.below hb3).more hb3.size)).mono ?_
    rintro e w4 ⟨A4, c4, rfl, hO4, hB4⟩
    rw [hS] at hO4 hB4
    have HO4 := Lib.hid hO4
    have HB4 := Lib.hid hB4
    clear hO4 hB4 hS
    go_wp2_with fail
    go_loopw [7, 8] (fun v i wr => ∃ (k : Nat) (D : List IT) (A' : Option Addr) (c' : Nat) (N : Nat), k ≤ m ∧ i = .int .i64 k ∧ v = .slice A' N c' ∧ N ≤ 200 + k ∧ Hid (N = (l ++ D).length ∧ OwnC wr S 27 5 A' N c' (itcell fun i => (l ++ D)[i]!) ∧ (∀ y ∈ D, deadOk y) ∧ (∀ y ∈ D, y.ok) ∧ Below S w3 wr))
      (fun _ i _ => m - (intOf i).toNat)
    case atStart =>
      refine ⟨0, [], A4, c4, n, Nat.zero_le _, rfl, rfl, by omega, Lib.hid ⟨by rw [List.append_nil, HN.out], ?_, fun y h => (by cases h), fun y h => (by cases h), HB4.out⟩⟩
      simp only [List.append_nil]
      exact HO4.out
    case round =>
      obtain ⟨k, D, A', c', N, hk, rfl, rfl, hN2, HI⟩ := hrel
      by_cases hlt : k < m
      · obtain ⟨x, hx⟩ : ∃ x, g[k]! = x := ⟨_, rfl⟩
        have hxo : x.ok := GOK.out x (by rw [← hx, getElem!_pos g k (by rw [HM.out]; exact hlt)]; exact List.getElem_mem _)
        have hbr : Below w0.heap.size w0 wr := hb3.trans (HI.out.2.2.2.2.mono hS0)
        obtain ⟨b, off, rfl, hb, q0, q1, q2, q3, q4⟩ := it_at (HQ.out.below hbr) hlt hx
        have j1 : (0 : Int) ≤ (k : Int) := by omega
        have j2 : (k : Int) < (m : Int) := by omega
        have HXO := Lib.hid hxo
        obtain ⟨W2, hW2⟩ : ∃ W, wr.alloc (.cells #[.int .i64 x.m, .int .u16 x.c, .int .u32 x.k, .int .i64 x.t, .int .i64 x.f] 50) = W := ⟨_, rfl⟩
        obtain ⟨E0, hE0⟩ : ∃ E, wr.heap.size = E := ⟨_, rfl⟩
        have hr2 : RowC W2 E0 #[.int .i64 x.m, .int .u16 x.c, .int .u32 x.k, .int .i64 x.t, .int .i64 x.f] 50 := by rw [← hW2, ← hE0]; exact RowC.new _ _ _ _ rfl
        have hs2 : W2.heap.size = E0 + 1 := by rw [← hW2, ← hE0]; simp
        have hb2' : Below E0 wr W2 := by rw [← hW2, ← hE0]; exact (Below.refl _ _).alloc (Nat.le_refl _) _
        have hSE : S ≤ E0 := by rw [← hE0]; have h := HI.out.2.2.2.2.size; rw [HSS.out] at h; exact h
        have HALL : Hid (∀ W, Below (E0 + 1) W2 W → W.cell? ⟨E0, 0, none⟩ = some (.int .i64 x.m) ∧ W.cell? ⟨E0, 1, none⟩ = some (.int .u16 x.c) ∧ W.cell? ⟨E0, 2, none⟩ = some (.int .u32 x.k) ∧ Below S w3 W ∧ OwnC W S 27 5 A' N c' (itcell fun i => (l ++ D)[i]!) ∧ E0 + 1 ≤ W.heap.size) := Lib.hid fun W hW => by
          have h := hr2.below hW (Nat.lt_succ_self E0)
          have h3 : Below E0 wr W := hb2'.trans (hW.mono (Nat.le_succ _))
          exact ⟨h.cell 0 _ rfl, h.cell 1 _ rfl, h.cell 2 _ rfl, HI.out.2.2.2.2.trans (h3.mono hSE), HI.out.2.1.below h3 (by omega), by have := hW.size; omega⟩
        have HW2 := Lib.hid hW2
        have HS2 := Lib.hid hs2
        clear hx hxo hW2 hr2 hs2 hb2' hb hbr
        go_upto_region 9 with fail
        (try rw [hE0])
        (try rw [HW2.out])
        clear hE0 q0 q1 q2 q3 q4
        obtain ⟨p0, p1, p2, hSW, hOW, hsz⟩ := HALL.out W2 (Below.refl _ _)
        have HOW := Lib.hid hOW
        clear hOW
        by_cases hm0 : x.m = 0
        · rw [hm0] at p0
          have HM0 := Lib.hid hm0
          obtain ⟨W5, hW5⟩ : ∃ W, W2.alloc (.cells #[.int .i64 0, .int .u16 x.c, .int .u32 x.k, .int .i64 0, .int .i64 0, .int .i64 0, .int .u16 6, .int .u32 0, .int .i64 0, .int .i64 0] 50) = W := ⟨_, rfl⟩
          have hB5 : Below (E0 + 1) W2 W5 := by rw [← hW5]; exact (Below.refl _ _).alloc hsz _
          have hc5 := two_cel W2 x 50
          rw [hW5] at hc5
          have hs5 : W5.heap.size = E0 + 2 := by rw [← hW5]; simp [HS2.out]
          rw [HS2.out] at hc5
          have HFC : Hid (Calls Try.prog 14 #[.slice (some ⟨E0 + 1, 0, none⟩) 2 2] W5 fun e w' => ∃ b, e = .returned (.bool b) ∧ Below W5.heap.size W5 w' ∧ (b = true → FormedI [⟨0, x.c, x.k, 0, 0⟩, r6])) := Lib.hid (refFormed_any _ 2 2 [⟨0, x.c, x.k, 0, 0⟩, r6] W5 rfl (by decide) (by rw [hs5]; exact hc5) (fun y hy => by
            simp only [List.mem_cons, List.not_mem_nil, or_false] at hy
            rcases hy with rfl | rfl
            · exact ⟨HXO.out.1, HXO.out.2.1, by show (Lit.int .i64 0).wf = true; decide, by show (Lit.int .i64 0).wf = true; decide, by show (Lit.int .i64 0).wf = true; decide⟩
            · exact ⟨by decide, by decide, by decide, by decide, by decide⟩))
          have HW5 := Lib.hid hW5
          have hs2' := HS2.out
          clear hW5 hc5
          go_wp2_with fail
          (try rw [hs2'])
          rw [HW5.out]
          refine HFC.out.mono ?_
          rintro e w6 ⟨b2, rfl, hB6, hF2⟩
          have hB56 : Below (E0 + 1) W2 w6 := hB5.trans (hB6.mono (by omega))
          obtain ⟨p0', p1', p2', hSW6, hOW6, hsz6⟩ := HALL.out w6 hB56
          have HO6 := Lib.hid hOW6
          clear hOW6
          cases b2 with
          | false =>
            clear hF2
            go_wp2
            exact ⟨⟨k + 1, D, A', c', N, by omega, by go_num, rfl, by omega, Lib.hid ⟨HI.out.1, HO6.out, HI.out.2.2.1, HI.out.2.2.2.1, hSW6⟩⟩, by simp [intOf]; omega⟩
          | true =>
            have HD := Lib.hid (dead_of (hF2 rfl))
            clear hF2
            go_wp2_with (at_builtin; go_must (refine app_cells _ rfl _ _ _ 27 rfl Try.underlying28 infoItm rfl (by decide) rfl (HO6.out.alloc _) rfl (one_item w6 ⟨0, x.c, x.k, 0, 0⟩ 27) (fun i _ => itcell_one _ i) (by unfold maxLen; omega) (by omega) (by simp; omega) (N + 1) rfl (itcell fun i => ((l ++ D) ++ [⟨0, x.c, x.k, 0, 0⟩])[i]!) (it_snoc2 (l ++ D) ⟨0, x.c, x.k, 0, 0⟩ HI.out.1) ?_; rintro A7 c7 w7 hown7 hB7; have HO7 := Lib.hid hown7; have hSW7 : Below S w3 w7 := (hSW6.alloc (by omega) _).trans hB7; clear hown7))
            refine ⟨⟨k + 1, D ++ [⟨0, x.c, x.k, 0, 0⟩], A7, c7, N + 1, by omega, by go_num, rfl, by omega, Lib.hid ⟨by rw [HI.out.1]; simp; omega, ?_, fun y hy => ?_, fun y hy => ?_, hSW7⟩⟩, by simp [intOf]; omega⟩
            · have h := HO7.out
              rw [List.append_assoc] at h
              exact h
            · rcases List.mem_append.1 hy with h | h
              · exact HI.out.2.2.1 y h
              · rw [List.mem_singleton.1 h]; exact HD.out
            · rcases List.mem_append.1 hy with h | h
              · exact HI.out.2.2.2.1 y h
              · rw [List.mem_singleton.1 h]
                exact ⟨HXO.out.1, HXO.out.2.1, by show (Lit.int .i64 0).wf = true; decide, by show (Lit.int .i64 0).wf = true; decide, by show (Lit.int .i64 0).wf = true; decide⟩
        · have f0 : (x.m == 0) = false := beq_eq_false_iff_ne.2 hm0
          go_wp2
          exact ⟨⟨k + 1, D, A', c', N, by omega, by go_num, rfl, by omega, Lib.hid ⟨HI.out.1, HOW.out, HI.out.2.2.1, HI.out.2.2.2.1, hSW⟩⟩, by simp [intOf]; omega⟩
      · obtain rfl : m = k := by omega
        have j2 : ¬ (m : Int) < (m : Int) := by omega
        have hSr : S ≤ wr.heap.size := by have h := HI.out.2.2.2.2.size; rw [HSS.out] at h; exact h
        have HOO := Lib.hid HI.out.2.1
        have HFD := Lib.hid (formed_dead HF.out HI.out.2.2.1)
        have HPD : Hid (progI (l ++ (D ++ [r6])) = progI l) := Lib.hid (prog_dead HF.out fun y hy => by
          rcases List.mem_append.1 hy with h | h
          · exact (HI.out.2.2.1 y h).1
          · rw [List.mem_singleton.1 h])
        have HKD : Hid (∀ y ∈ l ++ (D ++ [r6]), y.ok) := Lib.hid fun y hy => by
          rcases List.mem_append.1 hy with h | h
          · exact HOK.out y h
          · rcases List.mem_append.1 h with h | h
            · exact HI.out.2.2.2.1 y h
            · rw [List.mem_singleton.1 h]
              exact ⟨by decide, by decide, by decide, by decide, by decide⟩
        go_wp2_with (first
          | (at_builtin; go_must (refine app_cells _ rfl _ _ _ 27 rfl Try.underlying28 infoItm rfl (by decide) rfl (HOO.out.alloc _) rfl (one_item wr r6 27) (fun i _ => itcell_one _ i) (by unfold maxLen; omega) (by omega) (by simp; omega) (N + 1) rfl (itcell fun i => ((l ++ D) ++ [r6])[i]!) (it_snoc2 (l ++ D) r6 HI.out.1) ?_; rintro A7 c7 w7 hown7 hB7; have HC7 := Lib.hid hown7.cel; have hSW7 : Below S w3 w7 := (HI.out.2.2.2.2.alloc hSr _).trans hB7; clear hown7)))
        have hS7 : S ≤ w7.heap.size := by have h := hSW7.size; rw [HSS.out] at h; exact h
        have hb7 : Below w0.heap.size w0 w7 := hb3.trans (hSW7.mono hS0)
        have HC8 : Hid (Cel w7 w7.heap.size 5 A7 (N + 1) c7 (itcell fun i => (l ++ (D ++ [r6]))[i]!)) := Lib.hid (by have h := HC7.out; rw [List.append_assoc] at h; exact h)
        have HNL : Hid ((l ++ (D ++ [r6])).length = N + 1) := Lib.hid (by rw [HI.out.1]; simp; omega)
        refine (assemble_ok A7 (N + 1) c7 (l ++ (D ++ [r6])) _ HNL.out (by omega) HC8.out HKD.out HFD.out E (by rw [HPD.out]; exact HE.out)).mono ?_
        rw [HPD.out]
        rintro e w8 ⟨A8, n8, c8, rfl, hB8, hz0, hz1⟩
        have hb8 := hb7.trans (hB8.mono hb7.size)
        have hn8 : n8 = n3 := by
          rw [← HQ3.out]
          by_cases h : E = 0
          · rw [if_pos h]; exact (hz1 h).1
          · rw [if_neg h]; exact (hz0 h).2.1
        subst hn8
        have HP8 : Hid (Cel w8 w8.heap.size 4 A8 n8 c8 (icell fun i => (progI l)[i]!)) := Lib.hid (by
          by_cases h : E = 0
          · exact (hz1 h).2.cel
          · obtain ⟨rfl, rfl, rfl⟩ := hz0 h
            exact Cel.nil_)
        have HP3' : Hid (Cel w8 w8.heap.size 4 A3 n8 c3 (icell fun i => (progI l)[i]!)) := Lib.hid (((HP3.out.below (by rw [HSS.out]; exact hSW7.trans (hB8.mono hS7))).more (by have h1 := (hSW7.trans (hB8.mono hS7)).size; exact h1)))
        have HQN : Hid (n8 ≤ (progI l).length) := Lib.hid (by rw [← HQ3.out]; split <;> omega)
        clear hz0 hz1 hB8
        have e0 : ((E : Int) != (E : Int)) = false := by simp
        have e1 : ((n8 : Int) != (n8 : Int)) = false := by simp
        go_wp2_with fail
        go_loopw [12] (fun i wq => ∃ k : Nat, k ≤ n8 ∧ i = .int .i64 k ∧ Below w8.heap.size w8 wq) (fun i _ => n8 - (intOf i).toNat)
        case atStart => exact ⟨0, Nat.zero_le _, rfl, Below.refl _ _⟩
        case round =>
          obtain ⟨k2, hk2, rfl, hBq⟩ := hrel
          by_cases hlt2 : k2 < n8
          · obtain ⟨v, hv⟩ : ∃ v, (progI l)[k2]! = v := ⟨_, rfl⟩
            obtain ⟨b1, o1, rfl, _, h1⟩ := (show Ins wr w8.heap.size A3 n8 c3 (fun i => (progI l)[i]!) from ⟨HP3'.out.below hBq, fun i hi => by
              show ((progI l)[i]!).ok
              rw [getElem!_pos (progI l) i (Nat.lt_of_lt_of_le hi HQN.out)]
              exact progI_ok l (by rw [HN.out]; omega) HOK.out _ (List.getElem_mem _)⟩).at_ (by omega)
            obtain ⟨b2, o2, rfl, _, h2⟩ := (show Ins wr w8.heap.size A8 n8 c8 (fun i => (progI l)[i]!) from ⟨HP8.out.below hBq, fun i hi => by
              show ((progI l)[i]!).ok
              rw [getElem!_pos (progI l) i (Nat.lt_of_lt_of_le hi HQN.out)]
              exact progI_ok l (by rw [HN.out]; omega) HOK.out _ (List.getElem_mem _)⟩).at_ (by omega)
            obtain ⟨s0, s1, s2, s3⟩ := h1 k2 hlt2
            obtain ⟨t0, t1, t2, t3⟩ := h2 k2 hlt2
            rw [hv] at s0 s1 s2 s3 t0 t1 t2 t3
            clear h1 h2 hv
            have j1 : (0 : Int) ≤ (k2 : Int) := by omega
            have j3 : (k2 : Int) < (n8 : Int) := by omega
            have HBZ : Hid (∀ q, Below w8.heap.size w8 (wr.drewN q)) := Lib.hid fun q => ⟨hBq.os, hBq.tape, hBq.output, hBq.size, hBq.block⟩
            go_wp2
            go_quiet (fail)
            go_wp2
            exact ⟨⟨k2 + 1, by omega, by go_num, HBZ.out _⟩, by simp [intOf]; omega⟩
          · obtain rfl : n8 = k2 := by omega
            have j3 : ¬ (n8 : Int) < (n8 : Int) := by omega
            have hb9 := hb8.trans (hBq.mono hb8.size)
            go_wp2_with (go_at_call 12; refine (awake21_any _).mono ?_; rintro e w5 ⟨rfl, hB5⟩; have hb5 := hb9.trans (hB5.mono hb9.size))
            go_ret
            exact ⟨rfl, hb5⟩

namespace asmPrunesRow
open Go.ChangeShapes Go.WideShapes Go.ChangeAt Go.RowKit Go.Joins
open Go.ChangeMaps (open_string shut_string)
set_option linter.unusedVariables false
theorem own : ownKnob Try.prog.godebug = none := by kernel_rfl
theorem laidOut : laidOutB Try.prog = true := by kernel_rfl
set_option maxRecDepth 100000 in
theorem lifted (os : Os) (started : os.Started) (H : Type) (enc : TypeId × Value → H) :
    ReturnsInHanded {} Try.checked os 5 .any (Rows.asmPrunesSpec.pre6 enc Try.prog Try.f5 Rows.asmPrunesRow.domain false) (Rows.asmPrunesSpec.post enc Try.prog Try.f5 false true false false) := by
  refine returnsInHanded_of_change (C := Try.checked) own started (by kernel_rfl) Try.func5
    (ChangeSpec.witness6 (enc := enc) (C := Try.checked) false ⟨#[], #[.slice none 0 0, .slice none 0 0], []⟩ 8 (by kernel_rfl) (by kernel_rfl) (by kernel_rfl) (by kernel_rfl)) ?_
  intro W base args ds gs before hval0 hW hcnd _
  have hval : ∀ (j : Nat) t v, Try.f5.params[j]? = some t → args[j]? = some v → Value.okWide Try.prog W .any base t v := hval0
  have hW' := hW
  obtain ⟨p, q, hA0, hV, rfl, hfz, hnd⟩ := hW
  have hA : DataW.TrodAll enc Try.prog W 0 (fun _ => true) true Try.f5.params.toList args.toList ds p := hA0
  rw [Try.params5] at hA hval
  obtain ⟨v0, vs0, d0, ds0, p0, q0, hargs, rfl, rfl, h0, r0⟩ := trodAll_cons hA
  obtain ⟨v1, vs1, d1, ds1, p1, q1, rfl, rfl, rfl, h1, r1⟩ := trodAll_cons r0
  obtain ⟨rfl, rfl, rfl⟩ := trodAll_nil r1
  obtain rfl : args = #[v0, v1] := by cases args; simp_all
  obtain ⟨rfl, rfl⟩ := trodVars_none hV
  have k0 := h0
  have lt0 : ∀ x ∈ p0, x.block < W.heap.size := by obtain ⟨m, hm⟩ := k0; exact DataW.trod_lt m _ _ _ hm
  have k1 := h1
  have lt1 : ∀ x ∈ p1, x.block < W.heap.size := by obtain ⟨m, hm⟩ := k1; exact DataW.trod_lt m _ _ _ hm
  obtain ⟨a0, len0, cap0, rfl⟩ := okWide_slice Try.underlying47 (hval 0 47 v0 rfl rfl)
  obtain ⟨g0, e0, w0, o0⟩ := open_its h0
  obtain ⟨a1, len1, cap1, rfl⟩ := okWide_slice Try.underlying47 (hval 1 47 v1 rfl rfl)
  obtain ⟨g1, e1, w1, o1⟩ := open_its h1
  clear hA0 hval0
  refine (walk_AsmPrunes (w0 := W) a0 len0 cap0 g0 e0 w0 o0 a1 len1 cap1 g1 e1 w1 o1).mono fun e W' ⟨he, bel⟩ => ?_
  subst he
  exact ⟨_, rfl, _, _, _, [], _, [], hW', trodAll_mk1 (shut_bool Try.underlying4 _), (trodAll_cons_mk (Below.trod laidOut (by kernel_rfl) (of_decide_eq_true (by kernel_rfl)) k0 bel lt0) (trodAll_cons_mk (Below.trod laidOut (by kernel_rfl) (of_decide_eq_true (by kernel_rfl)) k1 bel lt1) trodAll_mk0)), rfl, bel.frame _, fun h => by cases h⟩

theorem over_inPlace : (Rows.asmPrunesRow.inPlace == Try.prog.inPlace 5) = true := by kernel_rfl
theorem over_unfollowed : (Rows.asmPrunesRow.unfollowed == Try.prog.unfollowed 5) = true := by kernel_rfl
theorem over_recurses : (Rows.asmPrunesRow.recurses == Try.prog.recurses 5) = true := by kernel_rfl
theorem over_named : (Rows.asmPrunesRow.named == Try.prog.varsNamed 5) = true := by kernel_rfl
theorem over_closed : joinedFacts Try.prog 5 Try.f5 Rows.asmPrunesSpec Rows.asmPrunesRow = true := by
  unfold joinedFacts
  rw [over_inPlace, over_unfollowed, over_recurses, over_named, laidOut]
  kernel_rfl
theorem over_found : Try.prog.funcNamed Rows.asmPrunesRow.func = some 5 := by kernel_rfl
theorem over : Rows.asmPrunesRow.holds Try.pinned (OpenSpec.ofChange Rows.asmPrunesSpec) :=
  OpenClaim.holds_of_wide 5 Try.f5 rfl rfl rfl rfl rfl rfl rfl ⟨rfl, rfl, rfl, rfl, rfl⟩ rfl rfl rfl rfl rfl over_found Try.func5 over_closed
    (of_decide_eq_true (by kernel_rfl)) (by unfold Func.isWrapper; first | (rw [if_pos (by decide +kernel)]; kernel_rfl) | (rw [if_neg (by decide +kernel)]; exact ⟨rfl, rfl⟩))
    (fun os started H enc _ => lifted os started H enc)
end asmPrunesRow

theorem asmPrunes_proved : Rows.AsmPrunesSaid := asmPrunesRow.over
#print axioms asmPrunes_proved
end Go.Proofs.Ytlghbkkjpjhelaa
