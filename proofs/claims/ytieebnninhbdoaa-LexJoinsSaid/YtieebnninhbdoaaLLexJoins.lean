/-
  For every text of at most 2000 bytes: its lines, put together, are a text with the same words; put together again it is the same.
-/
import Derived.Test.YtieebnninhbdoaaTk
import Derived.Test.YtieebnninhbdoaaRows
import Derived.WideShapes
import Derived.ChangeShapes
import Derived.BigQuiet
import Derived.ProofKit
import Derived.OpenShut
import Derived.ShutString
import Derived.ChangeOld
import Derived.Below
import Derived.Lib.SmallJoins
namespace Go.Proofs.Ytieebnninhbdoaa
open Go.RowKit

theorem tell_ws (ls : List Ln) : ls.map (·.ws) = (ls.map Ln.tell).map (·.2) := by
  rw [List.map_map]; rfl
/-- What Lines tells of a text that is right. -/
def OkL (W : World) (L : List UInt8) (e : Ending) (w' : World) : Prop :=
  ∃ A c ls, e = .returned (.tuple #[.slice A ls.length c, .int .i64 0, .int .i64 0]) ∧ (ls.map Ln.tell = (linesF L).1 ∧ OwnC w' W.heap.size 35 2 A ls.length c (lcell ls) ∧ LR w' ls) ∧ Below W.heap.size W w'
theorem lines_okL (s : ByteArray) (hs : s.size ≤ 65536) (hz : (linesF s.data.toList).2 = 0) (W : World) : Calls Try.prog 10 #[.string s] W (OkL W s.data.toList) :=
  (lines_any s hs W).mono fun e w' hh => by
    obtain ⟨hc, hb⟩ := hh
    rcases hc with ⟨_, A, c, ls, he, h1, h2, h3⟩ | ⟨h0, _⟩
    · exact ⟨A, c, ls, he, ⟨h1, h2, h3⟩, hb⟩
    · exact absurd hz h0
theorem lines_noL (s : ByteArray) (hs : s.size ≤ 65536) (hz : (linesF s.data.toList).2 ≠ 0) (W : World) : Calls Try.prog 10 #[.string s] W fun e w' => e = .returned (.tuple #[.slice none 0 0, .int .i64 ((linesF s.data.toList).2 : Nat), .int .i64 13]) ∧ Below W.heap.size W w' :=
  (lines_any s hs W).mono fun e w' hh => by
    obtain ⟨hc, hb⟩ := hh
    rcases hc with ⟨h0, _⟩ | ⟨_, he⟩
    · exact absurd h0 hz
    · exact ⟨he, hb⟩
theorem scan_len : ∀ (lines : List (List UInt8)) (n : Nat) (acc : List (Nat × List (List UInt8))), (scan n lines acc).1.length ≤ acc.length + lines.length
  | [], _, acc => Nat.le_refl _
  | l :: r, n, acc => by
    show (if (nb l).all okS = true then scan (n + 1) r (if wds (nb l) = [] then acc else acc ++ [(n, wds (nb l))]) else ([], n)).1.length ≤ _
    split
    · have h1 := scan_len r (n + 1) (if wds (nb l) = [] then acc else acc ++ [(n, wds (nb l))])
      have h2 : (if wds (nb l) = [] then acc else acc ++ [(n, wds (nb l))]).length ≤ acc.length + 1 := by
        split
        · omega
        · simp
      simp only [List.length_cons]
      omega
    · exact Nat.zero_le _
theorem lines_okL_len {L : List UInt8} {ls : List Ln} (h : ls.map Ln.tell = (linesF L).1) : ls.length ≤ L.length + 1 := by
  have h1 := scan_len (lns L) 1 []
  have h2 := (lns_length L).2
  have h3 := congrArg List.length h
  rw [List.length_map] at h3
  have h4 : scan 1 (lns L) [] = linesF L := rfl
  rw [h4] at h1
  simp only [List.length_nil] at h1
  omega
theorem numF_ws (l : List (List (List UInt8))) (k : Nat) : (numF k l).map (·.2) = l := by
  apply List.ext_getElem?
  intro i
  rw [List.getElem?_map, numF_at]
  cases l[i]? <;> rfl

theorem HJ2 (A' : Option Addr) (c' : Nat) (lm : List Ln) (w3 : World) (n : Nat) (WS : List (List (List UInt8))) (S : ByteArray) (hn : lm.length = n) (ht : lm.map Ln.tell = numF 1 WS) (hc : Cel w3 w3.heap.size 2 A' n c' (lcell lm)) (hr : LR w3 lm) {ls : List Ln} (hw : ∀ x ∈ ls, x.ws.length ≤ 140737488355328) (hWS : ls.map (·.ws) = WS) (_hn : ls.length = n) (hS : S = ⟨(joinF WS).toArray⟩) (hl : (joinF WS).length ≤ 65536) :
    Calls Try.prog 14 #[.slice A' n c'] w3 fun e w' => e = .returned (.string S) ∧ Below w3.heap.size w3 w' := by
  have e : lm.map (·.ws) = WS := by rw [tell_ws, ht, numF_ws]
  have h := join_any A' c' lm w3 (by rw [hn]; exact hc) hr (by rw [e]; omega) (fun x hx => by
    have hx' : x.ws ∈ WS := by rw [← e]; exact List.mem_map_of_mem hx
    rw [← hWS] at hx'
    obtain ⟨y, hy, he⟩ := List.mem_map.1 hx'
    rw [← he]
    exact hw y hy)
  rw [e, hn, ← hS] at h
  exact h

set_option maxRecDepth 100000 in
set_option maxHeartbeats 8000000 in
theorem walk_LexJoins {w0 : World} (s : ByteArray) (_ws : s.size ≤ maxLen) : Calls Try.prog 4 #[.string s] w0 fun e w' => e = .returned (.bool true) ∧ Below w0.heap.size w0 w' := by
  by_cases hs : s.size ≤ 2000
  · have i1 : ¬ (2000 : Int) < (s.size : Int) := by omega
    have hsz : s.data.toList.length = s.size := Array.length_toList
    by_cases hz : (linesF s.data.toList).2 = 0
    · have HL := Lib.hid (fun W => lines_okL s (by omega) hz W)
      have HG := Lib.hid (lines_good s.data.toList)
      have hjl := joinF_len s.data.toList
      have HLE : Hid (∀ ls : List Ln, ls.map Ln.tell = (linesF s.data.toList).1 → (∀ x ∈ ls, x.ws.length ≤ 140737488355328) ∧ (joinF (ls.map (·.ws))).length ≤ 65536 ∧ ls.length ≤ 65536) := Lib.hid fun ls h => by
        refine ⟨fun x hx => ?_, ?_, ?_⟩
        · have := lines_le h x hx
          omega
        · rw [tell_ws, h]
          omega
        · have h1 := lines_okL_len h
          omega
      clear hz hjl
      go_enter Try.func4, Try.ntmps4
      go_wp2_with (go_at_call 10; refine (HL.out _).mono ?_; rintro e w1 ⟨A, c, ls, rfl, hF, hB1⟩; have HF := Lib.hid hF; clear hF)
      obtain ⟨hF1, hF2, hF3⟩ := HF.out
      obtain ⟨hw1, hw2, hw3⟩ := HLE.out ls hF1
      have hcel1 := hF2.cel
      have hWs : ls.map (·.ws) = (linesF s.data.toList).1.map (·.2) := by rw [tell_ws, hF1]
      obtain ⟨WS, hWS⟩ : ∃ WS, ls.map (·.ws) = WS := ⟨_, rfl⟩
      have hgood : ∀ ws ∈ WS, ws ≠ [] ∧ ∀ x ∈ ws, GoodW x := fun ws hws => by
        rw [← hWS, hWs] at hws
        obtain ⟨p, hp, rfl⟩ := List.mem_map.1 hws
        exact HG.out p hp
      have hlj := lines_join WS hgood
      have HJ := Lib.hid (join_any A c ls w1 hcel1 hF3 (by omega) hw1)
      rw [hWS] at HJ hw2
      obtain ⟨S, hS⟩ : ∃ S : ByteArray, S = ⟨(joinF WS).toArray⟩ := ⟨_, rfl⟩
      have hSd : S.data.toList = joinF WS := by rw [hS]
      have hSs : S.size ≤ 65536 := by rw [hS]; show (joinF WS).toArray.size ≤ 65536; rw [List.size_toArray]; exact hw2
      rw [← hS] at HJ
      obtain ⟨n, hn⟩ : ∃ n, ls.length = n := ⟨_, rfl⟩
      have hWl : WS.length = n := by rw [← hWS, List.length_map, hn]
      have HM : Hid (∀ W, Calls Try.prog 10 #[.string S] W fun e w' => ∃ A' c' lm, e = .returned (.tuple #[.slice A' n c', .int .i64 0, .int .i64 0]) ∧ ((lm.length = n ∧ lm.map Ln.tell = numF 1 WS) ∧ Cel w' w'.heap.size 2 A' n c' (lcell lm) ∧ LR w' lm) ∧ Below W.heap.size W w') := Lib.hid fun W =>
        (lines_okL S hSs (by rw [hSd, hlj]) W).mono fun e w' hh => by
          obtain ⟨A', c', lm, he, ⟨h1, h2, h3⟩, hb⟩ := hh
          rw [hSd, hlj] at h1
          have hl : lm.length = n := by
            have := congrArg List.length h1
            rw [List.length_map, numF_length] at this
            omega
          have h2' := h2.cel
          rw [hl] at h2' he
          exact ⟨A', c', lm, he, ⟨⟨hl, h1⟩, h2', h3⟩, hb⟩
      rw [hn] at HJ hcel1 hw3 ⊢
      have HWS := Lib.hid hWS
      have HS := Lib.hid hS
      have HN := Lib.hid hn
      have HCB := Lib.hid (And.intro hcel1 (And.intro hF3 (And.intro hw1 hB1)))
      have hn0 : n ≤ 65536 := hw3
      clear hF1 hF2 hF3 hw1 hw3 hcel1 hWs hWS hgood hlj hSd hB1 hS hn hWl
      refine HJ.out.mono ?_
      rintro e w2 ⟨rfl, hB2⟩
      go_wp2_with (first
        | (go_at_call 10; refine (HM.out _).mono ?_; rintro e w3 ⟨A', c', lm, rfl, hG, hB3⟩; have HG2 := Lib.hid hG; clear hG)
        | (go_at_call 14; refine (HJ2 A' c' lm w3 n WS S HG2.out.1.1 HG2.out.1.2 HG2.out.2.1 HG2.out.2.2 (HCB.out.2.2.1) HWS.out HN.out HS.out hw2).mono ?_; rintro e w4 ⟨rfl, hB4⟩))
      have b1 := HCB.out.2.2.2
      have g1 := b1.size
      have g2 := hB2.size
      have g3 := hB3.size
      have b4 : Below w0.heap.size w0 w4 := ((b1.trans (hB2.mono g1)).trans (hB3.mono (by omega))).trans (hB4.mono (by omega))
      have c1 : Cel w4 w1.heap.size 2 A n c (lcell ls) := (HCB.out.1.below hB2).below (hB3.mono g2) |>.below (hB4.mono (by omega))
      have c2 : Cel w4 w3.heap.size 2 A' n c' (lcell lm) := HG2.out.2.1.below hB4
      have r1 : LR w4 ls := ((HCB.out.2.1.below hB2).below hB3).below hB4
      have r2 : LR w4 lm := HG2.out.2.2.below hB4
      have HF2 : Hid (∀ k, k < n → ∃ x y : Ln, ls[k]? = some x ∧ lm[k]? = some y ∧ y.num = k + 1 ∧ y.ws = x.ws) := Lib.hid fun k hk => by
        have hn := HN.out
        have hl := HG2.out.1.1
        obtain ⟨x, hx⟩ : ∃ x, ls[k]? = some x := ⟨_, List.getElem?_eq_getElem (by omega)⟩
        obtain ⟨y, hy⟩ : ∃ y, lm[k]? = some y := ⟨_, List.getElem?_eq_getElem (by omega)⟩
        have e := congrArg (fun l : List (Nat × List (List UInt8)) => l[k]?) HG2.out.1.2
        simp only [List.getElem?_map, hy, Option.map_some, numF_at, ← HWS.out, hx] at e
        injection e with e
        injection e with e1 e2
        exact ⟨x, y, hx, hy, by rw [e1]; omega, e2⟩
      have HC := Lib.hid (And.intro c1 (And.intro c2 (And.intro r1 r2)))
      have HB4 := Lib.hid b4
      have HBD : Hid (∀ x ∈ ls, x.ws.length ≤ 140737488355328) := Lib.hid HCB.out.2.2.1
      have hc1 : n ≤ c ∧ c ≤ maxLen := c1.le
      have hc2 : n ≤ c' ∧ c' ≤ maxLen := c2.le
      unfold maxLen at hc1 hc2
      clear c1 c2 r1 r2 b4 b1 g1 g2 g3 hB2 hB3 hB4
      go_loopw [10] (fun i wr => ∃ (k q : Nat), k ≤ n ∧ i = .int .i64 k ∧ wr = w4.drewN q) (fun i _ => n - (intOf i).toNat)
      case atStart => exact ⟨0, 0, Nat.zero_le _, rfl, rfl⟩
      case round =>
        obtain ⟨k, q, hk, rfl, hwr⟩ := hrel
        have HWR := Lib.hid hwr
        by_cases hlt : k < n
        · obtain ⟨x, y, hx, hy, e1, e2⟩ := HF2.out k hlt
          obtain ⟨h1, h2, r1, r2⟩ := HC.out
          obtain ⟨b1, o1, rfl, _, hc1'⟩ := h1.at_ (by omega)
          obtain ⟨b2, o2, rfl, _, hc2'⟩ := h2.at_ (by omega)
          obtain ⟨hne1, _, hw1⟩ := r1 x (List.mem_of_getElem? hx)
          obtain ⟨hne2, _, hw2⟩ := r2 y (List.mem_of_getElem? hy)
          have c2 : ∀ W q, W = w4.drewN q → W.cell? ⟨b1, o1 + k * 2 + 1, none⟩ = some (.slice (some ⟨x.b, 0, none⟩) x.ws.length x.cap) := fun W q hW => by
            subst hW
            have := hc1' (k * 2 + 1) (by omega)
            unfold lcell at this
            rw [show (k * 2 + 1) / 2 = k by omega, hx, show (k * 2 + 1) % 2 = 1 by omega] at this
            exact this
          have d1 : ∀ W q, W = w4.drewN q → W.cell? ⟨b2, o2 + k * 2, none⟩ = some (.int .i64 ((k : Int) + 1)) := fun W q hW => by
            subst hW
            have := hc2' (k * 2) (by omega)
            unfold lcell at this
            rw [show k * 2 / 2 = k by omega, hy, show k * 2 % 2 = 0 by omega] at this
            have e3 : ((k : Int) + 1) = ((y.num : Nat) : Int) := by rw [e1]; omega
            rw [e3]; exact this
          have d2 : ∀ W q, W = w4.drewN q → W.cell? ⟨b2, o2 + k * 2 + 1, none⟩ = some (.slice (some ⟨y.b, 0, none⟩) x.ws.length y.cap) := fun W q hW => by
            subst hW
            have := hc2' (k * 2 + 1) (by omega)
            unfold lcell at this
            rw [show (k * 2 + 1) / 2 = k by omega, hy, show (k * 2 + 1) % 2 = 1 by omega] at this
            rw [← e2]; exact this
          have i1 : (0 : Int) ≤ (k : Int) := by omega
          have i2 : (k : Int) < (n : Int) := by omega
          have i3 : IntKind.i64.wrap ((k : Int) + 1) = (k : Int) + 1 := IntWalk.i64_in _ (by omega)
          have v2 := c2 wr q hwr
          have v3 := d1 wr q hwr
          have v4 := d2 wr q hwr
          have HCD := Lib.hid (And.intro c2 d2)
          have HE2 := Lib.hid e2
          clear hc1' hc2' h1 h2 hwr c2 d1 d2 e1 e2
          go_wp2
          go_quiet (fail)
          have hq2 : wr.drewN nq = w4.drewN (q + nq) := by rw [HWR.out, World.drewN_drewN]
          obtain ⟨W2, hW2⟩ : ∃ W2, wr.drewN nq = W2 := ⟨_, rfl⟩
          rw [hW2] at hq2 ⊢
          have v2' := HCD.out.1 W2 _ hq2
          have v4' := HCD.out.2 W2 _ hq2
          have HQ2 := Lib.hid hq2
          clear hW2 hq2
          go_wp2
          go_loopw [11] (fun i wr => ∃ (j p : Nat), j ≤ x.ws.length ∧ i = .int .i64 j ∧ wr = w4.drewN p) (fun i _ => x.ws.length - (intOf i).toNat)
          case atStart => exact ⟨0, _, Nat.zero_le _, rfl, HQ2.out⟩
          case round =>
            obtain ⟨j, p, hj, rfl, hwr2⟩ := hrel
            have v2 := HCD.out.1 wr p hwr2
            have v4 := HCD.out.2 wr p hwr2
            have HW3 := Lib.hid hwr2
            by_cases hjl : j < x.ws.length
            · obtain ⟨z, hz⟩ : ∃ z, x.ws[j]? = some z := ⟨_, List.getElem?_eq_getElem hjl⟩
              have s1 : wr.cell? ⟨x.b, j, none⟩ = some (.string ⟨z.toArray⟩) := by rw [hwr2]; exact hw1.cell hz
              have s2 : wr.cell? ⟨y.b, j, none⟩ = some (.string ⟨z.toArray⟩) := by rw [hwr2]; exact hw2.cell (by rw [HE2.out]; exact hz)
              have j1 : (0 : Int) ≤ (j : Int) := by omega
              have j2 : (j : Int) < (x.ws.length : Int) := by omega
              have j3 : IntKind.i64.wrap ((j : Int) + 1) = (j : Int) + 1 := IntWalk.i64_in _ (by have := HBD.out x (List.mem_of_getElem? hx); omega)
              clear hwr2
              go_wp2
              go_quiet (fail)
              go_wp2
              exact ⟨⟨j + 1, _, hjl, by go_num, by rw [HW3.out, World.drewN_drewN]⟩, by simp [intOf]; omega⟩
            · clear hwr2
              obtain rfl : j = x.ws.length := by omega
              have j2 : ¬ ((x.ws.length : Nat) : Int) < (x.ws.length : Int) := by omega
              go_wp2
              exact ⟨⟨k + 1, p, hlt, by go_num, HW3.out⟩, by simp [intOf]; omega⟩
        · clear hwr
          obtain rfl : k = n := by omega
          have i2 : ¬ (k : Int) < (k : Int) := by omega
          go_wp2_with (go_at_call 13; refine (awake13_any _).mono ?_; rintro e w5 ⟨rfl, hB5⟩)
          go_ret
          have hq : wr.heap.size = w4.heap.size := by rw [HWR.out]; rfl
          have hb : Below w0.heap.size w0 wr := by rw [HWR.out]; exact bdn HB4.out q
          exact ⟨rfl, hb.trans (hB5.mono hb.size)⟩
    · have HL := Lib.hid (fun W => lines_noL s (by omega) hz W)
      clear hz
      generalize (linesF s.data.toList).2 = nn at *
      go_enter Try.func4, Try.ntmps4
      go_wp2_with (first
        | (go_at_call 10; refine (HL.out _).mono ?_; rintro e w1 ⟨rfl, hB1⟩)
        | (go_at_call 13; refine (awake13_any _).mono ?_; rintro e w4 ⟨rfl, hB4⟩))
      go_ret
      exact ⟨rfl, hB1.trans (hB4.mono hB1.size)⟩
  · have i1 : (2000 : Int) < (s.size : Int) := by omega
    go_enter Try.func4, Try.ntmps4
    go_wp2
    go_ret
    exact ⟨rfl, Below.refl _ _⟩

namespace lexJoinsRow
open Go.ChangeShapes Go.WideShapes Go.ChangeAt Go.RowKit Go.Joins
open Go.ChangeMaps (open_string shut_string)
set_option linter.unusedVariables false
theorem own : ownKnob Try.prog.godebug = none := by kernel_rfl
theorem laidOut : laidOutB Try.prog = true := by kernel_rfl
set_option maxRecDepth 100000 in
theorem lifted (os : Os) (started : os.Started) (H : Type) (enc : TypeId × Value → H) :
    ReturnsInHanded {} Try.checked os 4 .any (Rows.lexJoinsSpec.pre6 enc Try.prog Try.f4 Rows.lexJoinsRow.domain false) (Rows.lexJoinsSpec.post enc Try.prog Try.f4 false true false false) := by
  refine returnsInHanded_of_change (C := Try.checked) own started (by kernel_rfl) Try.func4
    (ChangeSpec.witness6 (enc := enc) (C := Try.checked) false ⟨#[], #[.string ⟨#[]⟩], []⟩ 8 (by kernel_rfl) (by kernel_rfl) (by kernel_rfl) (by kernel_rfl)) ?_
  intro W base args ds gs before hval0 hW hcnd _
  have hval : ∀ (j : Nat) t v, Try.f4.params[j]? = some t → args[j]? = some v → Value.okWide Try.prog W .any base t v := hval0
  have hW' := hW
  obtain ⟨p, q, hA0, hV, rfl, hfz, hnd⟩ := hW
  have hA : DataW.TrodAll enc Try.prog W 0 (fun _ => true) true Try.f4.params.toList args.toList ds p := hA0
  rw [Try.params4] at hA hval
  obtain ⟨v0, vs0, d0, ds0, p0, q0, hargs, rfl, rfl, h0, r0⟩ := trodAll_cons hA
  obtain ⟨rfl, rfl, rfl⟩ := trodAll_nil r0
  obtain rfl : args = #[v0] := by cases args; simp_all
  obtain ⟨rfl, rfl⟩ := trodVars_none hV
  have k0 := h0
  have lt0 : ∀ x ∈ p0, x.block < W.heap.size := by obtain ⟨m, hm⟩ := k0; exact DataW.trod_lt m _ _ _ hm
  obtain ⟨s0, rfl, rfl, rfl, w0⟩ := open_string Try.underlying9 (hval 0 9 v0 rfl rfl) h0
  clear hA0 hval0
  refine (walk_LexJoins (w0 := W) s0 w0).mono fun e W' ⟨he, bel⟩ => ?_
  subst he
  exact ⟨_, rfl, _, _, _, [], _, [], hW', trodAll_mk1 (shut_bool Try.underlying4 _), (trodAll_cons_mk (Below.trod laidOut (by kernel_rfl) (of_decide_eq_true (by kernel_rfl)) k0 bel lt0) trodAll_mk0), rfl, bel.frame _, fun h => by cases h⟩

theorem over : Rows.lexJoinsRow.holds Try.pinned (OpenSpec.ofChange Rows.lexJoinsSpec) :=
  OpenClaim.holds_of_wide 4 Try.f4 rfl rfl rfl rfl rfl rfl rfl ⟨rfl, rfl, rfl, rfl, rfl⟩ rfl rfl rfl rfl rfl (by kernel_rfl) Try.func4 (by kernel_rfl)
    (of_decide_eq_true (by kernel_rfl)) (by unfold Func.isWrapper; first | (rw [if_pos (by decide +kernel)]; kernel_rfl) | (rw [if_neg (by decide +kernel)]; exact ⟨rfl, rfl⟩))
    (fun os started H enc _ => lifted os started H enc)
end lexJoinsRow

theorem lexJoins_proved : Rows.LexJoinsSaid := lexJoinsRow.over
#print axioms lexJoins_proved
end Go.Proofs.Ytieebnninhbdoaa
