/-
  The law TopTexts holds for every instructions and every 64 bytes: a program as bytes, and as text, is the same: it is read of both as it was, may run or not by the same error, and tells the same. No condition.
-/
import Derived.Test.YtilelhhnbbjaaaaGreatDoorRows
import Derived.Test.YtilelhhnbbjaaaaGreatDoorCards
import Derived.Test.YtilelhhnbbjaaaaGreatDoorTie
import Derived.Test.YtilelhhnbbjaaaaGreatDoorPe
import Derived.Test.YtilelhhnbbjaaaaGreatDoorPz
import Derived.Test.YtilelhhnbbjaaaaGreatDoorVn
import Derived.Test.YtilelhhnbbjaaaaGreatDoorIg
import Derived.Test.YtilelhhnbbjaaaaGreatDoorPsh
import Derived.Test.YtilelhhnbbjaaaaGreatDoorTab
import Derived.Stop.LaidErr
import Derived.LaidLaws
import Derived.Lay
import Derived.MakeChecks
import Derived.WalkKit
import Derived.ProofKit
import Derived.OpenShut
import Derived.ShutString
import Derived.ChangeOld
import Derived.Below
import Derived.Lib.SmallJoins
import Derived.SevenTiedAt
import Derived.LaidMore
import Derived.Stop.Joined
import Derived.Deep.Cut
import Derived.RegionTactic
import Derived.Deep.RegionHeld3
import Derived.Deep.CutRange
import Derived.ChangeArms
import Derived.Laws.StructEq
namespace Go.Proofs.YtilelhhnbbjaaaaGreatDoor
open Go.RowKit Go.Shelf Go.ChangeShapes Go.WideShapes
set_option linter.unusedVariables false

theorem bTrans {w w' w'' : World} (h : Below w.heap.size w w') (h2 : Below w'.heap.size w' w'') : Below w.heap.size w w'' := h.trans (h2.mono h.size)
section
variable {H : Type} {enc : TypeId × Value → H}
/-- The numbers of an array that was read. -/
theorem arr_ints {P : Program} {w : World} {base : Nat} {spare : Nat → Bool} {held : Bool} {k : IntKind} {t e : TypeId} {n fuel : Nat} {cs : List Value} {x : DataW H × List MemPlace} (ht : P.underlying t = some (.array n e)) (he : P.underlying e = some (.int k)) (hc1 : P.cellsOf e = 1)
    (h : DataW.trod enc P w base spare held fuel t cs = some x) : ∀ i, i < n → ∃ z : Int, cs[i]? = some (.int k z) ∧ (Lit.int k z).wf = true := by
  obtain ⟨xs, m, _, _, _, hxl, hat⟩ := DataW.trod_array ht h
  intro i hi
  have hx := hat i hi
  rw [hc1] at hx
  have hxs : xs[i]? = some (xs[i]'(by omega)) := List.getElem?_eq_getElem (by omega)
  rw [hxs] at hx
  obtain ⟨z, hz, _, hw⟩ := DataW.trod_int he hx
  refine ⟨z, ?_, hw⟩
  have hh := congrArg List.head? hz
  simp only [List.head?_take, Nat.mul_one, List.head?_cons] at hh
  rw [if_neg (by decide), List.head?_drop] at hh
  exact hh

theorem arr_of (cs : Array Value) (n : Nat) (f : Nat → Nat) (hsz : cs.size = n) (hfi : ∀ i, i < n → cs[i]? = some (bv (f i))) : cs = arrB n f := by
  apply Array.ext
  · rw [hsz, arrB_size]
  · intro i h1 h2
    rw [hsz] at h1
    have e1 := hfi i h1
    have e2 := arrB_get n f i h1
    rw [Array.getElem?_eq_getElem (by omega)] at e1
    rw [Array.getElem?_eq_getElem (by rw [arrB_size]; omega)] at e2
    injection e1 with e1
    injection e2 with e2
    rw [e1, e2]
set_option maxRecDepth 100000 in
theorem open_arrB {r : Reach} {w : World} {b0 base : Nat} {spare : Nat → Bool} {held : Bool} {v : Value} {d : DataW H} {p : List MemPlace} (hv : Value.okWide Tryz.prog w r b0 23 v) (h : DataW.Trod enc Tryz.prog w base spare held 23 v d p) :
    ∃ f : Nat → Nat, v = .agg (arrB 64 f) ∧ ∀ i, i < 64 → f i < 256 := by
  have hC : Tryz.prog.cellsOf 23 = 64 := by kernel_rfl
  have hc1 : Tryz.prog.cellsOf 5 = 1 := by kernel_rfl
  obtain ⟨fuel, hf⟩ := h
  have hat := arr_ints Tryz.underlying23 Tryz.underlying5 hc1 hf
  obtain ⟨cs, rfl, hsz⟩ : ∃ cs, v = .agg cs ∧ cs.size = 64 := by
    simp only [Value.okWide, Tryz.underlying23] at hv
    obtain ⟨cs, h1, h2, _⟩ := hv
    exact ⟨cs, h1, h2.trans hC⟩
  have hex : ∃ f : Nat → Nat, ∀ i, i < 64 → (cs[i]? = some (bv (f i)) ∧ f i < 256) := by
    have hel : ∀ i, i < 64 → ∃ n : Nat, cs[i]? = some (bv n) ∧ n < 256 := fun i hi => by
      obtain ⟨z, hz, hw⟩ := hat i hi
      simp [Lit.wf, IntKind.min, IntKind.max, IntKind.signed, IntKind.bits] at hw
      refine ⟨z.toNat, ?_, by omega⟩
      rw [show bv z.toNat = Value.int .u8 z from by unfold bv; rw [Int.toNat_of_nonneg hw.1]]
      simpa [Value.cells] using hz
    exact ⟨fun i => if h : i < 64 then Classical.choose (hel i h) else 0, fun i hi => by
      have := Classical.choose_spec (hel i hi)
      simpa [hi] using this⟩
  obtain ⟨f, hfi⟩ := hex
  exact ⟨f, by rw [arr_of cs 64 f hsz fun i hi => (hfi i hi).1], fun i hi => (hfi i hi).2⟩
end
set_option maxRecDepth 100000 in
set_option maxHeartbeats 4000000 in
theorem allT_any (A : Option Addr) (n c : Nat) (g : Nat → IV) (w : World) (hn : n ≤ 1000000) (hr : Ins w w.heap.size A n c g) :
    Calls Tryz.prog 4 #[.slice A n c] w fun e w' => ∃ A' c', e = .returned (.slice A' n c') ∧ OwnC w' w.heap.size 47 4 A' n c' (icell g) ∧ Below w.heap.size w w' := by
  go_enter Tryz.func4, Tryz.ntmps4
  go_wp2
  go_loopw [3, 4] (fun v i wr => ∃ (k : Nat) (A' : Option Addr) (c' : Nat), k ≤ n ∧ i = .int .i64 k ∧ v = .slice A' k c' ∧ OwnC wr w.heap.size 47 4 A' k c' (icell g) ∧ Below w.heap.size w wr)
    (fun _ i _ => n - (intOf i).toNat)
  case atStart => exact ⟨0, none, 0, Nat.zero_le _, rfl, rfl, OwnC.nil_, Below.refl _ _⟩
  case round =>
    obtain ⟨k, A', c', hk, rfl, rfl, hown, hB⟩ := hrel
    by_cases hlt : k < n
    · obtain ⟨b, off, rfl, hb, hc⟩ := (hr.below hB).at_ (by omega)
      obtain ⟨q0, q1, q2, q3⟩ := hc k hlt
      have HW := Lib.hid (icell_cat g k)
      generalize g k = v at *
      have i1 : (0 : Int) ≤ (k : Int) := by omega
      have i2 : (k : Int) < (n : Int) := by omega
      clear hc
      go_wp2
      go_region_held3 (fun w' => w'.cell? ⟨b, off + k * 4, none⟩ = some (.int .u16 v.c) ∧ w'.cell? ⟨b, off + k * 4 + 1, none⟩ = some (.int .u8 v.t) ∧ w'.cell? ⟨b, off + k * 4 + 2, none⟩ = some (.int .u8 v.f) ∧ w'.cell? ⟨b, off + k * 4 + 3, none⟩ = some (.int .u32 v.k))
        (first
          | go_keep
          | exact ⟨(hK.cell (p := ⟨b, off + k * 4, none⟩) hb).trans q0, (hK.cell (p := ⟨b, off + k * 4 + 1, none⟩) hb).trans q1, (hK.cell (p := ⟨b, off + k * 4 + 2, none⟩) hb).trans q2, (hK.cell (p := ⟨b, off + k * 4 + 3, none⟩) hb).trans q3⟩)
        (first | (refine step_cells2 (by rfl) _ _ _ 47 (by rfl) Tryz.underlying24 infoI (by rfl) (by decide) (by rfl) (hown.alloc _).drew (by rfl) (one_inst wr v 47) (fun i _ => icell_one _ i) (by unfold maxLen; omega) (by omega) (by have := hB.size; simp; omega) (k + 1) rfl (icell g) HW.out ?_; rintro A2 c2 w2 hown2 hB2; have hK : Below w.heap.size wr w2 := ((Below.refl _ _).alloc hB.size _).drew.trans hB2))
      go_wp2
      exact ⟨⟨k + 1, A2, c2, by omega, by go_num, rfl, hown2, hB.trans hK⟩, by simp [intOf]; omega⟩
    · obtain rfl : k = n := by omega
      go_wp2
      go_ret
      exact ⟨_, _, rfl, hown, hB⟩
theorem vrun_errL (A : Option Addr) (n c : Nat) (g : Nat → IV) (A2 : Option Addr) (n2 c2 : Nat) (w : World) (y : Nat) (hr : Ins w w.heap.size A n c g) (hy : (checkF g n).2 = y) (he : y ≠ 0) :
    Calls Tryz.prog 10 #[.slice A n c, .slice A2 n2 c2] w fun e w' => e = .returned (.tuple #[.agg #[.int .u32 0, .int .i64 0, .slice none 0 0], .int .i64 (y : Int)]) ∧ Below w.heap.size w w' := by
  subst hy
  exact vrun_err A n c g A2 n2 c2 w hr he
theorem vrun_okS (A : Option Addr) (n c : Nat) (g : Nat → IV) (A2 : Option Addr) (c2 : Nat) (f : Nat → Nat) (w : World) (val : Nat) (sF : VS) (st' : Int) (L' : Nat) (hst : (sF.st : Int) = st') (hL : sF.ld.length = L') (hr : Ins w w.heap.size A n c g) (he : (checkF g n).2 = 0)
    (hby : Byt w w.heap.size A2 64 c2 f) (hf : ∀ i, f i < 256) (hrun : runF g f n zst = some (val, sF)) :
    Calls Tryz.prog 10 #[.slice A n c, .slice A2 64 c2] w fun e w' => ∃ A' c', e = .returned (.tuple #[.agg #[.int .u32 val, .int .i64 st', .slice A' L' c'], .int .i64 0]) ∧ Below w.heap.size w w' := by
  subst hst hL
  exact (vrun_ok A n c g A2 c2 f w val sF hr he hby hf hrun).mono fun _ _ ⟨A', c', he, _, hb⟩ => ⟨A', c', he, hb⟩
theorem topAwake_any (w : World) : Calls Tryz.prog 11 #[] w fun e w' => e = .returned (.bool true) ∧ w = w' := by
  go_enter Tryz.func11, Tryz.ntmps11
  go_wp2_with (go_at_call 26; refine (halves_any _ _ (by omega) (by omega)).mono ?_; rintro e w' ⟨rfl, rfl⟩)
  go_ret
  exact ⟨rfl, rfl⟩
theorem ival_bytes (v : IV) (h : v.ok) (F : Nat → Nat) (hF : ∀ i, i < 8 → F i = ibytes v i) : ival F = v := by
  obtain ⟨h1, h2, h3, h4⟩ := h
  unfold ival
  rw [hF 0 (by decide), hF 1 (by decide), hF 2 (by decide), hF 3 (by decide), hF 4 (by decide), hF 5 (by decide), hF 6 (by decide), hF 7 (by decide)]
  obtain ⟨c, t, f, k⟩ := v
  simp only [ibytes] at *
  simp
  omega
theorem read_write (g : Nat → IV) (n : Nat) (hg : ∀ i, i < n → (g i).ok) (i : Nat) (hi : i < n) : rg (wbytes g) i = g i :=
  ival_bytes (g i) (hg i hi) _ (fun j hj => by unfold wbytes; rw [show (8 * i + j) / 8 = i from by omega, show (8 * i + j) % 8 = j from by omega])
theorem icell_congr (g h : Nat → IV) (n : Nat) (e : ∀ i, i < n → g i = h i) : ∀ j, j < n * 4 → icell g j = icell h j := fun j hj => by
  unfold icell
  rw [e (j / 4) (by omega)]
/-- What is read of the lines of instructions. -/
theorem linesG_in (g : Nat → IV) (n : Nat) : ∀ x ∈ linesG g n, ∀ c ∈ x, c ≠ 10 := fun x hx c hc => by
  unfold linesG at hx
  obtain ⟨i, _, rfl⟩ := List.mem_map.1 hx
  have h := (line_ok _ _ _ _ c hc).1
  rintro rfl
  exact absurd h (by decide)
theorem progL_lines (g : Nat → IV) (n : Nat) (hn : n ≤ 100) (hg : ∀ i, i < n → (g i).ok) (w : World) (he : EnvN w) :
    Calls Tryz.prog 7 #[.string ⟨(joinL (linesG g n)).toArray⟩] w fun e w' => ∃ A c, e = .returned (.tuple #[.slice A n c, .int .i64 0, .int .i64 0]) ∧ Cel w' w'.heap.size 4 A n c (icell g) ∧ Below w.heap.size w w' := by
  have hlen : (linesG g n).length = n := by unfold linesG; simp
  have hacc : accL g (fun i => if i < n then 0 else 4) (n + 1) = (List.range n).map g := by
    rw [accL, if_neg (by rw [if_neg (by omega)]; decide)]
    exact accL_all g _ n fun i hi => by rw [if_pos hi]
  refine (progL_any (linesG g n) (linesG_in g n) (by have := linesG_ok g n n hg (Nat.le_refl _); omega) (fun i => if i < n then g i else ⟨0, 0, 0, 0⟩) (fun i => if i < n then 0 else 4) (n + 1) (by omega) (fun i _ => by by_cases h : i < n <;> simp [h]) (fun h => by omega) w he.r.env fun i hi X hX => ?_).mono ?_
  · rw [hlen] at hi
    by_cases h : i < n
    · rw [if_pos h, if_pos h, pcN_at _ _ (by omega)]
      have e : (linesG g n).getD i [] = lineL (g i).c (g i).t (g i).f (g i).k := by
        unfold linesG
        rw [List.getD_eq_getElem?_getD, List.getElem?_map, List.getElem?_range h]
        rfl
      rw [e]
      obtain ⟨k1, k2, k3, k4⟩ := hg i h
      exact readL_line _ _ _ _ k1 k2 k3 k4 X (envN_on he hX (Nat.le_refl _))
    · obtain rfl : i = n := by omega
      rw [if_neg h, if_neg h]
      have e : pcN (linesG g i) i = [] := by
        have := pcN_last (linesG g i)
        rw [hlen] at this
        exact this
      rw [e]
      exact readL_empty ⟨([] : List UInt8).toArray⟩ (by decide) (by decide) (by decide) X
  · rintro e w' ⟨⟨_, A, c, he, hc⟩ | ⟨h, _⟩, hB⟩
    · have hac2 : accL (fun i => if i < n then g i else ⟨0, 0, 0, 0⟩) (fun i => if i < n then 0 else 4) (n + 1) = (List.range n).map g := by
        rw [accL, if_neg (by rw [if_neg (by omega)]; decide), accL_all _ _ n fun i hi => by rw [if_pos hi]]
        exact List.map_congr_left fun i hi => by rw [if_pos (List.mem_range.1 hi)]
      rw [hac2, List.length_map, List.length_range] at he hc
      exact ⟨A, c, he, hc.congr (icell_gcongr _ g n fun i hi => gOf_map g n i hi), hB⟩
    · omega
set_option maxRecDepth 100000 in
set_option maxHeartbeats 16000000 in
theorem walk_TopTexts {w0 : World} (A : Option Addr) (m c : Nat) (g : Nat → IV) (hr : Ins w0 w0.heap.size A m c g) (f : Nat → Nat) (hf : ∀ i, i < 64 → f i < 256) (he : EnvN w0) :
    Calls Tryz.prog 3 #[.slice A m c, .agg (arrB 64 f)] w0 fun e w' => e = .returned (.bool true) ∧ Below w0.heap.size w0 w' := by
  have hmx := hr.1.le
  unfold maxLen at hmx
  obtain ⟨m1, m2⟩ := hmx
  obtain ⟨D, hD⟩ : ∃ D, arrB 64 f = D := ⟨_, rfl⟩
  have hb0 : Below w0.heap.size w0 (w0.alloc (.cells D 23)) := (Below.refl _ _).alloc (Nat.le_refl _) _
  have ha0 : ArB (w0.alloc (.cells D 23)) w0.heap.size 64 23 f := by rw [← hD]; exact heap_alloc_last w0 _
  have hby0 : Byt (w0.alloc (.cells D 23)) (w0.alloc (.cells D 23)).heap.size (some ⟨w0.heap.size, 0, none⟩) 64 64 (lim f) := byt_lim (ha0.byt (by decide) ha0.lt hf)
  have hin0 : Ins (w0.alloc (.cells D 23)) (w0.alloc (.cells D 23)).heap.size A m c g := (hr.below hb0).more hb0.size
  have hsl := sl_all
  rw [hD]
  by_cases h1 : 100 < m
  · have hbb := Lib.hid hb0
    clear hr hD ha0 hby0 hin0 he
    go_enter Tryz.func3, Tryz.ntmps3
    go_wp2
    go_ret
    exact ⟨rfl, hbb.out⟩
  · have HB0 := Lib.hid hb0
    have HY0 := Lib.hid hby0
    have HI0 := Lib.hid hin0
    have HE := Lib.hid he
    have hOK := Lib.hid hin0.2
    have q8 : 8 * m / 8 = m := by omega
    clear hr hD ha0 hby0 hin0 hb0 he
    go_enter Tryz.func3, Tryz.ntmps3
    go_wp2_with fail
    generalize w0.alloc (.cells D 23) = W1 at *
    refine (allT_any A m c g _ (by omega) HI0.out).mono ?_
    rintro e w2 ⟨A2, c2, rfl, hown2, hB2⟩
    have HB2 := Lib.hid (HB0.out.trans (hB2.mono HB0.out.size))
    have HI2 : Hid (∀ X, Below w2.heap.size w2 X → Ins X X.heap.size A2 m c2 g) := Lib.hid fun X hX => (Ins.below (⟨hown2.cel, hOK.out⟩ : Ins w2 w2.heap.size A2 m c2 g) hX).more hX.size
    have HY2 : Hid (∀ X, Below w2.heap.size w2 X → Byt X X.heap.size (some ⟨w0.heap.size, 0, none⟩) 64 64 (lim f)) := Lib.hid fun X hX => (HY0.out.below (hB2.trans (hX.mono hB2.size))).more ((hB2.trans (hX.mono hB2.size)).size)
    clear hown2 hB2
    go_wp2_with fail
    refine (write_any A2 m c2 g w2 (by omega) (HI2.out w2 (Below.refl _ _))).mono ?_
    rintro e w3 ⟨A3, c3, rfl, hown3, hB3⟩
    have HBY3 := Lib.hid hown3.byt
    have HB3 := Lib.hid hB3
    clear hown3 hB3
    go_wp2_with fail
    refine (read_ok A3 (8 * m) c3 (wbytes g) w3 (by omega) (by omega) HBY3.out).mono ?_
    rw [q8]
    rintro e w4 ⟨A4, c4, rfl, hown4, hB4⟩
    have HB4 := Lib.hid (HB3.out.trans (hB4.mono HB3.out.size))
    have HI4 : Hid (∀ X, Below w4.heap.size w4 X → Ins X X.heap.size A4 m c4 g) := Lib.hid fun X hX => (Ins.below (⟨(hown4.congr (icell_congr _ _ m (read_write g m hOK.out))).cel, hOK.out⟩ : Ins w4 w4.heap.size A4 m c4 g) hX).more hX.size
    clear hown4 hB4 HBY3 HB3
    go_wp2_with fail
    refine (textL_any A2 m c2 g (by omega) w4 (HI2.out w4 HB4.out) (envN_on HE.out (HB2.out.trans (HB4.out.mono HB2.out.size)) (Nat.le_refl _)).r.env).mono ?_
    rintro e w5 ⟨rfl, hB5⟩
    have HB5 := Lib.hid hB5
    clear hB5
    have HPR := Lib.hid (progL_lines g m (by omega) hOK.out w5 (envN_on HE.out (HB2.out.trans ((HB4.out.trans (HB5.out.mono HB4.out.size)).mono HB2.out.size)) (Nat.le_refl _)))
    obtain ⟨TX, hTX⟩ : ∃ TX : ByteArray, (⟨(joinL (linesG g m)).toArray⟩ : ByteArray) = TX := ⟨_, rfl⟩
    rw [hTX] at HPR ⊢
    clear hTX
    go_wp2_with fail
    refine HPR.out.mono ?_
    rintro e w6 ⟨A6, c6, rfl, hc6, hB6⟩
    have HB6 := Lib.hid (HB5.out.trans (hB6.mono HB5.out.size))
    have HB26 := Lib.hid (HB4.out.trans (HB6.out.mono HB4.out.size))
    have HI6 : Hid (∀ X, Below w6.heap.size w6 X → Ins X X.heap.size A6 m c6 g) := Lib.hid fun X hX => (Ins.below (⟨hc6, hOK.out⟩ : Ins w6 w6.heap.size A6 m c6 g) hX).more hX.size
    clear hc6 hB6 HPR HB5
    have HCK := Lib.hid fun (B : Option Addr) (d : Nat) (W : World) (h : Ins W W.heap.size B m d g) => check_any B m d g W h
    have HVR : Hid (∃ (val S1 L1 : Nat) (y : Nat), (checkF g m).2 = y ∧ ∀ (B : Option Addr) (d : Nat) (W : World), Ins W W.heap.size B m d g → Byt W W.heap.size (some ⟨w0.heap.size, 0, none⟩) 64 64 (lim f) → Calls Tryz.prog 10 #[.slice B m d, .slice (some ⟨w0.heap.size, 0, none⟩) 64 64] W fun e w' => ∃ A' c', e = .returned (.tuple #[.agg #[.int .u32 val, .int .i64 S1, .slice A' L1 c'], .int .i64 (y : Int)]) ∧ Below W.heap.size W w') := Lib.hid (by
      by_cases hce : (checkF g m).2 = 0
      · obtain ⟨c1, c2', c3, c4⟩ := checkF_facts hce
        obtain ⟨val, sF, hrun⟩ := run_total (lim f) g m c3 c4 m zst c1 (by show m - 0 ≤ m; omega)
        refine ⟨val, sF.st, sF.ld.length, 0, hce, fun B d W h1 h2 => ?_⟩
        exact vrun_okS B m d g _ 64 (lim f) W val sF (sF.st : Int) sF.ld.length rfl rfl h1 hce h2 (lim_lt f hf) hrun
      · refine ⟨0, 0, 0, (checkF g m).2, rfl, fun B d W h1 _ => ?_⟩
        exact (vrun_errL B m d g _ 64 64 W _ h1 rfl hce).mono fun _ _ ⟨h1, h2⟩ => ⟨none, 0, h1, h2⟩)
    obtain ⟨val, S1, L1, y, hy, hvr⟩ := HVR.out
    have HVN := Lib.hid hvr
    rw [hy] at HCK
    obtain ⟨ci, hci⟩ : ∃ x, (checkF g m).1 = x := ⟨_, rfl⟩
    rw [hci] at HCK
    clear hy hci hvr HVR
    go_wp2_with fail
    refine (HCK.out A2 c2 w6 (HI2.out w6 HB26.out)).mono ?_
    rintro e w7 ⟨rfl, hB7⟩
    have HB7 := Lib.hid hB7
    clear hB7
    go_wp2_with fail
    refine (HCK.out A6 c6 w7 (HI6.out w7 HB7.out)).mono ?_
    rintro e w8 ⟨rfl, hB8⟩
    have HB8 := Lib.hid (HB7.out.trans (hB8.mono HB7.out.size))
    clear hB8 HB7
    have HX8 := Lib.hid (HVN.out A4 c4 w8 (HI4.out w8 (HB6.out.trans (HB8.out.mono HB6.out.size))) (HY2.out w8 (HB26.out.trans (HB8.out.mono HB26.out.size))))
    go_wp2_with fail
    refine HX8.out.mono ?_
    rintro e w9 ⟨A9, c9, rfl, hB9⟩
    obtain ⟨W9, hW9⟩ : ∃ X, w9.alloc (.cells #[.int .u32 val, .int .i64 S1, .slice A9 L1 c9] 39) = X := ⟨_, rfl⟩
    have hb9 : Below w9.heap.size w9 W9 := by rw [← hW9]; exact (Below.refl _ _).alloc (Nat.le_refl _) _
    have r9 : RowC W9 w9.heap.size #[.int .u32 val, .int .i64 S1, .slice A9 L1 c9] 39 := by rw [← hW9]; exact RowC.new _ _ _ _ rfl
    have hb69 := HB8.out.trans ((hB9.trans (hb9.mono hB9.size)).mono HB8.out.size)
    have HB9 := Lib.hid hb69
    have HR9 := Lib.hid r9
    have HW9 := Lib.hid hW9
    clear hB9 hb9 r9 hb69 hW9 HX8
    go_upto_region 11 with fail
    rw [HW9.out]
    clear HW9
    have HX9 := Lib.hid (HVN.out A6 c6 W9 (HI6.out W9 HB9.out) (HY2.out W9 (HB26.out.trans (HB9.out.mono HB26.out.size))))
    go_wp2_with fail
    refine HX9.out.mono ?_
    rintro e w10 ⟨A10, c10, rfl, hB10⟩
    obtain ⟨W10, hW10⟩ : ∃ X, w10.alloc (.cells #[.int .u32 val, .int .i64 S1, .slice A10 L1 c10] 39) = X := ⟨_, rfl⟩
    have hb10 : Below w10.heap.size w10 W10 := by rw [← hW10]; exact (Below.refl _ _).alloc (Nat.le_refl _) _
    have r10 : RowC W10 w10.heap.size #[.int .u32 val, .int .i64 S1, .slice A10 L1 c10] 39 := by rw [← hW10]; exact RowC.new _ _ _ _ rfl
    have hbx := hB10.trans (hb10.mono hB10.size)
    have HR9b := Lib.hid (HR9.out.below hbx HR9.out.lt)
    have h26 := HB26.out.trans ((HB9.out.trans (hbx.mono HB9.out.size)).mono HB26.out.size)
    have HBF := Lib.hid (HB2.out.trans (h26.mono HB2.out.size))
    have HR10 := Lib.hid r10
    have HW10 := Lib.hid hW10
    clear hB10 hb10 r10 hbx h26 hW10 HX9
    go_upto_region 12 with fail
    rw [HW10.out]
    have k0 := HR9b.out.cell 0 _ rfl
    have k1 := HR9b.out.cell 1 _ rfl
    have l0 := HR10.out.cell 0 _ rfl
    have l1 := HR10.out.cell 1 _ rfl
    clear HW10
    go_wp2_with (go_at_call 11; refine (topAwake_any _).mono ?_; rintro e w11 ⟨rfl, rfl⟩)
    go_ret
    exact ⟨rfl, HBF.out⟩
theorem space_datum : (Rows.laid_strings_asciiSpace : DataW Unit) = Lib.tabData .u8 Lib.asciiSpaceTab := by kernel_rfl
theorem starE : "*" ++ "errors.errorString" = "*errors.errorString" := by decide
theorem rowE (u : TypeId) (h : Tryz.prog.typeName? 3 u = some "*errors.errorString") : u = 223 :=
  typeName_ptr_named (nm := "errors.errorString") (by rw [starE]; kernel_rfl) (by kernel_rfl) (by decide) u (by rw [starE]; exact h)
theorem of_laid {W : World} (h : laidMetH Tryz.prog Rows.topTextsRow.laid W) (hSh : W.ShapedOpen Tryz.prog) : EnvN W := by
  rw [MakeChecks.laidMetH_plain _ _ _ (by kernel_rfl)] at h
  have h3 := h.tail.tail.tail.tail
  have h4 := h.tail.tail.tail.tail.tail
  have h7 := h.tail.tail.tail.tail.tail.tail.tail
  rw [space_datum] at h7
  obtain ⟨x, sx, hx, _, _, _⟩ := laid_sentinel (g := 7) (ti := 58) (tp := 223) (te := 225) (ts := 9) h3 (by kernel_rfl) (by kernel_rfl) Tryz.underlying58 rowE Tryz.underlying223 Tryz.underlying225 rfl rfl Tryz.underlying9 (by kernel_rfl) (by kernel_rfl)
  obtain ⟨y, sy, hy, _, _, _⟩ := laid_sentinel (g := 6) (ti := 58) (tp := 223) (te := 225) (ts := 9) h4 (by kernel_rfl) (by kernel_rfl) Tryz.underlying58 rowE Tryz.underlying223 Tryz.underlying225 rfl rfl Tryz.underlying9 (by kernel_rfl) (by kernel_rfl)
  exact ⟨⟨env_of (tab_of_third h) hSh, Lib.tabIs_of_head (t := 166) (e := 5) (n := 256) (g := 1) (by kernel_rfl) (by kernel_rfl) Tryz.underlying166 Tryz.underlying5 (by kernel_rfl) (by kernel_rfl) h7⟩, ⟨_, _, hy⟩, ⟨_, _, hx⟩⟩

namespace topTextsRow
open Go.ChangeShapes Go.WideShapes Go.ChangeAt Go.RowKit Go.Joins
open Go.ChangeMaps (open_string shut_string)
set_option linter.unusedVariables false
theorem own : ownKnob Tryz.prog.godebug = none := by kernel_rfl
theorem laidOut : laidOutB Tryz.prog = true := by kernel_rfl
set_option maxRecDepth 100000 in
theorem lifted (os : Os) (started : os.Started) (H : Type) (enc : TypeId × Value → H) :
    ReturnsInHanded {} Tryz.checked os 3 .any (fun w args => (Rows.topTextsSpec.pre enc Tryz.prog Tryz.f3 [] false w args ∧ laidMetH Tryz.prog Rows.topTextsRow.laid w) ∧ sizedMet enc Tryz.prog Tryz.f3 (OpenSpec.ofChange Rows.topTextsSpec) false w args) (Rows.topTextsSpec.post enc Tryz.prog Tryz.f3 false true false false) := by
  refine returnsInHanded_and_shaped (C := Tryz.checked) (X := fun w _ => laidMetH Tryz.prog Rows.topTextsRow.laid w) (fun _ _ _ hh h => h.of_heap hh) own started (by kernel_rfl) Tryz.func3
    (ChangeSpec.witness_shaped (enc := enc) (C := Tryz.checked) (os := os) (X := fun w _ => laidMetH Tryz.prog Rows.topTextsRow.laid w) false (World.laidAll Tryz.prog os Rows.topTextsRow.laid) #[.slice none 0 0, .agg #[.int .u8 0, .int .u8 0, .int .u8 0, .int .u8 0, .int .u8 0, .int .u8 0, .int .u8 0, .int .u8 0, .int .u8 0, .int .u8 0, .int .u8 0, .int .u8 0, .int .u8 0, .int .u8 0, .int .u8 0, .int .u8 0, .int .u8 0, .int .u8 0, .int .u8 0, .int .u8 0, .int .u8 0, .int .u8 0, .int .u8 0, .int .u8 0, .int .u8 0, .int .u8 0, .int .u8 0, .int .u8 0, .int .u8 0, .int .u8 0, .int .u8 0, .int .u8 0, .int .u8 0, .int .u8 0, .int .u8 0, .int .u8 0, .int .u8 0, .int .u8 0, .int .u8 0, .int .u8 0, .int .u8 0, .int .u8 0, .int .u8 0, .int .u8 0, .int .u8 0, .int .u8 0, .int .u8 0, .int .u8 0, .int .u8 0, .int .u8 0, .int .u8 0, .int .u8 0, .int .u8 0, .int .u8 0, .int .u8 0, .int .u8 0, .int .u8 0, .int .u8 0, .int .u8 0, .int .u8 0, .int .u8 0, .int .u8 0, .int .u8 0, .int .u8 0]] 8 (World.laidAll_os _ _ _) (World.shaped_of_ZipB (by kernel_rfl) (by kernel_rfl)) (by kernel_rfl) (by kernel_rfl) (by kernel_rfl) (by rw [MakeChecks.laidMetH_plain _ _ _ (by kernel_rfl)]; exact laidMet_laidAll _ (by kernel_rfl) (by kernel_rfl))) ?_
  intro W base args ds gs before hval0 hW _ _ hL hSh _
  have hval : ∀ (j : Nat) t v, Tryz.f3.params[j]? = some t → args[j]? = some v → Value.okWide Tryz.prog W .any base t v := hval0
  have hW' := hW
  obtain ⟨p, q, hA0, hV, rfl, hfz, hnd⟩ := hW
  have hA : DataW.TrodAll enc Tryz.prog W 0 (fun _ => true) true Tryz.f3.params.toList args.toList ds p := hA0
  rw [Tryz.params3] at hA hval
  obtain ⟨v0, vs0, d0, ds0, p0, q0, hargs, rfl, rfl, h0, r0⟩ := trodAll_cons hA
  obtain ⟨v1, vs1, d1, ds1, p1, q1, rfl, rfl, rfl, h1, r1⟩ := trodAll_cons r0
  obtain ⟨rfl, rfl, rfl⟩ := trodAll_nil r1
  obtain rfl : args = #[v0, v1] := by cases args; simp_all
  obtain ⟨rfl, rfl⟩ := trodVars_none hV
  have k0 := h0
  have lt0 : ∀ x ∈ p0, x.block < W.heap.size := by obtain ⟨m, hm⟩ := k0; exact DataW.trod_lt m _ _ _ hm
  have k1 := h1
  have lt1 : ∀ x ∈ p1, x.block < W.heap.size := by obtain ⟨m, hm⟩ := k1; exact DataW.trod_lt m _ _ _ hm
  obtain ⟨a0, len0, cap0, rfl⟩ := okWide_slice Tryz.underlying22 (hval 0 22 v0 rfl rfl)
  obtain ⟨g0, w0⟩ := open_ins h0
  obtain ⟨f1, rfl, w1⟩ := open_arrB (hval 1 23 v1 rfl rfl) h1
  clear hA0 hval0
  refine (walk_TopTexts (w0 := W) a0 len0 cap0 g0 w0 f1 w1 (of_laid hL hSh)).mono fun e W' ⟨he, bel⟩ => ?_
  subst he
  exact ⟨_, rfl, _, _, _, [], _, [], hW', trodAll_mk1 (shut_bool Tryz.underlying4 _), (trodAll_cons_mk (Below.trod laidOut (by kernel_rfl) (of_decide_eq_true (by kernel_rfl)) k0 bel lt0) (trodAll_cons_mk (Below.trod laidOut (by kernel_rfl) (of_decide_eq_true (by kernel_rfl)) k1 bel lt1) trodAll_mk0)), rfl, bel.frame _, fun h => by cases h⟩

theorem over : Rows.topTextsRow.holds Tryz.pinned (OpenSpec.ofChange Rows.topTextsSpec) :=
  OpenClaim.holds_of_wide 3 Tryz.f3 rfl rfl rfl rfl rfl rfl rfl ⟨rfl, rfl, rfl, rfl, rfl⟩ rfl rfl rfl rfl rfl (by kernel_rfl) Tryz.func3 (by kernel_rfl)
    (of_decide_eq_true (by kernel_rfl)) (by unfold Func.isWrapper; first | (rw [if_pos (by decide +kernel)]; kernel_rfl) | (rw [if_neg (by decide +kernel)]; exact ⟨rfl, rfl⟩))
    (fun os started H enc _ => lifted os started H enc)
end topTextsRow

theorem topTexts_proved : Rows.TopTextsCardSaid :=
  Claim7.holds_tied_plain_at .later [] [.data, .data, .data, .data, .sentinel, .sentinel, .listed, .data, .pinned] true Rows.topTextsCard.stood.harness true
    topTextsRow.over (fun _ h => by cases h) (by kernel_rfl) (fun _ h => by cases h) topTexts_row_tie rfl ⟨rfl, rfl⟩ (by kernel_rfl) rfl
    (fun f fn hf hfn => by
      obtain rfl : f = 3 := Option.some.inj ((show Tryz.prog.funcNamed "strainer/strainertop.TopTexts" = some 3 by kernel_rfl).symm.trans hf) |>.symm
      obtain rfl : fn = Tryz.f3 := (Option.some.inj (Tryz.func3.symm.trans hfn)).symm
      exact ⟨by kernel_rfl, fun j t ht => by
        rw [Tryz.params3] at ht
        have hall : ∀ t ∈ [22, 23], Tryz.prog.wantsStandIn t = false := by
          intro t ht
          simp only [List.mem_cons, List.not_mem_nil, or_false] at ht
          rcases ht with rfl | rfl <;> kernel_rfl
        exact hall t (by simpa using Array.mem_of_getElem? ht)⟩)
    (by kernel_rfl)
#print axioms topTexts_proved
end Go.Proofs.YtilelhhnbbjaaaaGreatDoor
