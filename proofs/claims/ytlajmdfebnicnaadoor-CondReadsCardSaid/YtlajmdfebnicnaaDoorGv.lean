/-
  strconv.ParseUint at base 16, of every text: a number, or an error.
-/
import Derived.Test.YtlajmdfebnicnaaDoorGt
import Derived.Test.YtlajmdfebnicnaaDoorGu
namespace Go.Proofs.YtlajmdfebnicnaaDoor
open Go.Shelf Go.RowKit Go.Sort Go.Lib
set_option linter.unusedVariables false

/-- The two listed errors are there. -/
abbrev ErrC (w : World) : Prop := (∃ tp p, w.var? Tryd.prog "strconv.ErrSyntax" = some #[.iface tp p]) ∧ (∃ tp p, w.var? Tryd.prog "strconv.ErrRange" = some #[.iface tp p])
theorem varC_on {n : String} {w w' : World} {B : Nat} {cs : Array Value} (h : w.var? Tryd.prog n = some cs) (hb : Below B w w') (hB : w.heap.size ≤ B) : w'.var? Tryd.prog n = some cs := by
  cases hg : Tryd.prog.globalNamed n with
  | none => simp [World.var?, hg] at h
  | some g =>
    have hlt : g < w.heap.size := by
      unfold World.var? at h
      rw [hg] at h
      simp only [Option.bind_some] at h
      rcases Nat.lt_or_ge g w.heap.size with h' | h'
      · exact h'
      · rw [Array.getElem?_eq_none h'] at h; simp at h
    exact var?_below hb hg (by omega) h
theorem errC_on {w w' : World} {B : Nat} (h : ErrC w) (hb : Below B w w') (hB : w.heap.size ≤ B) : ErrC w' := by
  obtain ⟨⟨t1, p1, h1⟩, ⟨t2, p2, h2⟩⟩ := h
  exact ⟨⟨t1, p1, varC_on h1 hb hB⟩, ⟨t2, p2, varC_on h2 hb hB⟩⟩
theorem toErr_syn (fn s : ByteArray) (hs : s.size ≤ 281474976710656) (w : World) (hv : ErrC w) : Calls Tryd.prog 24 #[.string fn, .string s, .int .i64 16, .int .i64 64, .iface 71 (.int .i64 2)] w fun e w' => (∃ t p, e = .returned (.iface t p)) ∧ Below w.heap.size w w' := by
  obtain ⟨⟨t1, p1, h1⟩, _⟩ := hv
  have hc := World.var?_cell (show Tryd.prog.globalNamed "strconv.ErrSyntax" = some 0 by kernel_rfl) h1 0
  refine (AnyPu.strconv_toError_syntax { Tryd.laysPu14 with } fn s 16 64 (.iface t1 p1) w hs hc (.inr ⟨_, _, rfl⟩)).mono ?_
  rintro e w' ⟨N, he, _, _, hB⟩
  exact ⟨⟨_, _, he⟩, hB⟩
theorem toErr_rng (fn s : ByteArray) (hs : s.size ≤ 281474976710656) (w : World) (hv : ErrC w) : Calls Tryd.prog 24 #[.string fn, .string s, .int .i64 16, .int .i64 64, .iface 71 (.int .i64 1)] w fun e w' => (∃ t p, e = .returned (.iface t p)) ∧ Below w.heap.size w w' := by
  obtain ⟨_, ⟨t1, p1, h1⟩⟩ := hv
  have hc := World.var?_cell (show Tryd.prog.globalNamed "strconv.ErrRange" = some 1 by kernel_rfl) h1 0
  refine (AnyPu.strconv_toError_range { Tryd.laysPu14 with } fn s 16 64 (.iface t1 p1) w hs hc (.inr ⟨_, _, rfl⟩)).mono ?_
  rintro e w' ⟨N, he, _, _, hB⟩
  exact ⟨⟨_, _, he⟩, hB⟩
set_option maxHeartbeats 2000000 in
theorem parse16_bad (s : ByteArray) (hne : s.size ≠ 0) (hs : s.size ≤ 60) (h : ∀ u, pu16 0 s.data.toList ≠ .ok u) (w : World) (hv : ErrC w) :
    Calls Tryd.prog 16 #[.string s, .int .i64 16, .int .i64 64] w fun e w' => (∃ x t p, e = .returned (.tuple #[.int .u64 x, .iface t p])) ∧ Below w.heap.size w w' := by
  have HI := iparse16_all s hne (by omega) w
  have HV := Lib.hid hv
  clear hv
  cases hp : pu16 0 s.data.toList with
  | ok u => exact absurd hp (h u)
  | «syntax» =>
    rw [hp] at HI
    have HF := Lib.hid HI
    clear HI h hp
    go_enter Tryd.func16, Tryd.ntmps16
    go_wp2_with fail
    refine HF.out.mono ?_
    rintro e w1 ⟨he, hB1⟩
    replace he : e = .returned (.tuple #[.int .u64 0, .iface 71 (.int .i64 2)]) := he
    subst he
    have HV1 := Lib.hid (errC_on HV.out hB1 (Nat.le_refl _))
    have HB1 := Lib.hid hB1
    clear hB1
    go_wp2_with (go_at_call 24; refine (toErr_syn _ _ (by omega) _ HV1.out).mono ?_; rintro e w2 ⟨⟨t, p, rfl⟩, hB2⟩)
    go_ret2
    exact ⟨⟨_, _, _, rfl⟩, HB1.out.trans (hB2.mono HB1.out.size)⟩
  | range =>
    rw [hp] at HI
    have HF := Lib.hid HI
    clear HI h hp
    go_enter Tryd.func16, Tryd.ntmps16
    go_wp2_with fail
    refine HF.out.mono ?_
    rintro e w1 ⟨he, hB1⟩
    replace he : e = .returned (.tuple #[.int .u64 18446744073709551615, .iface 71 (.int .i64 1)]) := he
    subst he
    have HV1 := Lib.hid (errC_on HV.out hB1 (Nat.le_refl _))
    have HB1 := Lib.hid hB1
    clear hB1
    go_wp2_with (go_at_call 24; refine (toErr_rng _ _ (by omega) _ HV1.out).mono ?_; rintro e w2 ⟨⟨t, p, rfl⟩, hB2⟩)
    go_ret2
    exact ⟨⟨_, _, _, rfl⟩, HB1.out.trans (hB2.mono HB1.out.size)⟩
end Go.Proofs.YtlajmdfebnicnaaDoor
