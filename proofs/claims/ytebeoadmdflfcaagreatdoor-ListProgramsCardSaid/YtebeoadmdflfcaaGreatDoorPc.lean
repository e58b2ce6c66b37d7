/-
  The contracts of layer 3's telling: the place of a code, whether a pattern tells all, a pattern filled; list.Line.
-/
import Derived.Test.YtebeoadmdflfcaaGreatDoorPb
import Derived.Test.YtebeoadmdflfcaaGreatDoorGf
import Derived.Test.YtebeoadmdflfcaaGreatDoorTab
import Derived.Deep.Cut
import Derived.Deep.CutRange
import Derived.RegionTactic
import Derived.Deep.RegionWith
import Derived.Deep.QuietTactic
import Derived.BigQuiet
namespace Go.Proofs.YtebeoadmdflfcaaGreatDoor
open Go.RowKit Go.Shelf
set_option linter.unusedVariables false

/-- What is wanted of memory. -/
structure EnvL (w : World) : Prop where
  tab : TabP w
  max : ∃ m, w.cell? ⟨1, 0, none⟩ = some (.int .i64 m)
theorem env_on {w w' : World} {B : Nat} (h : EnvL w) (hb : Below B w w') (hB : w.heap.size ≤ B) : EnvL w' := by
  obtain ⟨m, hm⟩ := h.max
  refine ⟨tab_on h.tab hb hB, m, (hb.cell (p := ⟨1, 0, none⟩) ?_).trans hm⟩
  have := World.block_lt_of_cell? _ _ hm
  exact Nat.lt_of_lt_of_le this hB
/-- All blocks but one stay. -/
structure ButL (b : Nat) (w w' : World) : Prop where
  os : w'.os = w.os
  tape : w'.tape = w.tape
  output : w'.output = w.output
  size : w.heap.size ≤ w'.heap.size
  block : ∀ k, k < w.heap.size → k ≠ b → w'.heap[k]? = w.heap[k]?
theorem ButL.of {b : Nat} {w w' : World} (h : Below w.heap.size w w') : ButL b w w' := ⟨h.os, h.tape, h.output, h.size, fun k hk _ => h.block k hk⟩
theorem ButL.trans {b : Nat} {w w' w'' : World} (h : ButL b w w') (h2 : ButL b w' w'') : ButL b w w'' := ⟨h2.os.trans h.os, h2.tape.trans h.tape, h2.output.trans h.output, Nat.le_trans h.size h2.size, fun k hk hn => (h2.block k (Nat.lt_of_lt_of_le hk h.size) hn).trans (h.block k hk hn)⟩
theorem ButL.set {b : Nat} {w w' : World} (h : ButL b w w') (i : Nat) (v : Value) : ButL b w (w'.setCell ⟨b, i, none⟩ v) :=
  ⟨h.os, h.tape, h.output, by simpa [World.setCell] using h.size, fun k hk hn => (Below.heap_setCell w' ⟨b, i, none⟩ v k (by show k ≠ b; exact hn)).trans (h.block k hk hn)⟩
theorem ButL.below {b B : Nat} {w w' : World} (h : ButL b w w') (hB : B ≤ w.heap.size) (hb : B ≤ b) : Below B w w' := ⟨h.os, h.tape, h.output, h.size, fun k hk => h.block k (by omega) (by omega)⟩
theorem ButL.row {b g : Nat} {w w' : World} {cs : Array Value} {T : TypeId} (h : ButL b w w') (hr : RowC w g cs T) (hn : g ≠ b) : RowC w' g cs T := (h.block g hr.lt hn).trans hr
theorem toListL_ne {a b : ByteArray} (h : a ≠ b) : (a.toList == b.toList) = false := Bool.eq_false_iff.2 fun h2 => h (ByteArray.ext (Array.toList_inj.1 (by have := eq_of_beq h2; rw [Lib.toList_data, Lib.toList_data] at this; exact this)))
theorem indexByte_has (c : UInt8) : ∀ l : List UInt8, decide (0 ≤ Lib.indexByte l c) = l.contains c := by
  intro l
  rw [← Lib.index_one]
  rcases Lib.index_spec l [c] with ⟨h1, h2⟩ | ⟨i, h1, h2, h3, h4⟩
  · rw [h1]
    cases hc : l.contains c
    · rfl
    · exfalso
      have hm := List.contains_iff_mem.1 hc
      obtain ⟨k, hk, he⟩ := List.getElem_of_mem hm
      have := h2 k (by omega)
      unfold Lib.occAt at this
      rw [List.drop_eq_getElem_cons hk, he] at this
      simp [List.isPrefixOf] at this
  · rw [h1]
    have : l.contains c = true := by
      unfold Lib.occAt at h3
      refine List.contains_iff_mem.2 ?_
      have hlt : i < l.length := by
        rcases Nat.lt_or_ge i l.length with h | h
        · exact h
        · rw [List.drop_eq_nil_of_le h] at h3; simp [List.isPrefixOf] at h3
      rw [List.drop_eq_getElem_cons hlt] at h3
      simp [List.isPrefixOf] at h3
      rw [h3]
      exact List.getElem_mem _
    rw [this]
    exact decide_eq_true (by omega)
set_option maxHeartbeats 4000000 in
/-- The question for a code. -/
theorem line1_any (x c : Nat) (s : ByteArray) (b : Nat) (w : World) (h : w.cell? ⟨b, 0, none⟩ = some (.int .u16 c)) :
    Calls Tryz.prog 23 #[.agg #[.int .u16 x, .string s], .pointer (some ⟨b, 0, none⟩)] w fun e w' => e = .returned (.bool (decide (x = c))) ∧ Below w.heap.size w w' := by
  have hlt : b < w.heap.size := World.block_lt_of_cell? _ _ h
  obtain ⟨W0, hW0⟩ : ∃ W, w.alloc (.cells #[.int .u16 x, .string s] 56) = W := ⟨_, rfl⟩
  have hb0 : Below w.heap.size w W0 := by rw [← hW0]; exact (Below.refl _ _).alloc (Nat.le_refl _) _
  have r0 : RowC W0 w.heap.size #[.int .u16 x, .string s] 56 := by rw [← hW0]; exact RowC.new _ _ _ _ rfl
  have k0 := r0.cell 0 (.int .u16 x) rfl
  have k1 := (hb0.cell (p := ⟨b, 0, none⟩) hlt).trans h
  have e : ((x : Int) == (c : Int)) = decide (x = c) := by
    by_cases hx : x = c
    · subst hx; simp
    · rw [decide_eq_false hx]; exact beq_eq_false_iff_ne.2 (by omega)
  have HB := Lib.hid hb0
  have HW := Lib.hid hW0
  have HE := Lib.hid e
  clear hb0 hW0 r0 h e
  go_enter Tryz.func23, Tryz.ntmps23
  go_upto_region 1 with fail
  rw [HW.out]
  go_wp2
  go_ret
  exact ⟨by rw [← HE.out]; rfl, HB.out⟩
def outI (o : Option Nat) : Int := match o with | some j => (j : Int) | none => -1
set_option maxHeartbeats 4000000 in
set_option maxRecDepth 100000 in
theorem idx_any (c : Nat) (b T : Nat) (w : World) (h : w.cell? ⟨b, 0, none⟩ = some (.int .u16 c)) (hT : FmP w T) :
    Calls Tryz.prog 22 #[.slice (some ⟨T, 0, none⟩) 41 41, .func (.func 23) #[] #[.pointer (some ⟨b, 0, none⟩)]] w fun e w' => e = .returned (.int .i64 (outI (atP c 41))) ∧ Below w.heap.size w w' := by
  have hlt : b < w.heap.size := World.block_lt_of_cell? _ _ h
  have HL := Lib.hid hlt
  have HC := Lib.hid h
  have HT := Lib.hid hT
  clear h hT hlt
  go_enter Tryz.func22, Tryz.ntmps22
  go_wp2_with fail
  go_loopw [8] (fun i wr => ∃ q : Nat, q ≤ 41 ∧ i = .int .i64 q ∧ Hid (atP c q = none) ∧ Below w.heap.size w wr) (fun i _ => 41 - (intOf i).toNat)
  case atStart => exact ⟨0, by omega, rfl, Lib.hid rfl, Below.refl _ _⟩
  case round =>
    obtain ⟨q, hq, rfl, HQ, hB⟩ := hrel
    by_cases hlt : q < 41
    · obtain ⟨k0, k1⟩ := (HT.out.below hB) q hlt
      have hcc := (hB.cell (p := ⟨b, 0, none⟩) HL.out).trans HC.out
      have HF := Lib.hid (line1_any (codeP q) c ⟨(patP q).toArray⟩ b wr hcc)
      obtain ⟨x, hx⟩ : ∃ x, codeP q = x := ⟨_, rfl⟩
      obtain ⟨p, hp⟩ : ∃ p : ByteArray, (⟨(patP q).toArray⟩ : ByteArray) = p := ⟨_, rfl⟩
      have HX := Lib.hid hx
      rw [hx, hp] at HF
      rw [hx] at k0
      rw [hp] at k1
      have g1 : (q : Int) < 41 := by omega
      have g2 : (0 : Int) ≤ (q : Int) := by omega
      have m0 : wr.cell? ⟨T, q * 2, none⟩ = some (.int .u16 x) := by rw [Nat.mul_comm]; exact k0
      have m1 : wr.cell? ⟨T, q * 2 + 1, none⟩ = some (.string p) := by rw [Nat.mul_comm q 2]; exact k1
      have HB := Lib.hid hB
      clear hx hp hcc hB
      by_cases he : x = c
      · have HD : Hid (decide (x = c) = true) := Lib.hid (decide_eq_true he)
        rw [HD.out] at HF
        have HR : Hid (atP c 41 = some q) := Lib.hid (by
          have : ∀ n, q < n → atP c n = some q := by
            intro n
            induction n with
            | zero => intro h; omega
            | succ n ih =>
              intro h
              rw [atP]
              rcases Nat.lt_succ_iff_lt_or_eq.1 h with h | rfl
              · rw [ih h]
              · rw [HQ.out]
                simp only
                rw [if_pos (by rw [HX.out]; exact he)]
          exact this 41 hlt)
        clear k0 k1 he
        go_wp2_with (go_at_call 23; refine HF.out.mono ?_; rintro e w2 ⟨rfl, hB2⟩)
        go_ret
        exact ⟨by rw [HR.out]; rfl, HB.out.trans (hB2.mono HB.out.size)⟩
      · have HD : Hid (decide (x = c) = false) := Lib.hid (decide_eq_false he)
        rw [HD.out] at HF
        have HR : Hid (atP c (q + 1) = none) := Lib.hid (by rw [atP, HQ.out]; simp only; rw [if_neg (by rw [HX.out]; exact he)])
        clear k0 k1 he
        go_wp2_with (go_at_call 23; refine HF.out.mono ?_; rintro e w2 ⟨rfl, hB2⟩)
        exact ⟨⟨q + 1, by omega, by go_num, HR, HB.out.trans (hB2.mono HB.out.size)⟩, by simp [intOf]; omega⟩
    · obtain rfl : q = 41 := by omega
      go_wp2
      go_ret
      exact ⟨by rw [HQ.out]; rfl, hB⟩

set_option maxHeartbeats 4000000 in
/-- Does a pattern tell a number? -/
theorem told_any (m : UInt8) (n : Nat) (hn : n < 4294967296) (p : List UInt8) (b : Nat) (w : World) (h : w.cell? ⟨b, 0, none⟩ = some (.string ⟨p.toArray⟩)) :
    Calls Tryz.prog 39 #[.string ⟨#[m]⟩, .int .u32 n, .pointer (some ⟨b, 0, none⟩)] w fun e w' => e = .returned (.bool (n == 0 || p.contains m)) ∧ w' = w := by
  have HC := Lib.hid (Tryz.strings_Contains_one ⟨p.toArray⟩ m w)
  rw [show (⟨p.toArray⟩ : ByteArray).data.toList = p from rfl, indexByte_has] at HC
  obtain ⟨q, hq⟩ : ∃ q, p.contains m = q := ⟨_, rfl⟩
  rw [hq] at HC ⊢
  clear hq
  by_cases h0 : n = 0
  · subst h0
    go_enter Tryz.func39, Tryz.ntmps39
    go_wp2
    go_ret
    exact ⟨rfl, rfl⟩
  · have t1 : ((n : Int) == 0) = false := beq_eq_false_iff_ne.2 (by omega)
    have t2 : (n == 0) = false := beq_eq_false_iff_ne.2 h0
    have T2 := Lib.hid t2
    clear t2 h0
    go_enter Tryz.func39, Tryz.ntmps39
    go_wp2_with (go_at_call 40; refine HC.out.mono ?_; rintro e w2 ⟨rfl, rfl⟩)
    go_ret
    exact ⟨by rw [T2.out]; rfl, rfl⟩
abbrev instA (c t f k : Nat) : Array Value := #[.int .u16 c, .int .u8 t, .int .u8 f, .int .u32 k]
set_option maxHeartbeats 8000000 in
theorem whole_any (p : List UInt8) (c t f k : Nat) (ht : t < 256) (hf : f < 256) (hk : k < 4294967296) (w : World) :
    Calls Tryz.prog 24 #[.string ⟨p.toArray⟩, .agg (instA c t f k)] w fun e w' => e = .returned (.bool (wholeP p t f k)) ∧ Below w.heap.size w w' := by
  obtain ⟨W0, hW0⟩ : ∃ W, (w.alloc (.cells #[.string ⟨p.toArray⟩] 9)).alloc (.cells (instA c t f k) 25) = W := ⟨_, rfl⟩
  have hb0 : Below w.heap.size w W0 := by rw [← hW0]; exact ((Below.refl _ _).alloc (Nat.le_refl _) _).alloc (by simp) _
  have r0 : RowC W0 w.heap.size #[.string ⟨p.toArray⟩] 9 := by rw [← hW0]; exact (RowC.new _ _ _ _ rfl).alloc _
  have r1 : RowC W0 (w.heap.size + 1) (instA c t f k) 25 := by rw [← hW0]; exact RowC.new _ _ _ _ (by simp)
  have k1 := r1.cell 1 (.int .u8 t) rfl
  have k2 := r1.cell 2 (.int .u8 f) rfl
  have k3 := r1.cell 3 (.int .u32 k) rfl
  have H84 := Lib.hid (told_any 84 t (by omega) p w.heap.size W0 (r0.cell 0 _ rfl))
  have H70 := Lib.hid (told_any 70 f (by omega) p w.heap.size W0 (r0.cell 0 _ rfl))
  have H75 := Lib.hid (told_any 75 k (by omega) p w.heap.size W0 (r0.cell 0 _ rfl))
  have v1 : IntKind.u32.wrap (t : Int) = (t : Int) := IntWalk.u32_in _ (by omega)
  have v2 : IntKind.u32.wrap (f : Int) = (f : Int) := IntWalk.u32_in _ (by omega)
  have HB := Lib.hid hb0
  have HW := Lib.hid hW0
  unfold wholeP
  obtain ⟨b1, h1⟩ : ∃ b, (t == 0 || p.contains 84) = b := ⟨_, rfl⟩
  obtain ⟨b2, h2⟩ : ∃ b, (f == 0 || p.contains 70) = b := ⟨_, rfl⟩
  obtain ⟨b3, h3⟩ : ∃ b, (k == 0 || p.contains 75) = b := ⟨_, rfl⟩
  rw [h1] at H84 ⊢
  rw [h2] at H70 ⊢
  rw [h3] at H75 ⊢
  clear hb0 hW0 r0 r1 h1 h2 h3
  cases b1
  · go_enter Tryz.func24, Tryz.ntmps24
    go_upto_region 1 with fail
    rw [HW.out]
    go_wp2_with fail
    refine H84.out.mono ?_
    rintro e w2 ⟨rfl, rfl⟩
    go_wp2
    go_ret
    exact ⟨rfl, HB.out⟩
  · cases b2
    · go_enter Tryz.func24, Tryz.ntmps24
      go_upto_region 1 with fail
      rw [HW.out]
      go_wp2_with fail
      refine H84.out.mono ?_
      rintro e w2 ⟨rfl, rfl⟩
      go_wp2_with fail
      refine H70.out.mono ?_
      rintro e w2 ⟨rfl, rfl⟩
      go_wp2
      go_ret
      exact ⟨rfl, HB.out⟩
    · go_enter Tryz.func24, Tryz.ntmps24
      go_upto_region 1 with fail
      rw [HW.out]
      go_wp2_with fail
      refine H84.out.mono ?_
      rintro e w2 ⟨rfl, rfl⟩
      go_wp2_with fail
      refine H70.out.mono ?_
      rintro e w2 ⟨rfl, rfl⟩
      go_wp2_with fail
      refine H75.out.mono ?_
      rintro e w2 ⟨rfl, rfl⟩
      go_wp2
      go_ret
      exact ⟨by first | rfl | simp, HB.out⟩
end Go.Proofs.YtebeoadmdflfcaaGreatDoor
