/-
  The law DataReads holds for every input: the record of any bytes, or what is wrong with their number. No condition (the law itself lets more than 200 bytes go).
-/
import Derived.Test.YtpjhcaabjgbkjaaDe
import Derived.Test.YtpjhcaabjgbkjaaId
import Derived.Test.YtpjhcaabjgbkjaaRows
import Derived.Below
import Derived.ChangeOld
import Derived.ShutString
import Derived.Lib.SmallJoins
import Derived.OpenShut
import Derived.ProofKit
import Derived.WalkKit
import Derived.Deep.RegionWith
namespace Go.Proofs.Ytpjhcaabjgbkjaa
open Go.RowKit

theorem num_byte (g : Nat → Nat) : ∀ (k j : Nat), (∀ i, i < k → g i < 256) → j < k → num g k / 2 ^ (8 * j) % 256 = g j := by
  intro k
  induction k with
  | zero => intro j _ h; omega
  | succ k ih =>
    intro j hg hj
    unfold num
    by_cases h : j < k
    · have e : g k * 2 ^ (8 * k) = 2 ^ (8 * j) * (256 * (g k * 2 ^ (8 * (k - j - 1)))) := by
        have : 8 * k = 8 * j + (8 + 8 * (k - j - 1)) := by omega
        rw [this, Nat.pow_add, Nat.pow_add, show (2 : Nat) ^ 8 = 256 from rfl]
        simp only [Nat.mul_assoc, Nat.mul_comm, Nat.mul_left_comm]
      rw [e, Nat.add_mul_div_left _ _ (Nat.pow_pos (by decide)), Nat.add_mul_mod_self_left]
      exact ih j (fun i hi => hg i (by omega)) h
    · obtain rfl : j = k := by omega
      have hl := num_lt g j (fun i hi => hg i (by omega))
      rw [Nat.mul_comm (g j), Nat.add_mul_div_left _ _ (Nat.pow_pos (by decide)), Nat.div_eq_of_lt hl, Nat.zero_add]
      exact Nat.mod_eq_of_lt (hg j (by omega))
theorem wb_num (big : Bool) (wd p : Nat) (f : Nat → Nat) (hf : ∀ i, i < wd → f (p + i) < 256) (i : Nat) (hi : i < wd) : wb big wd (num (fun i => f (pln big p wd i)) wd) i = f (p + i) := by
  have h1 : ∀ i, i < wd → pln big p wd i = p + (if big then wd - 1 - i else i) := fun i hi => by unfold pln; cases big <;> simp <;> omega
  unfold wb
  rw [if_pos hi, num_byte _ wd _ (fun j hj => by rw [h1 j hj]; exact hf _ (by cases big <;> simp <;> omega)) (by unfold idx; cases big <;> simp <;> omega)]
  rw [h1 _ (by unfold idx; cases big <;> simp <;> omega)]
  congr 1
  unfold idx; cases big <;> simp <;> omega
theorem recB_recR (f : Nat → Nat) (big : Bool) (hf : ∀ i, i < 64 → f i < 256) (i : Nat) (hi : i < 64) : recB (recR f big) big i = f i := by
  unfold recB
  by_cases h1 : i < 4
  · rw [if_pos h1]
    have := wb_num big 4 0 f (fun j hj => hf _ (by omega)) i h1
    rwa [Nat.zero_add] at this
  · rw [if_neg h1]
    by_cases h2 : i < 8
    · rw [if_pos h2]
      have := wb_num big 4 4 f (fun j hj => hf _ (by omega)) (i - 4) (by omega)
      rwa [show 4 + (i - 4) = i from by omega] at this
    · rw [if_neg h2]
      by_cases h3 : i < 16
      · rw [if_pos h3]
        have := wb_num big 8 8 f (fun j hj => hf _ (by omega)) (i - 8) (by omega)
        rwa [show 8 + (i - 8) = i from by omega] at this
      · rw [if_neg h3]
        have := wb_num big 8 (16 + 8 * ((i - 16) / 8)) f (fun j hj => hf _ (by omega)) ((i - 16) % 8) (by omega)
        rw [show 16 + 8 * ((i - 16) / 8) + (i - 16) % 8 = i from by omega] at this
        rw [← this]
        show wb big 8 (if (i - 16) / 8 < 6 then _ else 0) _ = _
        rw [if_pos (by omega)]
theorem recR_ok (f : Nat → Nat) (big : Bool) (hf : ∀ i, i < 64 → f i < 256) : (recR f big).ok := by
  refine ⟨num_lt _ 4 fun i hi => hf _ (pln_lt big 0 4 i 64 hi (by decide)), num_lt _ 4 fun i hi => hf _ (pln_lt big 4 4 i 64 hi (by decide)), num_lt8 _ 8 (by decide) fun i hi => hf _ (pln_lt big 8 8 i 64 hi (by decide)), fun k => ?_⟩
  show (if k < 6 then _ else 0) < _
  by_cases h : k < 6
  · rw [if_pos h]
    exact num_lt8 _ 8 (by decide) fun i hi => hf _ (pln_lt big (16 + 8 * k) 8 i 64 hi (by omega))
  · rw [if_neg h]; decide

theorem he24 (W : World) : (Op.equalIn 9999 24 (.agg #[.int .u64 0, .int .u64 0, .int .u64 0, .int .u64 0, .int .u64 0, .int .u64 0]) (.agg #[.int .u64 0, .int .u64 0, .int .u64 0, .int .u64 0, .int .u64 0, .int .u64 0])).run Try.prog W = .ok true W := by
  rw [eq24]; rfl
theorem zrec_cells : rcells zrec = #[.int .u32 0, .int .u32 0, .int .u64 0, .int .u64 0, .int .u64 0, .int .u64 0, .int .u64 0, .int .u64 0, .int .u64 0] := rfl

set_option maxRecDepth 100000 in
set_option maxHeartbeats 8000000 in
theorem walk_DataReads {w0 : World} (A : Option Addr) (n c : Nat) (f : Nat → Nat) (hby : Byt w0 w0.heap.size A n c f) (big : Bool) :
    Calls Try.prog 4 #[.slice A n c, .bool big] w0 fun e w' => e = .returned (.bool true) ∧ Below w0.heap.size w0 w' := by
  have hmx := hby.le
  unfold maxLen at hmx
  obtain ⟨m1, m2⟩ := hmx
  have HY := Lib.hid hby
  by_cases h1 : 200 < n
  · clear hby
    go_enter Try.func4, Try.ntmps4
    go_wp2
    go_ret
    exact ⟨rfl, Below.refl _ _⟩
  · have hown : Own_ (w0.alloc (.cells #[] 5)) w0.heap.size 5 (some ⟨w0.heap.size, 0, none⟩) 0 0 f :=
      ⟨World.ownsRow_lit (base := w0.heap.size) (e := 5) (size := 1) w0 #[] 0 (Nat.le_refl _) (by decide) rfl, fun i h => by omega⟩
    have hl0 := hby.below ((Below.refl w0.heap.size w0).alloc (Nat.le_refl _) (.cells #[] 5))
    have h24 := he24
    clear hby
    go_enter Try.func4, Try.ntmps4
    go_wp2_with (at_builtin; go_must (refine app_bytes _ rfl _ _ _ 5 rfl Try.underlying31 infoB rfl hown rfl hl0 (by omega) (by simp) ?_; rintro A1 c1 w1 hown1 hg1 hB1))
    have hb1 : Below w0.heap.size w0 w1 := ((Below.refl _ _).alloc (Nat.le_refl _) _).trans hB1
    have hf0 : ∀ i, i < n → f i < 256 := fun i hi => HY.out.lt hi
    have hby1 : Byt w1 w1.heap.size A1 (0 + n) c1 f := hown1.byt.congr fun i _ => by unfold cat; rw [if_neg (by omega), Nat.sub_zero]
    rw [Nat.zero_add] at hby1
    have HY1 := Lib.hid hby1
    have HF0 := Lib.hid hf0
    clear hown hl0 hown1 hg1 hB1 hby1 hf0
    by_cases h2 : n = 64
    · subst h2
      obtain ⟨S, hS⟩ : ∃ S, sbytes 64 f = S := ⟨_, rfl⟩
      have hS2 : sbytes 64 (recB (recR f big) big) = S := by rw [← hS]; exact sbytes_congr _ _ _ (fun i hi => recB_recR f big HF0.out i hi)
      have hok := recR_ok f big HF0.out
      obtain ⟨r, hr⟩ : ∃ r, recR f big = r := ⟨_, rfl⟩
      rw [hr] at hS2 hok
      have HRR := Lib.hid hr
      have HS := Lib.hid hS
      have HS2 := Lib.hid hS2
      have HOK := Lib.hid hok
      clear hS hS2 hok hr
      refine (read5_ok _ _ big f _ HY1.out).mono ?_
      rw [HRR.out]
      rintro e w2 ⟨rfl, hB2⟩
      have hb2 := hb1.trans (hB2.mono hb1.size)
      unfold rcells
      go_wp2_with fail
      have hrc5 : RcB ((w2.alloc (.cells (rcells r) 29)).alloc (.cells (rcells r) 26)) (w2.heap.size + 1) 26 r := by
        have := heap_alloc_last (w2.alloc (.cells (rcells r) 29)) (.cells (rcells r) 26)
        rw [World.size_alloc] at this
        exact this
      have hb5 : Below w0.heap.size w0 ((w2.alloc (.cells (rcells r) 29)).alloc (.cells (rcells r) 26)) := (hb2.alloc hb2.size _).alloc (by have := hb2.size; simp; omega) _
      unfold rcells at hrc5 hb5
      generalize (w2.alloc (.cells #[.int .u32 r.n, .int .u32 r.a, .int .u64 r.p, .int .u64 (r.q 0), .int .u64 (r.q 1), .int .u64 (r.q 2), .int .u64 (r.q 3), .int .u64 (r.q 4), .int .u64 (r.q 5)] 29)).alloc (.cells #[.int .u32 r.n, .int .u32 r.a, .int .u64 r.p, .int .u64 (r.q 0), .int .u64 (r.q 1), .int .u64 (r.q 2), .int .u64 (r.q 3), .int .u64 (r.q 4), .int .u64 (r.q 5)] 26) = W5 at *
      have p0 := hrc5.cell 0 _ rfl
      have p1 := hrc5.cell 1 _ rfl
      have p2 := hrc5.cell 2 _ rfl
      have p3 := hrc5.cell 3 _ rfl
      have p4 := hrc5.cell 4 _ rfl
      have p5 := hrc5.cell 5 _ rfl
      have p6 := hrc5.cell 6 _ rfl
      have p7 := hrc5.cell 7 _ rfl
      have p8 := hrc5.cell 8 _ rfl
      simp only [rcells, List.getElem_toArray, List.getElem_cons_zero, List.getElem_cons_succ] at p0 p1 p2 p3 p4 p5 p6 p7 p8
      have hstr := str_of_byt (P := Try.prog) Try.underlying31 Try.underlying5 Try.underlying9 (Byt_drew (HY.out.below hb5))
      rw [HS.out] at hstr
      clear hrc5 hb1 hb2 hB2 h24
      go_region_with (first
        | (go_at_call 18
           refine (refWrite5_any r HOK.out big _).mono ?_
           rintro e w6 ⟨A6, c6, rfl, hown6, hB6⟩
           have hb6 := hb5.drew.trans (hB6.mono hb5.size)
           have hstr6 := str_of_byt (P := Try.prog) Try.underlying31 Try.underlying5 Try.underlying9 hown6.byt
           have hstr7 := str_of_byt (P := Try.prog) Try.underlying31 Try.underlying5 Try.underlying9 (HY.out.below hb6)
           rw [HS2.out] at hstr6
           rw [HS.out] at hstr7)
        | (go_at_call 19
           refine (awake5_any _).mono ?_
           rintro e w7 ⟨rfl, rfl⟩))
      all_goals go_wp2
      all_goals go_ret
      all_goals exact ⟨rfl, hb6⟩
    · refine (read5_err _ n c1 big _ (by omega) h2).mono ?_
      rw [zrec_cells]
      by_cases h3 : n < 64
      · rw [if_pos h3]
        rintro e w2 ⟨rfl, hB2⟩
        have hb2 := hb1.trans (hB2.mono hb1.size)
        go_wp2_with (go_at_call 19; refine (awake5_any _).mono ?_; rintro e w5 ⟨rfl, rfl⟩)
        go_ret
        refine ⟨rfl, ?_⟩
        exact hb2.alloc hb2.size _
      · rw [if_neg h3]
        rintro e w2 ⟨rfl, hB2⟩
        have hb2 := hb1.trans (hB2.mono hb1.size)
        have h4 : 64 < n := by omega
        go_wp2_with (go_at_call 19; refine (awake5_any _).mono ?_; rintro e w5 ⟨rfl, rfl⟩)
        go_ret
        refine ⟨rfl, ?_⟩
        exact hb2.alloc hb2.size _

namespace dataReadsRow
open Go.ChangeShapes Go.WideShapes Go.ChangeAt Go.RowKit Go.Joins
open Go.ChangeMaps (open_string shut_string)
set_option linter.unusedVariables false
theorem own : ownKnob Try.prog.godebug = none := by kernel_rfl
theorem laidOut : laidOutB Try.prog = true := by kernel_rfl
set_option maxRecDepth 100000 in
theorem lifted (os : Os) (started : os.Started) (H : Type) (enc : TypeId × Value → H) :
    ReturnsInHanded {} Try.checked os 4 .any (Rows.dataReadsSpec.pre6 enc Try.prog Try.f4 Rows.dataReadsRow.domain false) (Rows.dataReadsSpec.post enc Try.prog Try.f4 false true false false) := by
  refine returnsInHanded_of_change (C := Try.checked) own started (by kernel_rfl) Try.func4
    (ChangeSpec.witness6 (enc := enc) (C := Try.checked) false ⟨#[], #[.slice none 0 0, .bool false], []⟩ 8 (by kernel_rfl) (by kernel_rfl) (by kernel_rfl) (by kernel_rfl)) ?_
  intro W base args ds gs before hval0 hW hcnd _
  have hval : ∀ (j : Nat) t v, Try.f4.params[j]? = some t → args[j]? = some v → Value.okWide Try.prog W .any base t v := hval0
  have hW' := hW
  obtain ⟨p, q, hA0, hV, rfl, hfz, hnd⟩ := hW
  have hA : DataW.TrodAll enc Try.prog W 0 (fun _ => true) true Try.f4.params.toList args.toList ds p := hA0
  rw [Try.params4] at hA hval
  obtain ⟨v0, vs0, d0, ds0, p0, q0, hargs, rfl, rfl, h0, r0⟩ := trodAll_cons hA
  obtain ⟨v1, vs1, d1, ds1, p1, q1, rfl, rfl, rfl, h1, r1⟩ := trodAll_cons r0
  obtain ⟨rfl, rfl, rfl⟩ := trodAll_nil r1
  obtain rfl : args = #[v0, v1] := by cases args; simp_all
  obtain ⟨rfl, rfl⟩ := trodVars_none hV
  have k0 := h0
  have lt0 : ∀ x ∈ p0, x.block < W.heap.size := by obtain ⟨m, hm⟩ := k0; exact DataW.trod_lt m _ _ _ hm
  have k1 := h1
  have lt1 : ∀ x ∈ p1, x.block < W.heap.size := by obtain ⟨m, hm⟩ := k1; exact DataW.trod_lt m _ _ _ hm
  obtain ⟨a0, len0, cap0, rfl⟩ := okWide_slice Try.underlying31 (hval 0 31 v0 rfl rfl)
  obtain ⟨f0, w0⟩ : ∃ f, Byt W W.heap.size a0 len0 cap0 f := by
    obtain ⟨fuel, hf⟩ := h0
    rcases open_ints Try.underlying31 Try.underlying5 (by kernel_rfl) hf with ⟨hcs, _⟩ | ⟨x, l, c, zs, hcs, _, hl, hm, hz, _, hcell, hwz⟩
    · simp [Value.cells] at hcs
      obtain ⟨rfl, rfl, rfl⟩ := hcs
      exact ⟨fun _ => 0, Byt.nil_⟩
    · simp [Value.cells] at hcs
      obtain ⟨rfl, rfl, rfl⟩ := hcs
      exact ⟨_, byt_of_ints hl hm (by have : zs.length = cap0 := by simpa using hz
                                      omega) hcell hwz⟩
  obtain ⟨a1, rfl, rfl, rfl⟩ := open_bool Try.underlying4 (hval 1 4 v1 rfl rfl) h1
  clear hA0 hval0
  refine (walk_DataReads (w0 := W) a0 len0 cap0 f0 w0 a1).mono fun e W' ⟨he, bel⟩ => ?_
  subst he
  exact ⟨_, rfl, _, _, _, [], _, [], hW', trodAll_mk1 (shut_bool Try.underlying4 _), (trodAll_cons_mk (Below.trod laidOut (by kernel_rfl) (of_decide_eq_true (by kernel_rfl)) k0 bel lt0) (trodAll_cons_mk (Below.trod laidOut (by kernel_rfl) (of_decide_eq_true (by kernel_rfl)) k1 bel lt1) trodAll_mk0)), rfl, bel.frame _, fun h => by cases h⟩

theorem over : Rows.dataReadsRow.holds Try.pinned (OpenSpec.ofChange Rows.dataReadsSpec) :=
  OpenClaim.holds_of_wide 4 Try.f4 rfl rfl rfl rfl rfl rfl rfl ⟨rfl, rfl, rfl, rfl, rfl⟩ rfl rfl rfl rfl rfl (by kernel_rfl) Try.func4 (by kernel_rfl)
    (of_decide_eq_true (by kernel_rfl)) (by unfold Func.isWrapper; first | (rw [if_pos (by decide +kernel)]; kernel_rfl) | (rw [if_neg (by decide +kernel)]; exact ⟨rfl, rfl⟩))
    (fun os started H enc _ => lifted os started H enc)
end dataReadsRow

theorem dataReads_proved : Rows.DataReadsSaid := dataReadsRow.over
#print axioms dataReads_proved
end Go.Proofs.Ytpjhcaabjgbkjaa
