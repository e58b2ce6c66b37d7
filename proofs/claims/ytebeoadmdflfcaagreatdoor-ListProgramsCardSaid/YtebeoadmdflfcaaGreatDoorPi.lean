/-
  Layer 3 at texts of blanks: split, Read, Program; what a law's row of blanks wants.
-/
import Derived.Test.YtebeoadmdflfcaaGreatDoorTb
import Derived.Test.YtebeoadmdflfcaaGreatDoorPe
import Derived.Lib.AppendZerosOnto
namespace Go.Proofs.YtebeoadmdflfcaaGreatDoor
open Go.RowKit Go.Shelf
set_option linter.unusedVariables false

set_option maxHeartbeats 1000000 in
theorem blankL_any (r : Nat) (w : World) : Calls Tryz.prog 31 #[.int .i32 r] w fun e w' => e = .returned (.bool (isBl r)) ∧ w' = w := by
  unfold isBl
  go_enter Tryz.func31, Tryz.ntmps31
  by_cases h0 : r = 32
  · subst h0
    go_wp2
    go_ret
    exact ⟨rfl, rfl⟩
  · by_cases h1 : r = 9
    · subst h1
      go_wp2
      go_ret
      exact ⟨rfl, rfl⟩
    · by_cases h2 : r = 13
      · subst h2
        go_wp2
        go_ret
        exact ⟨rfl, rfl⟩
      · have d0 : ((r : Int) == 32) = false := beq_eq_false_iff_ne.2 (by omega)
        have d1 : ((r : Int) == 9) = false := beq_eq_false_iff_ne.2 (by omega)
        have d2 : ((r : Int) == 13) = false := beq_eq_false_iff_ne.2 (by omega)
        go_wp2
        go_ret
        exact ⟨by simp [h0, h1, h2], rfl⟩
theorem pred_blankL (w : World) : PredAt Tryz.prog 31 #[] encR isBl w := fun W r _ => (blankL_any r W).mono fun _ _ ⟨h1, h2⟩ => ⟨h1, 0, h2⟩
theorem fieldsL_any (s : ByteArray) (hok : s.data.toList.all okS = true) (hs : s.size ≤ 4294967296) (w : World) :
    Calls Tryz.prog 30 #[.string s, .func (.func 31) #[] #[]] w fun e w' => ∃ A, e = .returned (.slice (some ⟨A, 0, none⟩) (wds s.data.toList).length (wds s.data.toList).length) ∧ w.heap.size ≤ A ∧
      w'.ownsRow w.heap.size 9 1 (.slice (some ⟨A, 0, none⟩) (wds s.data.toList).length (wds s.data.toList).length) (wds s.data.toList).length ((wds s.data.toList).map fun x => Value.string ⟨x.toArray⟩) ∧ Below w.heap.size w w' := by
  have h := Tryz.strings_FieldsFunc 31 #[] (enters_of Tryz.func31 (by kernel_rfl) rfl) isBl s w hs (pred_blankL w)
  rw [fields_wd s hok, List.length_map, List.map_map] at h
  exact h
theorem OwnC.set_ {w : World} {base z n c b : Nat} {E : TypeId} {F : Nat → Value} (h : OwnC w base E z (some ⟨b, 0, none⟩) n c F) {j : Nat} (u : Value) :
    OwnC (w.setCell ⟨b, j, none⟩ u) base E z (some ⟨b, 0, none⟩) n c (fun i => if i = j then u else F i) := by
  have h1 := (World.ownsRow.stored h j u).1
  have e : (((List.range (n * z)).map F).set j u) = ((List.range (n * z)).map fun i => if i = j then u else F i) := by
    apply List.ext_getElem (by simp)
    intro i h1 h2
    simp only [List.getElem_map, List.getElem_range, List.getElem_set]
    by_cases e : i = j
    · rw [if_pos e, if_pos e.symm]
    · rw [if_neg e, if_neg (fun x => e x.symm)]
  rw [e] at h1
  exact h1
theorem OwnC.at_ {w : World} {base z n c : Nat} {E : TypeId} {A : Option Addr} {F : Nat → Value} (h : OwnC w base E z A n c F) (hn : 0 < n) :
    ∃ b, A = some ⟨b, 0, none⟩ ∧ base ≤ b ∧ b < w.heap.size ∧ ∀ i, i < n * z → (w.cell? ⟨b, i, none⟩ = some (F i) ∧ w.frozen? ⟨b, i, none⟩ = false) := by
  obtain ⟨gg, cap, hv, hg, hl⟩ := World.ownsRow.form h hn
  injection hv with e1 e2 e3
  subst e1 e3
  refine ⟨gg, rfl, hg, hl, fun i hi => ⟨?_, World.ownsRow.frozenAt h i⟩⟩
  rw [World.ownsRow.cellAt h i hi]
  simp [hi]

theorem mk_oneL {t T : TypeId} {v : Value} {y : Nat} (ht : Tryz.prog.underlying t = some (.slice T)) (hinfo : (Tryz.prog.info? T).map (fun i => (i.zero, i.size, i.bytes)) = some (some v, 1, y)) (hv : v.cells = #[v]) (hy : y ≤ 8) (m : Nat) (hm : m ≤ 100000) (w : World) :
    ∃ W', (Instr.makeSlice t (.int .i64 (m : Int)) (.int .i64 (m : Int))).run Tryz.prog w = .ok (.slice (some ⟨w.heap.size, 0, none⟩) m m) W' ∧ OwnC W' w.heap.size T 1 (some ⟨w.heap.size, 0, none⟩) m m (fun _ => v) ∧ Below w.heap.size w W' := by
  obtain ⟨i0, hi0, hz0, hz1, hz2⟩ := info_parts hinfo
  have hmy : m * y ≤ 100000 * 8 := Nat.mul_le_mul hm hy
  have hym : (y : Int) * (m : Int) ≤ 281474976710656 := by
    have e : (y : Int) * (m : Int) = ((m * y : Nat) : Int) := by rw [Int.natCast_mul, Int.mul_comm]
    omega
  have hr := run_make (P := Tryz.prog) w t T i0 _ ht hi0 hz0 .i64 .i64 m m (by omega) (Int.le_refl _) (by rw [hz2]; exact hym) (by omega)
  rw [hz1] at hr
  simp only [Int.toNat_natCast] at hr
  refine ⟨_, hr, ?_, (Below.refl _ _).alloc (Nat.le_refl _) _⟩
  have hl := World.ownsRow_lit (base := w.heap.size) (e := T) (size := 1) w (madeCells v.cells (m * 1)) m (Nat.le_refl _) (by unfold maxLen; omega) (size_madeCells _ _)
  have e : (madeCells v.cells (m * 1)).toList = (List.range (m * 1)).map (fun _ => v) := by
    apply List.ext_getElem (by simp [madeCells])
    intro i h1 h2
    simp only [madeCells, Array.getElem_toList, Array.getElem_map, Array.getElem_range, List.getElem_map, hv]
    simp [Nat.mod_one]
  rw [e] at hl
  exact hl

def sbytes (n : Nat) (f : Nat → Nat) : ByteArray := ((List.range n).map f).foldl (fun r x => r.push (UInt8.ofNat x)) ByteArray.empty
theorem sbytes_congr (n : Nat) (f g : Nat → Nat) (h : ∀ i, i < n → f i = g i) : sbytes n f = sbytes n g := by
  unfold sbytes
  rw [List.map_congr_left (fun i hi => h i (List.mem_range.1 hi))]
theorem str_of_byt {P : Program} {w : World} {src dst e : TypeId} (hs : P.underlying src = some (.slice e)) (he : P.underlying e = some (.int .u8)) (hd : P.underlying dst = some .string)
    {B n c : Nat} {A : Option Addr} {f : Nat → Nat} (h : Byt w B A n c f) : (convert src dst (.slice A n c)).run P w = .ok (.string (sbytes n f)) w := by
  rw [run_convert_bytes_string w src dst e A n c hs he hd]
  rcases h with ⟨rfl, rfl, rfl⟩ | ⟨ad, rfl, h1, h2, hc⟩
  · simp [Conv.bytesToString, sbytes, Sem.run_pure]
  · have hl := run_loadCells (P := P) w ad n (fun i => bv (f i)) (fun j hj => (hc j hj).2.1)
    have e1 : ((List.range n).map fun i => bv (f i)) = ((List.range n).map fun i => (f i : Int)).map (Value.int .u8) := by simp [bv]
    rw [e1] at hl
    rw [run_bytesToString w ad n c _ hl]
    congr 2
    unfold sbytes
    rw [List.foldl_map, List.foldl_map]
    simp

/-- Two results, the first of which lies in a block. -/
theorem results_cell_row2L {P : Program} {fn : Func} {p q : Tmp} {ty : TypeId} (h : fn.results = #[.cell p ty, .tmp q]) (tmps : Array Value) (w : World) (g : Nat) (t : TypeId) (cs : Array Value) (fr : Nat × Nat) (d : TypeDesc) (v : Value)
    (hp : tmps.getD p undef = .pointer (some ⟨g, 0, none⟩)) (hq : tmps.getD q undef = v) (hg : w.heap[g]? = some (.cells cs t fr))
    (hu : P.underlying ty = some d) (hd : (match d with | .struct _ | .array _ _ => true | _ => false) = true) (hi : (P.info? ty).map (·.size) = some cs.size) :
    (results fn tmps).run P w = .ok (.tuple #[.agg cs, v]) w := by
  have hp' : tmps[p]?.getD undef = .pointer (some ⟨g, 0, none⟩) := by simpa using hp
  have hq' : tmps[q]?.getD undef = v := by simpa using hq
  simp [results, h, hp', hq', asAddr, run_loadVar_row w g t ty cs fr d hg hu hd hi, Result.andThen]


theorem foldl_push : ∀ (l : List Nat) (b : ByteArray), (l.foldl (fun r x => r.push (UInt8.ofNat x)) b).data.toList = b.data.toList ++ l.map UInt8.ofNat := by
  intro l
  induction l with
  | nil => intro b; simp
  | cons x l ih => intro b; rw [List.foldl_cons, ih, List.map_cons]; simp [ByteArray.push]
theorem sbytes_list (n : Nat) (f : Nat → Nat) : (sbytes n f).data.toList = ((List.range n).map f).map UInt8.ofNat := by
  unfold sbytes
  rw [foldl_push]
  rfl
theorem sbytes_size (n : Nat) (f : Nat → Nat) : (sbytes n f).size = n := by
  have h : (sbytes n f).data.toList.length = (sbytes n f).size := Array.length_toList
  rw [← h, sbytes_list]
  simp
/-- All signs are blanks. -/
def AllB (s : ByteArray) : Prop := ∀ c ∈ s.data.toList, c = 32
theorem sbytes_blank (n : Nat) : AllB (sbytes n fun _ => 32) := fun c hc => by
  rw [sbytes_list] at hc
  simp only [List.map_map, List.mem_map] at hc
  obtain ⟨_, _, h⟩ := hc
  exact h.symm
theorem wdF_blank : ∀ l : List UInt8, (∀ c ∈ l, blk c = true) → wdF l [] [] = [] := by
  intro l
  induction l with
  | nil => intro _; rfl
  | cons c t ih =>
    intro h
    rw [wdF, if_pos (h c (by simp))]
    exact ih fun x hx => h x (by simp [hx])
theorem cut_noC (l : List UInt8) (c : UInt8) (h : ∀ x ∈ l, x ≠ c) : Lib.cut l [c] = (l, [], false) := by
  rcases cut_one l c with ⟨_, h2⟩ | ⟨a, r, h1, _, _⟩
  · exact h2
  · exact absurd rfl (h c (by rw [h1]; simp))
set_option maxHeartbeats 4000000 in
theorem splitL_blank (s : ByteArray) (hb : AllB s) (hs : s.size ≤ 4294967296) (w : World) :
    Calls Tryz.prog 14 #[.string s] w fun e w' => (∃ A, e = .returned (.slice (some ⟨A, 0, none⟩) 0 0)) ∧ Below w.heap.size w w' := by
  have hc := cut_any s 59 hs w
  rw [cut_noC _ 59 (fun x hx => by rw [hb x hx]; decide), show (⟨s.data.toList.toArray⟩ : ByteArray) = s from ByteArray.ext (by simp)] at hc
  have hf : ∀ W, Calls Tryz.prog 30 #[.string s, .func (.func 31) #[] #[]] W fun e w' => (∃ A, e = .returned (.slice (some ⟨A, 0, none⟩) 0 0)) ∧ Below W.heap.size W w' := fun W => by
    have h := fieldsL_any s (List.all_eq_true.2 fun c hc => by rw [hb c hc]; decide) hs W
    rw [show wds s.data.toList = [] from wdF_blank _ fun c hc => by rw [hb c hc]; decide] at h
    refine h.mono ?_
    rintro e w' ⟨A, he, _, _, hB⟩
    exact ⟨⟨A, he⟩, hB⟩
  have HC := Lib.hid hc
  have HF := Lib.hid hf
  clear hc hf hb
  go_enter Tryz.func14, Tryz.ntmps14
  go_wp2_with fail
  refine HC.out.mono ?_
  rintro e w1 ⟨rfl, nq, rfl⟩
  go_wp2_with fail
  refine (HF.out _).mono ?_
  rintro e w2 ⟨⟨A, rfl⟩, hB2⟩
  go_wp2
  go_ret
  exact ⟨⟨A, rfl⟩, (bdn (Below.refl w.heap.size w) nq).trans hB2⟩
abbrev zI : Array Value := #[.int .u16 0, .int .u8 0, .int .u8 0, .int .u32 0]
set_option maxRecDepth 100000 in
set_option maxHeartbeats 4000000 in
theorem readL_blank (s : ByteArray) (hb : AllB s) (hs : s.size ≤ 4294967296) (w : World) :
    Calls Tryz.prog 6 #[.string s] w fun e w' => e = .returned (.tuple #[.agg zI, .int .i64 4]) ∧ Below w.heap.size w w' := by
  obtain ⟨W0, hW0⟩ : ∃ W, w.alloc (.cells zI 25) = W := ⟨_, rfl⟩
  have hb0 : Below w.heap.size w W0 := by rw [← hW0]; exact (Below.refl _ _).alloc (Nat.le_refl _) _
  have r0 : RowC W0 w.heap.size zI 25 := by rw [← hW0]; exact RowC.new _ _ _ _ rfl
  have HS := Lib.hid (splitL_blank s hb hs W0)
  have HB := Lib.hid hb0
  have HR := Lib.hid r0
  have HW := Lib.hid hW0
  clear hb hb0 r0 hW0
  go_enter Tryz.func6, Tryz.ntmps6
  go_upto_region 1 with fail
  rw [HW.out]
  go_wp2_with fail
  refine HS.out.mono ?_
  rintro e w1 ⟨⟨A, rfl⟩, hB1⟩
  have r1 := HR.out.below hB1 HR.out.lt
  have HR1 := Lib.hid r1
  have HB1 := Lib.hid (HB.out.trans (hB1.mono HB.out.size))
  have z0 := r1.cell 0 (.int .u16 0) rfl
  have z1 := r1.cell 1 (.int .u8 0) rfl
  have z2 := r1.cell 2 (.int .u8 0) rfl
  have z3 := r1.cell 3 (.int .u32 0) rfl
  have g0 := r1.frozen 0
  have g1 := r1.frozen 1
  have g2 := r1.frozen 2
  have g3 := r1.frozen 3
  clear hB1 r1 HS HB HR HW
  go_wp2
  exact bodyPost_ret (results_cell_row2L Tryz.results6 _ _ w.heap.size _ _ (0, 0) _ (.int .i64 4) (by rfl) (by rfl) (show RowC _ w.heap.size zI 25 from (((HR1.out.set 0 (.int .u16 0)).set 1 (.int .u8 0)).set 2 (.int .u8 0)).set 3 (.int .u32 0)) Tryz.underlying25 (by rfl) (show _ = some 4 by kernel_rfl)) rfl
    ⟨rfl, (((HB1.out.setCell (Nat.le_refl _) _).setCell (Nat.le_refl _) _).setCell (Nat.le_refl _) _).setCell (Nat.le_refl _) _⟩
end Go.Proofs.YtebeoadmdflfcaaGreatDoor
