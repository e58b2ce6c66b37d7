/-
  Layer 15: meet: what a rule asks for, put to what was met.
-/
import Derived.Test.YtccklmleaffgiaaGreatDoorCdp
import Derived.Test.YtccklmleaffgiaaGreatDoorP10
namespace Go.Proofs.YtccklmleaffgiaaGreatDoor
open Go.RowKit Go.Shelf Go.Lib Go.Sort
set_option linter.unusedVariables false

theorem built2 (nm : ByteArray) (g : Nat → CV) : Tryz.prog.built 149 [(0, .agg (reqN nm)), (1, .agg (reqA nm g))] = some (reqN nm ++ reqA nm g) := by kernel_rfl
theorem wp_build2 {ops : Array Oper} {rest : List Oper} {o : Oper} {a : Act} {w : World} {Q : Exit → Act → World → Prop} (hg : o.guard = none) (x y : Operand) (ho : o.op = .build 149 #[(0, x), (1, y)]) {nm : ByteArray} {g : Nat → CV} (hx : a.eval x = .agg (reqN nm)) (hy : a.eval y = .agg (reqA nm g))
    (h : wpList Tryz.prog ops Q rest (a.put o.dst (.agg (reqN nm ++ reqA nm g))) w) : wpList Tryz.prog ops Q (o :: rest) a w := by
  have hb : Tryz.prog.built 149 ((#[(0, x), (1, y)] : Array (Nat × Operand)).map fun (i, x) => (i, a.eval x)).toList = some (reqN nm ++ reqA nm g) := by
    have h0 : ((#[(0, x), (1, y)] : Array (Nat × Operand)).map fun (i, x) => (i, a.eval x)).toList = [(0, .agg (reqN nm)), (1, .agg (reqA nm g))] := by simp [hx, hy]
    rw [h0]
    exact built2 nm g
  refine wpList_build hg _ _ ho (by rw [hb]; rfl) ?_
  rw [hb]
  exact h
theorem ixX0 (X Y : Array Value) (hX : X.size = 25) (hY : Y.size = 25) (W : World) : (Instr.index 149 (.agg (X ++ Y)) (.int .i64 0)).run Tryz.prog W = .ok (.agg X) W := by
  have hlt : 147 < Tryz.prog.types.size := of_decide_eq_true (by kernel_rfl)
  have hsz : (Tryz.prog.types[147]'hlt).size = 25 := by kernel_rfl
  simp [Instr.index, run_underlying Tryz.underlying149, asIntOf, hX, hY, go_sem]
theorem ixX1 (X Y : Array Value) (hX : X.size = 25) (hY : Y.size = 25) (W : World) : (Instr.index 149 (.agg (X ++ Y)) (.int .i64 1)).run Tryz.prog W = .ok (.agg Y) W := by
  have hlt : 147 < Tryz.prog.types.size := of_decide_eq_true (by kernel_rfl)
  have hsz : (Tryz.prog.types[147]'hlt).size = 25 := by kernel_rfl
  have h5 : Y.extract 0 25 = Y := by rw [← hY]; simp
  simp [Instr.index, run_underlying Tryz.underlying149, asIntOf, hX, h5, go_sem]
theorem wf_zero : WfC (0, 0, 0, 0) := by refine ⟨?_, ?_, ?_, ?_⟩ <;> decide
theorem wf_pad {l : List CD} (h : ∀ c ∈ l, WfC (cvOf c)) (j : Nat) : WfC (padC l j) := by
  unfold padC
  rw [List.getD_eq_getElem?_getD]
  by_cases hj : j < (l.map cvOf).length
  · rw [List.getElem?_eq_getElem hj, List.getElem_map]
    exact h _ (List.getElem_mem _)
  · rw [List.getElem?_eq_none (by omega)]
    exact wf_zero
set_option maxRecDepth 100000 in
set_option maxHeartbeats 16000000 in
theorem meetQ_any (nm : ByteArray) (k u : Int) (A : Option Addr) (n c : Nat) (C : Nat → CD) (b : Nat) (S : List Value) (w : World) (h6 : n ≤ 6) (hnc : n ≤ c) (hC : ConA w A n C) (hnm : nm.size ≤ maxLen) (hwf : ∀ i, i < n → WfC (cvOf (C i))) (hs : IsReq w b S) (g : Nat → CV) (hg : padC (srt ((List.range n).map C)) = g) :
    Calls Tryz.prog 50 #[.agg #[.string nm, .int .i64 k, .int .i64 u, .slice A n c], .map (some b)] w fun e w' => But1 b w w' ∧
      (((.agg (reqN nm) ∈ S ∨ .agg (reqA nm g) ∈ S) ∧ e = .returned (.bool false) ∧ IsReq w' b S) ∨ ((.agg (reqN nm) ∉ S ∧ .agg (reqA nm g) ∉ S) ∧ e = .returned (.bool true) ∧ IsReq w' b (S ++ [.agg (reqA nm g)]))) := by
  have hblt := hs.lt
  obtain ⟨B, hBs⟩ : ∃ B, w.heap.size = B := ⟨_, rfl⟩
  obtain ⟨W0, hW0⟩ : ∃ W, w.alloc (.cells #[.string nm, .int .i64 k, .int .i64 u, .slice A n c] 50) = W := ⟨_, rfl⟩
  have hb0 : Below B w W0 := by rw [← hW0, ← hBs]; exact (Below.refl _ _).alloc (Nat.le_refl _) _
  have hr0 : RowC W0 B #[.string nm, .int .i64 k, .int .i64 u, .slice A n c] 50 := by rw [← hW0, ← hBs]; exact RowC.new _ _ _ _ rfl
  have hrq := requestOf_any nm k u A n c C W0 h6 hnc (hC.below hb0 (Nat.le_of_eq hBs))
  rw [hg] at hrq
  obtain ⟨lo, hlo⟩ := key_req nm g hnm (fun j _ => by
    rw [← hg]
    refine wf_pad (fun c hc => ?_) j
    rw [mem_srt] at hc
    obtain ⟨i, hi, rfl⟩ := List.mem_map.1 hc
    exact hwf i (List.mem_range.1 hi))
  obtain ⟨ln, hln⟩ := key_req nm (padC []) hnm (fun j _ => wf_pad (fun _ h => by cases h) j)
  rw [← reqN_eq] at hln
  have HRQ := Lib.hid hrq
  have HLO := Lib.hid hlo
  have HLN := Lib.hid hln
  have HB0 := Lib.hid hb0
  have HR0 := Lib.hid hr0
  have HS0 := Lib.hid (hs.below hb0 (by omega))
  have HBS := Lib.hid hBs
  have HBL := Lib.hid (show b < B by omega)
  have HW0 := Lib.hid hW0
  have p0 := hr0.cell 0 (.string nm) rfl
  have p1 := hr0.cell 1 (.int .i64 k) rfl
  have p2 := hr0.cell 2 (.int .i64 u) rfl
  have p3 := hr0.cell 3 (.slice A n c) rfl
  clear hrq hlo hln hb0 hr0 hs hblt hC hnm hwf hg hnc h6
  go_enter Tryz.func50, Tryz.ntmps50
  go_upto_region 1 with fail
  (try rw [HW0.out])
  clear hW0
  go_wp2_with fail
  refine HRQ.out.mono ?_
  rintro e w1 ⟨rfl, hB1⟩
  obtain ⟨O, hO⟩ : ∃ O, w1.heap.size = O := ⟨_, rfl⟩
  obtain ⟨W2, hW2⟩ : ∃ W, (w1.alloc (.cells (reqN ⟨#[]⟩) 147)).setRow O (reqA nm g) = W := ⟨_, rfl⟩
  have hz1 : RowC (w1.alloc (.cells (reqN ⟨#[]⟩) 147)) O (reqN ⟨#[]⟩) 147 := RowC.new _ _ _ _ hO.symm
  have ho2 : RowC W2 O (reqA nm g) 147 := by rw [← hW2]; exact setRow_heap _ _ _ _ _ _ hz1
  have hB12 : Below w1.heap.size w1 W2 := by rw [← hW2]; exact below_setRow ((Below.refl _ _).alloc (Nat.le_refl _) _) (Nat.le_of_eq hO) _
  have hB02 : Below W0.heap.size W0 W2 := bTr hB1 hB12
  have hr2 : RowC W2 B #[.string nm, .int .i64 k, .int .i64 u, .slice A n c] 50 := HR0.out.below hB02 HR0.out.lt
  have HW2 : Hid ((w1.alloc (.cells #[.string ⟨#[]⟩, .int .i64 0, .int .i64 0, .int .u64 0, .int .u64 0, .int .i64 0, .int .i64 0, .int .u64 0, .int .u64 0, .int .i64 0, .int .i64 0, .int .u64 0, .int .u64 0, .int .i64 0, .int .i64 0, .int .u64 0, .int .u64 0, .int .i64 0, .int .i64 0, .int .u64 0, .int .u64 0, .int .i64 0, .int .i64 0, .int .u64 0, .int .u64 0] 147)).setRow O (reqA nm g) = W2) := Lib.hid hW2
  have HZ1 := Lib.hid hz1
  have HO2 := Lib.hid ho2
  have HR2 := Lib.hid hr2
  have HS2 : Hid (IsReq W2 b S) := Lib.hid (HS0.out.below hB02 HS0.out.lt)
  have HB2 : Hid (Below B w W2) := Lib.hid (HB0.out.trans (hB02.mono (by have := HB0.out.size; rw [HBS.out] at this; exact this)))
  clear hW2 hz1 ho2 hB12 hB02 hr2 hB1 p0 p1 p2 p3 HS0
  go_upto_region 2 with (first | (refine wpList_store_row (by rfl) 147 _ _ (by rfl) O (reqA nm g) (by rfl) (by rfl) _ _ HZ1.out infoRq (by rfl) (reqA_one nm g) ?_))
  (try rw [HW2.out])
  have p0 := HR2.out.cell 0 (.string nm) rfl
  go_wp2_with (first | (refine wp_buildRq (by rfl) _ (by rfl) (nm := nm) (by rfl) ?_) | (refine wp_build2 (by rfl) _ _ (by rfl) (nm := nm) (g := g) (by rfl) (by rfl) ?_) | (refine wpList_load_row (by rfl) 147 _ (by rfl) O (by rfl) _ (reqA nm g) (0, 0) _ HO2.out Tryz.underlying147 (by rfl) infoRq ?_))
  clear p0
  go_loopw [17] (fun s wr => ∃ i : Nat, i ≤ 2 ∧ s = .int .i64 i ∧ Hid ((0 < i → .agg (reqN nm) ∉ S) ∧ (1 < i → .agg (reqA nm g) ∉ S) ∧ IsReq wr b S ∧ RowC wr O (reqA nm g) 147 ∧ Below B w wr))
    (fun s _ => 2 - (intOf s).toNat)
  case atStart => exact ⟨0, by omega, rfl, Lib.hid ⟨fun h => by omega, fun h => by omega, HS2.out, HO2.out, HB2.out⟩⟩
  case round =>
    obtain ⟨i, hi, rfl, HI⟩ := hrel
    have hi3 : i = 0 ∨ i = 1 ∨ i = 2 := by omega
    clear hi
    rcases hi3 with rfl | rfl | rfl
    · obtain ⟨q, hq⟩ : ∃ q : Bool, q = true ↔ Value.agg (reqN nm) ∈ S := by classical exact ⟨decide (Value.agg (reqN nm) ∈ S), by simp⟩
      obtain ⟨H, hH⟩ : ∃ H, wr.heap.size = H := ⟨_, rfl⟩
      obtain ⟨W3, hW3⟩ : ∃ W, (wr.alloc (.cells (reqN ⟨#[]⟩) 147)).setRow H (reqN nm) = W := ⟨_, rfl⟩
      have hz3 : RowC (wr.alloc (.cells (reqN ⟨#[]⟩) 147)) H (reqN ⟨#[]⟩) 147 := RowC.new _ _ _ _ hH.symm
      have ho3 : RowC W3 H (reqN nm) 147 := by rw [← hW3]; exact setRow_heap _ _ _ _ _ _ hz3
      have hB3 : Below wr.heap.size wr W3 := by rw [← hW3]; exact below_setRow ((Below.refl _ _).alloc (Nat.le_refl _) _) (Nat.le_of_eq hH) _
      have hB4 : Below wr.heap.size wr (W3.alloc (.cells #[] 150)) := hB3.alloc hB3.size _
      have hS3 : IsReq W3 b S := HI.out.2.2.1.below hB3 HI.out.2.2.1.lt
      have hlk := hS3.look HLN.out q hq
      have HZ3 := Lib.hid hz3
      have HO3 := Lib.hid ho3
      have HX3 : Hid ((wr.alloc (.cells #[.string ⟨#[]⟩, .int .i64 0, .int .i64 0, .int .u64 0, .int .u64 0, .int .i64 0, .int .i64 0, .int .u64 0, .int .u64 0, .int .i64 0, .int .i64 0, .int .u64 0, .int .u64 0, .int .i64 0, .int .i64 0, .int .u64 0, .int .u64 0, .int .i64 0, .int .i64 0, .int .u64 0, .int .u64 0, .int .i64 0, .int .i64 0, .int .u64 0, .int .u64 0] 147)).setRow H (reqN nm) = W3) := Lib.hid hW3
      have HS4 : Hid (IsReq (W3.alloc (.cells #[] 150)) b S) := Lib.hid (HI.out.2.2.1.below hB4 HI.out.2.2.1.lt)
      have HO4 : Hid (RowC (W3.alloc (.cells #[] 150)) O (reqA nm g) 147) := Lib.hid (HI.out.2.2.2.1.below hB4 HI.out.2.2.2.1.lt)
      have HB4 : Hid (Below B w (W3.alloc (.cells #[] 150))) := Lib.hid (HI.out.2.2.2.2.trans (hB4.mono (by have := HI.out.2.2.2.2.size; rw [HBS.out] at this; exact this)))
      have hix := fun W => ixX0 (reqN nm) (reqA nm g) rfl rfl W
      have HQ := Lib.hid hq
      clear hW3 hz3 ho3 hB3 hB4 hS3 hq
      cases q with
      | true =>
        have HIN : Hid (Value.agg (reqN nm) ∈ S) := Lib.hid (HQ.out.1 rfl)
        clear HQ
        go_wp2_with (first
          | (refine wpList_store_row (by rfl) 147 _ _ (by rfl) H (reqN nm) (by rfl) (by rfl) _ _ HZ3.out infoRq (by rfl) (reqN_one nm) ?_; (try rw [HX3.out]))
          | (refine wpList_load_row (by rfl) 147 _ (by rfl) H (by rfl) _ (reqN nm) (0, 0) _ HO3.out Tryz.underlying147 (by rfl) infoRq ?_))
        go_ret
        exact ⟨But1.of HB4.out (Nat.le_of_eq HBS.out), .inl ⟨.inl HIN.out, rfl, HS4.out⟩⟩
      | false =>
        have HNI : Hid (Value.agg (reqN nm) ∉ S) := Lib.hid (fun h => absurd (HQ.out.2 h) (by decide))
        clear HQ
        go_wp2_with (first
          | (refine wpList_store_row (by rfl) 147 _ _ (by rfl) H (reqN nm) (by rfl) (by rfl) _ _ HZ3.out infoRq (by rfl) (reqN_one nm) ?_; (try rw [HX3.out]))
          | (refine wpList_load_row (by rfl) 147 _ (by rfl) H (by rfl) _ (reqN nm) (0, 0) _ HO3.out Tryz.underlying147 (by rfl) infoRq ?_))
        exact ⟨⟨0 + 1, by omega, by go_num, Lib.hid ⟨fun _ => HNI.out, fun h => by omega, HS4.out, HO4.out, HB4.out⟩⟩, by simp [intOf]⟩
    · obtain ⟨q, hq⟩ : ∃ q : Bool, q = true ↔ Value.agg (reqA nm g) ∈ S := by classical exact ⟨decide (Value.agg (reqA nm g) ∈ S), by simp⟩
      obtain ⟨H, hH⟩ : ∃ H, wr.heap.size = H := ⟨_, rfl⟩
      obtain ⟨W3, hW3⟩ : ∃ W, (wr.alloc (.cells (reqN ⟨#[]⟩) 147)).setRow H (reqA nm g) = W := ⟨_, rfl⟩
      have hz3 : RowC (wr.alloc (.cells (reqN ⟨#[]⟩) 147)) H (reqN ⟨#[]⟩) 147 := RowC.new _ _ _ _ hH.symm
      have ho3 : RowC W3 H (reqA nm g) 147 := by rw [← hW3]; exact setRow_heap _ _ _ _ _ _ hz3
      have hB3 : Below wr.heap.size wr W3 := by rw [← hW3]; exact below_setRow ((Below.refl _ _).alloc (Nat.le_refl _) _) (Nat.le_of_eq hH) _
      have hB4 : Below wr.heap.size wr (W3.alloc (.cells #[] 150)) := hB3.alloc hB3.size _
      have hS3 : IsReq W3 b S := HI.out.2.2.1.below hB3 HI.out.2.2.1.lt
      have hlk := hS3.look HLO.out q hq
      have HZ3 := Lib.hid hz3
      have HO3 := Lib.hid ho3
      have HX3 : Hid ((wr.alloc (.cells #[.string ⟨#[]⟩, .int .i64 0, .int .i64 0, .int .u64 0, .int .u64 0, .int .i64 0, .int .i64 0, .int .u64 0, .int .u64 0, .int .i64 0, .int .i64 0, .int .u64 0, .int .u64 0, .int .i64 0, .int .i64 0, .int .u64 0, .int .u64 0, .int .i64 0, .int .i64 0, .int .u64 0, .int .u64 0, .int .i64 0, .int .i64 0, .int .u64 0, .int .u64 0] 147)).setRow H (reqA nm g) = W3) := Lib.hid hW3
      have HS4 : Hid (IsReq (W3.alloc (.cells #[] 150)) b S) := Lib.hid (HI.out.2.2.1.below hB4 HI.out.2.2.1.lt)
      have HO4 : Hid (RowC (W3.alloc (.cells #[] 150)) O (reqA nm g) 147) := Lib.hid (HI.out.2.2.2.1.below hB4 HI.out.2.2.2.1.lt)
      have HB4 : Hid (Below B w (W3.alloc (.cells #[] 150))) := Lib.hid (HI.out.2.2.2.2.trans (hB4.mono (by have := HI.out.2.2.2.2.size; rw [HBS.out] at this; exact this)))
      have hix := fun W => ixX1 (reqN nm) (reqA nm g) rfl rfl W
      have HQ := Lib.hid hq
      clear hW3 hz3 ho3 hB3 hB4 hS3 hq
      cases q with
      | true =>
        have HIN : Hid (Value.agg (reqA nm g) ∈ S) := Lib.hid (HQ.out.1 rfl)
        clear HQ
        go_wp2_with (first
          | (refine wpList_store_row (by rfl) 147 _ _ (by rfl) H (reqA nm g) (by rfl) (by rfl) _ _ HZ3.out infoRq (by rfl) (reqA_one nm _) ?_; (try rw [HX3.out]))
          | (refine wpList_load_row (by rfl) 147 _ (by rfl) H (by rfl) _ (reqA nm g) (0, 0) _ HO3.out Tryz.underlying147 (by rfl) infoRq ?_))
        go_ret
        exact ⟨But1.of HB4.out (Nat.le_of_eq HBS.out), .inl ⟨.inr HIN.out, rfl, HS4.out⟩⟩
      | false =>
        have HNI : Hid (Value.agg (reqA nm g) ∉ S) := Lib.hid (fun h => absurd (HQ.out.2 h) (by decide))
        clear HQ
        go_wp2_with (first
          | (refine wpList_store_row (by rfl) 147 _ _ (by rfl) H (reqA nm g) (by rfl) (by rfl) _ _ HZ3.out infoRq (by rfl) (reqA_one nm _) ?_; (try rw [HX3.out]))
          | (refine wpList_load_row (by rfl) 147 _ (by rfl) H (by rfl) _ (reqA nm g) (0, 0) _ HO3.out Tryz.underlying147 (by rfl) infoRq ?_))
        exact ⟨⟨1 + 1, by omega, by go_num, Lib.hid ⟨fun _ => HI.out.1 (by omega), fun _ => HNI.out, HS4.out, HO4.out, HB4.out⟩⟩, by simp [intOf]⟩
    · obtain ⟨w3, hup, hs3, hg3⟩ := HI.out.2.2.1.insert HLO.out (HI.out.2.1 (by omega))
      have HS3 := Lib.hid hs3
      have HG3 := Lib.hid hg3
      have HNO := Lib.hid (And.intro (HI.out.1 (by omega)) (HI.out.2.1 (by omega)))
      clear hs3 hg3
      go_wp2_with (refine wpList_load_row (by rfl) 147 _ (by rfl) O (by rfl) _ (reqA nm g) (0, 0) _ HI.out.2.2.2.1 Tryz.underlying147 (by rfl) infoRq ?_)
      go_ret
      exact ⟨But1.trans (But1.of HI.out.2.2.2.2 (Nat.le_of_eq HBS.out)) HG3.out, .inr ⟨HNO.out, rfl, HS3.out⟩⟩
end Go.Proofs.YtccklmleaffgiaaGreatDoor
