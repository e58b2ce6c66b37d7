/-
  Rows of a table in memory; systab.find at the three questions' functions.
-/
import Derived.WalkKit
import Derived.Deep.WholeRow
import Derived.Laws.EntriesVeiled
import Derived.Laws.CopyOwn
import Derived.Lib.Hide
import Derived.RegionTactic
import Derived.Test.YtlpcallgkciklaaGreatDoorProg
import Derived.Test.YtlpcallgkciklaaGreatDoorRw
namespace Go.Proofs.YtlpcallgkciklaaGreatDoor
open Go.RowKit
set_option linter.unusedVariables false

structure SR where
  nm : ByteArray
  n0 : Int
  n1 : Int
  n2 : Int
  n3 : Int
  n4 : Int
  mx : Int
  sb : Int
abbrev srow (r : SR) : Array Value := #[.string r.nm, .int .i64 r.n0, .int .i64 r.n1, .int .i64 r.n2, .int .i64 r.n3, .int .i64 r.n4, .int .i64 r.mx, .int .i64 r.sb]
abbrev sr0 : Array Value := #[.string ⟨#[]⟩, .int .i64 0, .int .i64 0, .int .i64 0, .int .i64 0, .int .i64 0, .int .i64 0, .int .i64 0]
/-- The rows of a table. -/
def Tb (w : World) (b o n : Nat) (T : Nat → SR) : Prop := b < w.heap.size ∧ ∀ i, i < n → w.cell? ⟨b, o + i * 8, none⟩ = some (.string (T i).nm) ∧ w.cell? ⟨b, o + i * 8 + 1, none⟩ = some (.int .i64 (T i).n0) ∧ w.cell? ⟨b, o + i * 8 + 2, none⟩ = some (.int .i64 (T i).n1) ∧ w.cell? ⟨b, o + i * 8 + 3, none⟩ = some (.int .i64 (T i).n2) ∧ w.cell? ⟨b, o + i * 8 + 4, none⟩ = some (.int .i64 (T i).n3) ∧ w.cell? ⟨b, o + i * 8 + 5, none⟩ = some (.int .i64 (T i).n4) ∧ w.cell? ⟨b, o + i * 8 + 6, none⟩ = some (.int .i64 (T i).mx) ∧ w.cell? ⟨b, o + i * 8 + 7, none⟩ = some (.int .i64 (T i).sb)
theorem Tb.below {w w' : World} {b o n : Nat} {T : Nat → SR} {B : Nat} (h : Tb w b o n T) (hb : Below B w w') (hB : w.heap.size ≤ B) : Tb w' b o n T := by
  have hl := h.1
  refine ⟨?_, fun i hi => ?_⟩
  · have := hb.size; omega
  · obtain ⟨h0, h1, h2, h3, h4, h5, h6, h7⟩ := h.2 i hi
    exact ⟨((hb.cell (p := ⟨b, o + i * 8, none⟩) (Nat.lt_of_lt_of_le hl hB)).trans h0), ((hb.cell (p := ⟨b, o + i * 8 + 1, none⟩) (Nat.lt_of_lt_of_le hl hB)).trans h1), ((hb.cell (p := ⟨b, o + i * 8 + 2, none⟩) (Nat.lt_of_lt_of_le hl hB)).trans h2), ((hb.cell (p := ⟨b, o + i * 8 + 3, none⟩) (Nat.lt_of_lt_of_le hl hB)).trans h3), ((hb.cell (p := ⟨b, o + i * 8 + 4, none⟩) (Nat.lt_of_lt_of_le hl hB)).trans h4), ((hb.cell (p := ⟨b, o + i * 8 + 5, none⟩) (Nat.lt_of_lt_of_le hl hB)).trans h5), ((hb.cell (p := ⟨b, o + i * 8 + 6, none⟩) (Nat.lt_of_lt_of_le hl hB)).trans h6), ((hb.cell (p := ⟨b, o + i * 8 + 7, none⟩) (Nat.lt_of_lt_of_le hl hB)).trans h7)⟩
/-- A slice of rows, at any address. -/
def TbA (w : World) (A : Option Addr) (n : Nat) (T : Nat → SR) : Prop := n = 0 ∨ ∃ b o, A = some ⟨b, o, none⟩ ∧ Tb w b o n T
theorem TbA.below {w w' : World} {A : Option Addr} {n : Nat} {T : Nat → SR} {B : Nat} (h : TbA w A n T) (hb : Below B w w') (hB : w.heap.size ≤ B) : TbA w' A n T := by
  rcases h with h | ⟨b, o, rfl, ht⟩
  · exact .inl h
  · exact .inr ⟨b, o, rfl, ht.below hb hB⟩
theorem TbA.at_ {w : World} {A : Option Addr} {n : Nat} {T : Nat → SR} (h : TbA w A n T) {k : Nat} (hk : k < n) : ∃ b o, A = some ⟨b, o, none⟩ ∧ Tb w b o n T := by
  rcases h with h | h
  · omega
  · exact h
theorem TbA.of {w : World} {b o n : Nat} {T : Nat → SR} (h : Tb w b o n T) : TbA w (some ⟨b, o, none⟩) n T := .inr ⟨b, o, rfl, h⟩
theorem infoSR : (Tryz.prog.info? 83).map (·.size) = some 8 := by kernel_rfl
/-- What a look for a row gives. -/
def FindT (P : Nat → Bool) (T : Nat → SR) (n : Nat) (w : World) (e : Ending) (w' : World) : Prop :=
  ((∃ j, j < n ∧ P j = true ∧ (∀ i, i < j → P i = false) ∧ e = .returned (.tuple #[.agg (srow (T j)), .int .i64 j, .bool true])) ∨
   ((∀ i, i < n → P i = false) ∧ e = .returned (.tuple #[.agg sr0, .int .i64 0, .bool false]))) ∧ Below w.heap.size w w'
theorem results_ctS {P : Program} {fn : Func} {p q r : Tmp} {ty : TypeId} (h : fn.results = #[.cell p ty, .tmp q, .tmp r]) (tmps : Array Value) (w : World) (g : Nat) (t : TypeId) (cs : Array Value) (fr : Nat × Nat) (d : TypeDesc) (u v : Value)
    (hp : tmps.getD p undef = .pointer (some ⟨g, 0, none⟩)) (hq : tmps.getD q undef = u) (hr : tmps.getD r undef = v) (hg : w.heap[g]? = some (.cells cs t fr))
    (hu : P.underlying ty = some d) (hd : (match d with | .struct _ | .array _ _ => true | _ => false) = true) (hi : (P.info? ty).map (·.size) = some cs.size) :
    (results fn tmps).run P w = .ok (.tuple #[.agg cs, u, v]) w := by
  have hp' : tmps[p]?.getD undef = .pointer (some ⟨g, 0, none⟩) := by simpa using hp
  have hq' : tmps[q]?.getD undef = u := by simpa using hq
  have hr' : tmps[r]?.getD undef = v := by simpa using hr
  simp [results, h, hp', hq', hr', asAddr, run_loadVar_row w g t ty cs fr d hg hu hd hi, Result.andThen]

set_option maxRecDepth 100000 in
set_option maxHeartbeats 8000000 in
theorem find_name (A : Option Addr) (n cap : Nat) (T : Nat → SR) (c0 : Nat) (P : Nat → Bool) (w : World) (hn : n ≤ 1000000) (ht : TbA w A n T) (hcl : ∀ (wr : World), Below w.heap.size w wr → ∀ (k : Nat), k < n → Calls Tryz.prog 84 #[.int .i64 k, .agg (srow (T k)), .pointer (some ⟨c0, 0, none⟩)] wr fun e w' => e = .returned (.bool (P k)) ∧ Below wr.heap.size wr w') :
    Calls Tryz.prog 83 #[.slice A n cap, .func (.func 84) #[] #[.pointer (some ⟨c0, 0, none⟩)]] w (FindT P T n w) := by
  have HP := Lib.hid hcl
  have HT := Lib.hid ht
  have r0 : RowC (w.alloc (.cells sr0 83)) w.heap.size sr0 83 := RowC.new _ _ _ _ rfl
  have hb0 : Below w.heap.size w (w.alloc (.cells sr0 83)) := (Below.refl _ _).alloc (Nat.le_refl _) _
  have HB0 := Lib.hid hb0
  clear hcl ht hb0
  go_enter Tryz.func83, Tryz.ntmps83
  go_wp2_with fail
  go_loopw [11] (fun i wr => ∃ k : Nat, k ≤ n ∧ i = .int .i64 k ∧ (∀ i, i < k → P i = false) ∧ RowC wr w.heap.size sr0 83 ∧ Below w.heap.size w wr)
    (fun i _ => n - (intOf i).toNat)
  case atStart => exact ⟨0, by omega, rfl, fun i h => by omega, r0, HB0.out⟩
  case round =>
    clear r0
    obtain ⟨k, hk, rfl, hno, g0, hB⟩ := hrel
    have HNO := Lib.hid hno
    have HG0 := Lib.hid g0
    have HBW := Lib.hid hB
    have hs := hB.size
    clear hno
    by_cases hlt : k < n
    · obtain ⟨b, o, rfl, hTb⟩ := (HT.out.below hB (Nat.le_refl _)).at_ hlt
      obtain ⟨q0, q1, q2, q3, q4, q5, q6, q7⟩ := hTb.2 k hlt
      clear hTb
      have i1 : (0 : Int) ≤ (k : Int) := by omega
      have i2 : (k : Int) < (n : Int) := by omega
      have hBa : Below w.heap.size w (wr.alloc (.cells #[.string (T k).nm, .int .i64 (T k).n0, .int .i64 (T k).n1, .int .i64 (T k).n2, .int .i64 (T k).n3, .int .i64 (T k).n4, .int .i64 (T k).mx, .int .i64 (T k).sb] 83)) := hB.alloc hs _
      have HCL := Lib.hid (HP.out (wr.alloc (.cells #[.string (T k).nm, .int .i64 (T k).n0, .int .i64 (T k).n1, .int .i64 (T k).n2, .int .i64 (T k).n3, .int .i64 (T k).n4, .int .i64 (T k).mx, .int .i64 (T k).sb] 83)) hBa k hlt)
      have HBA := Lib.hid hBa
      have ha := RowC.new wr #[.string (T k).nm, .int .i64 (T k).n0, .int .i64 (T k).n1, .int .i64 (T k).n2, .int .i64 (T k).n3, .int .i64 (T k).n4, .int .i64 (T k).mx, .int .i64 (T k).sb] 83 _ rfl
      have HA := Lib.hid ha
      have HGA := Lib.hid (g0.alloc (.cells #[.string (T k).nm, .int .i64 (T k).n0, .int .i64 (T k).n1, .int .i64 (T k).n2, .int .i64 (T k).n3, .int .i64 (T k).n4, .int .i64 (T k).mx, .int .i64 (T k).sb] 83))
      clear hB hBa ha g0
      go_wp2_with fail
      refine HCL.out.mono ?_
      rintro e w5 ⟨rfl, hB5⟩
      cases hp : P k
      · have HPK := Lib.hid hp
        clear hp
        have hg5 := Lib.hid (HGA.out.below hB5 HGA.out.lt)
        have hb5 := Lib.hid (HBA.out.trans (hB5.mono HBA.out.size))
        clear hB5 HA HGA HCL
        go_wp2
        exact ⟨⟨k + 1, by omega, by go_num, fun i hi => by
          by_cases h : i = k
          · subst h; exact HPK.out
          · exact HNO.out i (by omega), hg5.out, hb5.out⟩, by simp [intOf]; omega⟩
      · have HPK := Lib.hid hp
        clear hp
        have r3 := HGA.out.below hB5 HGA.out.lt
        have r6 := HA.out.below hB5 HA.out.lt
        have HB6 := Lib.hid (HBA.out.trans (hB5.mono HBA.out.size))
        have R3 := Lib.hid r3
        have d0 := r6.cell 0 (.string (T k).nm) rfl
        have d1 := r6.cell 1 (.int .i64 (T k).n0) rfl
        have d2 := r6.cell 2 (.int .i64 (T k).n1) rfl
        have d3 := r6.cell 3 (.int .i64 (T k).n2) rfl
        have d4 := r6.cell 4 (.int .i64 (T k).n3) rfl
        have d5 := r6.cell 5 (.int .i64 (T k).n4) rfl
        have d6 := r6.cell 6 (.int .i64 (T k).mx) rfl
        have d7 := r6.cell 7 (.int .i64 (T k).sb) rfl
        clear hB5 r3 r6
        go_wp2_with (refine wpList_store_row (by rfl) 83 _ _ (by rfl) w.heap.size #[.string (T k).nm, .int .i64 (T k).n0, .int .i64 (T k).n1, .int .i64 (T k).n2, .int .i64 (T k).n3, .int .i64 (T k).n4, .int .i64 (T k).mx, .int .i64 (T k).sb] (by rfl) (by rfl) _ _ R3.out (show _ = some 8 from infoSR) (by rfl) (by simp [Value.oneCell']) ?_)
        refine bodyPost_ret (results_ctS Tryz.results83 _ _ w.heap.size _ #[.string (T k).nm, .int .i64 (T k).n0, .int .i64 (T k).n1, .int .i64 (T k).n2, .int .i64 (T k).n3, .int .i64 (T k).n4, .int .i64 (T k).mx, .int .i64 (T k).sb] (0, 0) _ (.int .i64 k) (.bool true) (by rfl) (by rfl) (by rfl) (setRow_heap _ _ _ _ _ _ R3.out) Tryz.underlying83 (by rfl) (show _ = some 8 from infoSR)) rfl ?_
        exact ⟨.inl ⟨k, hlt, HPK.out, HNO.out, rfl⟩, below_setRow HB6.out (Nat.le_refl _) _⟩
    · obtain rfl : k = n := by omega
      clear hB g0
      go_wp2_with (refine wpList_store_row (by rfl) 83 _ _ (by rfl) w.heap.size sr0 (by rfl) (by rfl) _ _ HG0.out (show _ = some sr0.size from infoSR) (by rfl) (by simp [Value.oneCell']) ?_)
      refine bodyPost_ret (results_ctS Tryz.results83 _ _ w.heap.size _ sr0 (0, 0) _ (.int .i64 0) (.bool false) (by rfl) (by rfl) (by rfl) (setRow_heap _ _ _ _ _ _ HG0.out) Tryz.underlying83 (by rfl) (show _ = some sr0.size from infoSR)) rfl ?_
      exact ⟨.inr ⟨HNO.out, rfl⟩, below_setRow HBW.out (Nat.le_refl _) _⟩
end Go.Proofs.YtlpcallgkciklaaGreatDoor
