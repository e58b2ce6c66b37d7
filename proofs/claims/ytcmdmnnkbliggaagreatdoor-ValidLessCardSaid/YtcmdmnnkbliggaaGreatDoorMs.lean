/-
  Rows of a table in memory; systab.find at the three questions' functions.
-/
import Derived.WalkKit
import Derived.Deep.WholeRow
import Derived.Laws.EntriesVeiled
import Derived.Laws.CopyOwn
import Derived.Lib.Hide
import Derived.RegionTactic
import Derived.Test.YtcmdmnnkbliggaaGreatDoorProg
import Derived.Test.YtcmdmnnkbliggaaGreatDoorRw
import Derived.Deep.Cut
import Derived.ProofKit
import Derived.OpenShut
import Derived.Deep.Slices
import Derived.Deep.Fields
namespace Go.Proofs.YtcmdmnnkbliggaaGreatDoor
open Go.RowKit
set_option linter.unusedVariables false

structure SR where
  nm : ByteArray
  n0 : Int
  n1 : Int
  n2 : Int
  n3 : Int
  n4 : Int
  mx : Int
  sb : Int
abbrev srow (r : SR) : Array Value := #[.string r.nm, .int .i64 r.n0, .int .i64 r.n1, .int .i64 r.n2, .int .i64 r.n3, .int .i64 r.n4, .int .i64 r.mx, .int .i64 r.sb]
abbrev sr0 : Array Value := #[.string ⟨#[]⟩, .int .i64 0, .int .i64 0, .int .i64 0, .int .i64 0, .int .i64 0, .int .i64 0, .int .i64 0]
/-- The rows of a table. -/
def Tb (w : World) (b o n : Nat) (T : Nat → SR) : Prop := b < w.heap.size ∧ ∀ i, i < n → w.cell? ⟨b, o + i * 8, none⟩ = some (.string (T i).nm) ∧ w.cell? ⟨b, o + i * 8 + 1, none⟩ = some (.int .i64 (T i).n0) ∧ w.cell? ⟨b, o + i * 8 + 2, none⟩ = some (.int .i64 (T i).n1) ∧ w.cell? ⟨b, o + i * 8 + 3, none⟩ = some (.int .i64 (T i).n2) ∧ w.cell? ⟨b, o + i * 8 + 4, none⟩ = some (.int .i64 (T i).n3) ∧ w.cell? ⟨b, o + i * 8 + 5, none⟩ = some (.int .i64 (T i).n4) ∧ w.cell? ⟨b, o + i * 8 + 6, none⟩ = some (.int .i64 (T i).mx) ∧ w.cell? ⟨b, o + i * 8 + 7, none⟩ = some (.int .i64 (T i).sb)
theorem Tb.below {w w' : World} {b o n : Nat} {T : Nat → SR} {B : Nat} (h : Tb w b o n T) (hb : Below B w w') (hB : w.heap.size ≤ B) : Tb w' b o n T := by
  have hl := h.1
  refine ⟨?_, fun i hi => ?_⟩
  · have := hb.size; omega
  · obtain ⟨h0, h1, h2, h3, h4, h5, h6, h7⟩ := h.2 i hi
    exact ⟨((hb.cell (p := ⟨b, o + i * 8, none⟩) (Nat.lt_of_lt_of_le hl hB)).trans h0), ((hb.cell (p := ⟨b, o + i * 8 + 1, none⟩) (Nat.lt_of_lt_of_le hl hB)).trans h1), ((hb.cell (p := ⟨b, o + i * 8 + 2, none⟩) (Nat.lt_of_lt_of_le hl hB)).trans h2), ((hb.cell (p := ⟨b, o + i * 8 + 3, none⟩) (Nat.lt_of_lt_of_le hl hB)).trans h3), ((hb.cell (p := ⟨b, o + i * 8 + 4, none⟩) (Nat.lt_of_lt_of_le hl hB)).trans h4), ((hb.cell (p := ⟨b, o + i * 8 + 5, none⟩) (Nat.lt_of_lt_of_le hl hB)).trans h5), ((hb.cell (p := ⟨b, o + i * 8 + 6, none⟩) (Nat.lt_of_lt_of_le hl hB)).trans h6), ((hb.cell (p := ⟨b, o + i * 8 + 7, none⟩) (Nat.lt_of_lt_of_le hl hB)).trans h7)⟩
/-- A slice of rows, at any address. -/
def TbA (w : World) (A : Option Addr) (n : Nat) (T : Nat → SR) : Prop := n = 0 ∨ ∃ b o, A = some ⟨b, o, none⟩ ∧ Tb w b o n T
theorem TbA.below {w w' : World} {A : Option Addr} {n : Nat} {T : Nat → SR} {B : Nat} (h : TbA w A n T) (hb : Below B w w') (hB : w.heap.size ≤ B) : TbA w' A n T := by
  rcases h with h | ⟨b, o, rfl, ht⟩
  · exact .inl h
  · exact .inr ⟨b, o, rfl, ht.below hb hB⟩
theorem TbA.at_ {w : World} {A : Option Addr} {n : Nat} {T : Nat → SR} (h : TbA w A n T) {k : Nat} (hk : k < n) : ∃ b o, A = some ⟨b, o, none⟩ ∧ Tb w b o n T := by
  rcases h with h | h
  · omega
  · exact h
theorem TbA.of {w : World} {b o n : Nat} {T : Nat → SR} (h : Tb w b o n T) : TbA w (some ⟨b, o, none⟩) n T := .inr ⟨b, o, rfl, h⟩
theorem infoSR : (Tryz.prog.info? 114).map (·.size) = some 8 := by kernel_rfl
/-- What a look for a row gives. -/
def FindT (P : Nat → Bool) (T : Nat → SR) (n : Nat) (w : World) (e : Ending) (w' : World) : Prop :=
  ((∃ j, j < n ∧ P j = true ∧ (∀ i, i < j → P i = false) ∧ e = .returned (.tuple #[.agg (srow (T j)), .int .i64 j, .bool true])) ∨
   ((∀ i, i < n → P i = false) ∧ e = .returned (.tuple #[.agg sr0, .int .i64 0, .bool false]))) ∧ Below w.heap.size w w'
theorem results_ctS {P : Program} {fn : Func} {p q r : Tmp} {ty : TypeId} (h : fn.results = #[.cell p ty, .tmp q, .tmp r]) (tmps : Array Value) (w : World) (g : Nat) (t : TypeId) (cs : Array Value) (fr : Nat × Nat) (d : TypeDesc) (u v : Value)
    (hp : tmps.getD p undef = .pointer (some ⟨g, 0, none⟩)) (hq : tmps.getD q undef = u) (hr : tmps.getD r undef = v) (hg : w.heap[g]? = some (.cells cs t fr))
    (hu : P.underlying ty = some d) (hd : (match d with | .struct _ | .array _ _ => true | _ => false) = true) (hi : (P.info? ty).map (·.size) = some cs.size) :
    (results fn tmps).run P w = .ok (.tuple #[.agg cs, u, v]) w := by
  have hp' : tmps[p]?.getD undef = .pointer (some ⟨g, 0, none⟩) := by simpa using hp
  have hq' : tmps[q]?.getD undef = u := by simpa using hq
  have hr' : tmps[r]?.getD undef = v := by simpa using hr
  simp [results, h, hp', hq', hr', asAddr, run_loadVar_row w g t ty cs fr d hg hu hd hi, Result.andThen]

set_option maxRecDepth 100000 in
set_option maxHeartbeats 8000000 in
theorem find_name (A : Option Addr) (n cap : Nat) (T : Nat → SR) (c0 : Nat) (P : Nat → Bool) (w : World) (hn : n ≤ 1000000) (ht : TbA w A n T) (hcl : ∀ (wr : World), Below w.heap.size w wr → ∀ (k : Nat), k < n → Calls Tryz.prog 125 #[.int .i64 k, .agg (srow (T k)), .pointer (some ⟨c0, 0, none⟩)] wr fun e w' => e = .returned (.bool (P k)) ∧ Below wr.heap.size wr w') :
    Calls Tryz.prog 124 #[.slice A n cap, .func (.func 125) #[] #[.pointer (some ⟨c0, 0, none⟩)]] w (FindT P T n w) := by
  have HP := Lib.hid hcl
  have HT := Lib.hid ht
  have r0 : RowC (w.alloc (.cells sr0 114)) w.heap.size sr0 114 := RowC.new _ _ _ _ rfl
  have hb0 : Below w.heap.size w (w.alloc (.cells sr0 114)) := (Below.refl _ _).alloc (Nat.le_refl _) _
  have HB0 := Lib.hid hb0
  clear hcl ht hb0
  go_enter Tryz.func124, Tryz.ntmps124
  go_wp2_with fail
  go_loopw [11] (fun i wr => ∃ k : Nat, k ≤ n ∧ i = .int .i64 k ∧ (∀ i, i < k → P i = false) ∧ RowC wr w.heap.size sr0 114 ∧ Below w.heap.size w wr)
    (fun i _ => n - (intOf i).toNat)
  case atStart => exact ⟨0, by omega, rfl, fun i h => by omega, r0, HB0.out⟩
  case round =>
    clear r0
    obtain ⟨k, hk, rfl, hno, g0, hB⟩ := hrel
    have HNO := Lib.hid hno
    have HG0 := Lib.hid g0
    have HBW := Lib.hid hB
    have hs := hB.size
    clear hno
    by_cases hlt : k < n
    · obtain ⟨b, o, rfl, hTb⟩ := (HT.out.below hB (Nat.le_refl _)).at_ hlt
      obtain ⟨q0, q1, q2, q3, q4, q5, q6, q7⟩ := hTb.2 k hlt
      clear hTb
      have i1 : (0 : Int) ≤ (k : Int) := by omega
      have i2 : (k : Int) < (n : Int) := by omega
      have hBa : Below w.heap.size w (wr.alloc (.cells #[.string (T k).nm, .int .i64 (T k).n0, .int .i64 (T k).n1, .int .i64 (T k).n2, .int .i64 (T k).n3, .int .i64 (T k).n4, .int .i64 (T k).mx, .int .i64 (T k).sb] 114)) := hB.alloc hs _
      have HCL := Lib.hid (HP.out (wr.alloc (.cells #[.string (T k).nm, .int .i64 (T k).n0, .int .i64 (T k).n1, .int .i64 (T k).n2, .int .i64 (T k).n3, .int .i64 (T k).n4, .int .i64 (T k).mx, .int .i64 (T k).sb] 114)) hBa k hlt)
      have HBA := Lib.hid hBa
      have ha := RowC.new wr #[.string (T k).nm, .int .i64 (T k).n0, .int .i64 (T k).n1, .int .i64 (T k).n2, .int .i64 (T k).n3, .int .i64 (T k).n4, .int .i64 (T k).mx, .int .i64 (T k).sb] 114 _ rfl
      have HA := Lib.hid ha
      have HGA := Lib.hid (g0.alloc (.cells #[.string (T k).nm, .int .i64 (T k).n0, .int .i64 (T k).n1, .int .i64 (T k).n2, .int .i64 (T k).n3, .int .i64 (T k).n4, .int .i64 (T k).mx, .int .i64 (T k).sb] 114))
      clear hB hBa ha g0
      go_wp2_with fail
      refine HCL.out.mono ?_
      rintro e w5 ⟨rfl, hB5⟩
      cases hp : P k
      · have HPK := Lib.hid hp
        clear hp
        have hg5 := Lib.hid (HGA.out.below hB5 HGA.out.lt)
        have hb5 := Lib.hid (HBA.out.trans (hB5.mono HBA.out.size))
        clear hB5 HA HGA HCL
        go_wp2
        exact ⟨⟨k + 1, by omega, by go_num, fun i hi => by
          by_cases h : i = k
          · subst h; exact HPK.out
          · exact HNO.out i (by omega), hg5.out, hb5.out⟩, by simp [intOf]; omega⟩
      · have HPK := Lib.hid hp
        clear hp
        have r3 := HGA.out.below hB5 HGA.out.lt
        have r6 := HA.out.below hB5 HA.out.lt
        have HB6 := Lib.hid (HBA.out.trans (hB5.mono HBA.out.size))
        have R3 := Lib.hid r3
        have d0 := r6.cell 0 (.string (T k).nm) rfl
        have d1 := r6.cell 1 (.int .i64 (T k).n0) rfl
        have d2 := r6.cell 2 (.int .i64 (T k).n1) rfl
        have d3 := r6.cell 3 (.int .i64 (T k).n2) rfl
        have d4 := r6.cell 4 (.int .i64 (T k).n3) rfl
        have d5 := r6.cell 5 (.int .i64 (T k).n4) rfl
        have d6 := r6.cell 6 (.int .i64 (T k).mx) rfl
        have d7 := r6.cell 7 (.int .i64 (T k).sb) rfl
        clear hB5 r3 r6
        go_wp2_with (refine wpList_store_row (by rfl) 114 _ _ (by rfl) w.heap.size #[.string (T k).nm, .int .i64 (T k).n0, .int .i64 (T k).n1, .int .i64 (T k).n2, .int .i64 (T k).n3, .int .i64 (T k).n4, .int .i64 (T k).mx, .int .i64 (T k).sb] (by rfl) (by rfl) _ _ R3.out (show _ = some 8 from infoSR) (by rfl) (by simp [Value.oneCell']) ?_)
        refine bodyPost_ret (results_ctS Tryz.results124 _ _ w.heap.size _ #[.string (T k).nm, .int .i64 (T k).n0, .int .i64 (T k).n1, .int .i64 (T k).n2, .int .i64 (T k).n3, .int .i64 (T k).n4, .int .i64 (T k).mx, .int .i64 (T k).sb] (0, 0) _ (.int .i64 k) (.bool true) (by rfl) (by rfl) (by rfl) (setRow_heap _ _ _ _ _ _ R3.out) Tryz.underlying114 (by rfl) (show _ = some 8 from infoSR)) rfl ?_
        exact ⟨.inl ⟨k, hlt, HPK.out, HNO.out, rfl⟩, below_setRow HB6.out (Nat.le_refl _) _⟩
    · obtain rfl : k = n := by omega
      clear hB g0
      go_wp2_with (refine wpList_store_row (by rfl) 114 _ _ (by rfl) w.heap.size sr0 (by rfl) (by rfl) _ _ HG0.out (show _ = some sr0.size from infoSR) (by rfl) (by simp [Value.oneCell']) ?_)
      refine bodyPost_ret (results_ctS Tryz.results124 _ _ w.heap.size _ sr0 (0, 0) _ (.int .i64 0) (.bool false) (by rfl) (by rfl) (by rfl) (setRow_heap _ _ _ _ _ _ HG0.out) Tryz.underlying114 (by rfl) (show _ = some sr0.size from infoSR)) rfl ?_
      exact ⟨.inr ⟨HNO.out, rfl⟩, below_setRow HBW.out (Nat.le_refl _) _⟩
end Go.Proofs.YtcmdmnnkbliggaaGreatDoor

/-
  systab.Find, numberOf, isABI and Number of any table.
-/
namespace Go.Proofs.YtcmdmnnkbliggaaGreatDoor
open Go.RowKit
set_option linter.unusedVariables false

set_option maxHeartbeats 1000000 in
theorem find1_any (n : Int) (r : SR) (s : ByteArray) (CB : Nat) (w : World) (h : w.cell? ⟨CB, 0, none⟩ = some (.string s)) :
    Calls Tryz.prog 125 #[.int .i64 n, .agg (srow r), .pointer (some ⟨CB, 0, none⟩)] w fun e w' => e = .returned (.bool (r.nm.toList == s.toList)) ∧ Below w.heap.size w w' := by
  have hB : Below w.heap.size w (w.alloc (.cells #[.string r.nm, .int .i64 r.n0, .int .i64 r.n1, .int .i64 r.n2, .int .i64 r.n3, .int .i64 r.n4, .int .i64 r.mx, .int .i64 r.sb] 114)) := (Below.refl _ _).alloc (Nat.le_refl _) _
  have l := World.block_lt_of_cell? _ _ h
  have k := (hB.cell (p := ⟨CB, 0, none⟩) l).trans h
  have c0 := (RowC.new w #[.string r.nm, .int .i64 r.n0, .int .i64 r.n1, .int .i64 r.n2, .int .i64 r.n3, .int .i64 r.n4, .int .i64 r.mx, .int .i64 r.sb] 114 _ rfl).cell 0 (.string r.nm) rfl
  have HB := Lib.hid hB
  clear hB l h
  go_enter Tryz.func125, Tryz.ntmps125
  go_wp2
  go_ret
  exact ⟨rfl, HB.out⟩
abbrev isN (T : Nat → SR) (s : ByteArray) (k : Nat) : Bool := (T k).nm.toList == s.toList
set_option maxRecDepth 100000 in
set_option maxHeartbeats 8000000 in
theorem Find_any (A : Option Addr) (n cap : Nat) (T : Nat → SR) (s : ByteArray) (w : World) (hn : n ≤ 1000000) (ht : TbA w A n T) :
    Calls Tryz.prog 80 #[.slice A n cap, .string s] w (FindT (isN T s) T n w) := by
  have r0 : RowC ((w.alloc (.cells #[.string s] 9)).alloc (.cells sr0 114)) w.heap.size #[.string s] 9 := (RowC.new _ _ _ _ rfl).alloc _
  have r1 : RowC ((w.alloc (.cells #[.string s] 9)).alloc (.cells sr0 114)) (w.heap.size + 1) sr0 114 := RowC.new _ _ _ _ (by simp)
  have hb : Below w.heap.size w ((w.alloc (.cells #[.string s] 9)).alloc (.cells sr0 114)) := ((Below.refl _ _).alloc (Nat.le_refl _) _).alloc (by simp) _
  have HF := Lib.hid (find_name A n cap T w.heap.size (isN T s) _ hn (ht.below hb (Nat.le_refl _)) fun wr hwr k hk => find1_any _ (T k) s w.heap.size wr ((r0.below hwr r0.lt).cell 0 (.string s) rfl))
  have R1 := Lib.hid r1
  have HB := Lib.hid hb
  clear r0 r1 hb ht
  go_enter Tryz.func80, Tryz.ntmps80
  go_wp2_with fail
  refine HF.out.mono ?_
  rintro e w1 ⟨h, hB1⟩
  have hs := HB.out.size
  have HR1 := Lib.hid (R1.out.below hB1 R1.out.lt)
  have HBE := Lib.hid (HB.out.trans (hB1.mono hs))
  clear hB1 hs
  rcases h with ⟨j, hj, hp, hf, rfl⟩ | ⟨hno, rfl⟩
  · obtain ⟨r, hr⟩ : ∃ r, T j = r := ⟨_, rfl⟩
    have HH := Lib.hid (And.intro hj (And.intro hp (And.intro hf hr)))
    rw [hr]
    clear hj hp hf hr
    go_wp2_with (refine wpList_store_row (by rfl) 114 _ _ (by rfl) (w.heap.size + 1) #[.string r.nm, .int .i64 r.n0, .int .i64 r.n1, .int .i64 r.n2, .int .i64 r.n3, .int .i64 r.n4, .int .i64 r.mx, .int .i64 r.sb] (by rfl) (by rfl) _ _ HR1.out (show _ = some 8 from infoSR) (by rfl) (by simp [Value.oneCell']) ?_)
    refine bodyPost_ret (results_ctS Tryz.results80 _ _ (w.heap.size + 1) _ #[.string r.nm, .int .i64 r.n0, .int .i64 r.n1, .int .i64 r.n2, .int .i64 r.n3, .int .i64 r.n4, .int .i64 r.mx, .int .i64 r.sb] (0, 0) _ (.int .i64 j) (.bool true) (by rfl) (by rfl) (by rfl) (setRow_heap _ _ _ _ _ _ HR1.out) Tryz.underlying114 (by rfl) (show _ = some 8 from infoSR)) rfl ?_
    exact ⟨.inl ⟨j, HH.out.1, HH.out.2.1, HH.out.2.2.1, by rw [HH.out.2.2.2]⟩, below_setRow HBE.out (by omega) _⟩
  · have HH := Lib.hid hno
    clear hno
    go_wp2_with (refine wpList_store_row (by rfl) 114 _ _ (by rfl) (w.heap.size + 1) sr0 (by rfl) (by rfl) _ _ HR1.out (show _ = some sr0.size from infoSR) (by rfl) (by simp [Value.oneCell']) ?_)
    refine bodyPost_ret (results_ctS Tryz.results80 _ _ (w.heap.size + 1) _ sr0 (0, 0) _ (.int .i64 0) (.bool false) (by rfl) (by rfl) (by rfl) (setRow_heap _ _ _ _ _ _ HR1.out) Tryz.underlying114 (by rfl) (show _ = some sr0.size from infoSR)) rfl ?_
    exact ⟨.inr ⟨HH.out, rfl⟩, below_setRow HBE.out (by omega) _⟩
/-- A row's number in an ABI. -/
def numI (r : SR) : Nat → Int
  | 0 => r.n0
  | 1 => r.n1
  | 2 => r.n2
  | 3 => r.n3
  | _ => r.n4
def numAt (r : SR) (k a : Nat) : Int := if numI r a = -1 then -1 - (k : Int) else numI r a
theorem srow_num (r : SR) (a : Nat) (ha : a < 5) : (#[.string r.nm, .int .i64 r.n0, .int .i64 r.n1, .int .i64 r.n2, .int .i64 r.n3, .int .i64 r.n4, .int .i64 r.mx, .int .i64 r.sb] : Array Value)[1 + a]? = some (.int .i64 (numI r a)) := by
  have h : a = 0 ∨ a = 1 ∨ a = 2 ∨ a = 3 ∨ a = 4 := by omega
  rcases h with rfl | rfl | rfl | rfl | rfl <;> rfl
set_option maxRecDepth 100000 in
set_option maxHeartbeats 4000000 in
theorem numberOf_any (r : SR) (k a : Nat) (ha : a < 5) (hk : k ≤ 1000000) (w : World) :
    Calls Tryz.prog 166 #[.agg (srow r), .int .i64 k, .int .i64 a] w fun e w' => e = .returned (.int .i64 (numAt r k a)) ∧ Below w.heap.size w w' := by
  have hB : Below w.heap.size w (w.alloc (.cells #[.string r.nm, .int .i64 r.n0, .int .i64 r.n1, .int .i64 r.n2, .int .i64 r.n3, .int .i64 r.n4, .int .i64 r.mx, .int .i64 r.sb] 114)) := (Below.refl _ _).alloc (Nat.le_refl _) _
  have c0 := (RowC.new w #[.string r.nm, .int .i64 r.n0, .int .i64 r.n1, .int .i64 r.n2, .int .i64 r.n3, .int .i64 r.n4, .int .i64 r.mx, .int .i64 r.sb] 114 _ rfl).cell (1 + a) _ (srow_num r a ha)
  have HB := Lib.hid hB
  have i1 : (0 : Int) ≤ (a : Int) := by omega
  have i2 : (a : Int) < 5 := by omega
  have v1 : IntKind.i64.wrap (-1 - (k : Int)) = -1 - (k : Int) := by rw [IntKind.wrap_i64]; omega
  clear hB
  obtain ⟨x, hx⟩ : ∃ x, numI r a = x := ⟨_, rfl⟩
  have HX := Lib.hid hx
  rw [hx] at c0
  clear hx
  by_cases h : x = -1
  · have q : (x != -1) = false := by simp [h]
    have HR : Hid (numAt r k a = -1 - (k : Int)) := Lib.hid (by rw [numAt, if_pos (HX.out.trans h)])
    go_enter Tryz.func166, Tryz.ntmps166
    go_wp2
    go_ret
    exact ⟨by rw [HR.out]; first | rfl | simp, HB.out⟩
  · have q : (x != -1) = true := by simp [h]
    have HR : Hid (numAt r k a = x) := Lib.hid (by rw [numAt, if_neg (by rw [HX.out]; exact h), HX.out])
    go_enter Tryz.func166, Tryz.ntmps166
    go_wp2
    go_ret
    exact ⟨by rw [HR.out]; first | rfl | simp, HB.out⟩
set_option maxHeartbeats 1000000 in
theorem isABI_ok (a : Nat) (ha : a < 5) (w : World) : Calls Tryz.prog 164 #[.int .i64 a] w fun e w' => e = .returned (.bool true) ∧ w = w' := by
  have i1 : (a : Int) ≥ 0 := by omega
  have i2 : (a : Int) < 5 := by omega
  have q1 : decide ((a : Int) ≥ 0) = true := decide_eq_true i1
  have q2 : decide ((a : Int) < 5) = true := decide_eq_true i2
  go_enter Tryz.func164, Tryz.ntmps164
  go_wp2
  go_ret
  exact ⟨rfl, rfl⟩
end Go.Proofs.YtcmdmnnkbliggaaGreatDoor

/-
  The document's own Name of layer 11.
-/
namespace Go.Proofs.YtcmdmnnkbliggaaGreatDoor
open Go.RowKit
set_option linter.unusedVariables false

theorem ixStr (S : ByteArray) (p : Nat) (b : UInt8) (h : S.data.toList[p]? = some b) (W : World) : (Instr.index 9 (.string S) (.int .i64 p)).run Tryz.prog W = .ok (.int .u8 b.toNat) W := by
  have hp : p < S.size := by
    have := (List.getElem?_eq_some_iff.1 h).1
    simpa using this
  have hb : S[p] = b := by
    have := (List.getElem?_eq_some_iff.1 h).2
    show S.data[p] = b
    simpa using this
  have h1 : (0 ≤ (p : Int) ∧ (p : Int) < S.size) := by omega
  simp [Instr.index, run_underlying Tryz.underlying9, asIntOf, h1, hp, hb, go_sem]
/-- The bytes of a name. -/
def ChN (b : UInt8) : Prop := (97 ≤ b.toNat ∧ b.toNat ≤ 122) ∨ (48 ≤ b.toNat ∧ b.toNat ≤ 57) ∨ b.toNat = 95
/-- Which names may be. -/
def NmP (s : ByteArray) : Prop := s.size ≠ 0 ∧ s.size ≤ 30 ∧ (∀ c, s.data.toList[0]? = some c → 97 ≤ c.toNat ∧ c.toNat ≤ 122) ∧ (s.toList == ([100, 101, 102, 97, 117, 108, 116] : List UInt8)) = false ∧ (s.toList == ([120, 51, 50] : List UInt8)) = false ∧ ∀ b ∈ s.data.toList, ChN b
set_option maxRecDepth 100000 in
set_option maxHeartbeats 8000000 in
theorem refName_any (s : ByteArray) (w : World) :
    Calls Tryz.prog 109 #[.string s] w fun e w' => ((NmP s ∧ e = .returned (.bool true)) ∨ (¬ NmP s ∧ e = .returned (.bool false))) ∧ w = w' := by
  have hlen : s.data.toList.length = s.size := Array.length_toList
  have HL := Lib.hid hlen
  by_cases h0 : s.size = 0
  · have q0 : ((s.size : Int) == 0) = true := by rw [h0]; rfl
    have HN : Hid (¬ NmP s) := Lib.hid fun h => h.1 h0
    go_enter Tryz.func109, Tryz.ntmps109
    go_wp2
    go_ret
    exact ⟨.inr ⟨HN.out, rfl⟩, rfl⟩
  have q0 : ((s.size : Int) == 0) = false := beq_eq_false_iff_ne.2 (by omega)
  by_cases h9 : s.size > 30
  · have q1 : (s.size : Int) > 30 := by omega
    have q2 : decide ((s.size : Int) > 30) = true := decide_eq_true q1
    have HN : Hid (¬ NmP s) := Lib.hid fun h => by have := h.2.1; omega
    go_enter Tryz.func109, Tryz.ntmps109
    go_wp2
    go_ret
    exact ⟨.inr ⟨HN.out, rfl⟩, rfl⟩
  have q1 : ¬ (s.size : Int) > 30 := by omega
  have q2 : decide ((s.size : Int) > 30) = false := decide_eq_false q1
  obtain ⟨c, hc⟩ : ∃ c, s.data.toList[0]? = some c := ⟨_, List.getElem?_eq_getElem (by omega)⟩
  have hix0 : ∀ W, (Instr.index 9 (.string s) (.int .i64 0)).run Tryz.prog W = .ok (.int .u8 c.toNat) W := fun W => ixStr s 0 c hc W
  have p0 : (0 : Int) < (s.size : Int) := by omega
  have HC := Lib.hid hc
  clear hlen hc
  by_cases hlo : c.toNat < 97
  · have g1 : (c.toNat : Int) < 97 := by omega
    have g2 : decide ((c.toNat : Int) < 97) = true := decide_eq_true g1
    have HN : Hid (¬ NmP s) := Lib.hid fun h => by have := (h.2.2.1 c HC.out).1; omega
    go_enter Tryz.func109, Tryz.ntmps109
    go_wp2
    go_ret
    exact ⟨.inr ⟨HN.out, rfl⟩, rfl⟩
  have g1 : ¬ (c.toNat : Int) < 97 := by omega
  have g2 : decide ((c.toNat : Int) < 97) = false := decide_eq_false g1
  by_cases hhi : c.toNat > 122
  · have g3 : (c.toNat : Int) > 122 := by omega
    have g4 : decide ((c.toNat : Int) > 122) = true := decide_eq_true g3
    have HN : Hid (¬ NmP s) := Lib.hid fun h => by have := (h.2.2.1 c HC.out).2; omega
    go_enter Tryz.func109, Tryz.ntmps109
    go_wp2
    go_ret
    exact ⟨.inr ⟨HN.out, rfl⟩, rfl⟩
  have g3 : ¬ (c.toNat : Int) > 122 := by omega
  have g4 : decide ((c.toNat : Int) > 122) = false := decide_eq_false g3
  cases hd : (s.toList == ([100, 101, 102, 97, 117, 108, 116] : List UInt8))
  case true =>
    have HN : Hid (¬ NmP s) := Lib.hid fun h => by rw [h.2.2.2.1] at hd; cases hd
    go_enter Tryz.func109, Tryz.ntmps109
    go_wp2
    go_ret
    exact ⟨.inr ⟨HN.out, rfl⟩, rfl⟩
  cases hx : (s.toList == ([120, 51, 50] : List UInt8))
  case true =>
    have HN : Hid (¬ NmP s) := Lib.hid fun h => by rw [h.2.2.2.2.1] at hx; cases hx
    go_enter Tryz.func109, Tryz.ntmps109
    go_wp2
    go_ret
    exact ⟨.inr ⟨HN.out, rfl⟩, rfl⟩
  have HH : Hid ((∀ b ∈ s.data.toList, ChN b) → NmP s) := Lib.hid fun h => ⟨h0, by omega, fun c' hc' => by rw [HC.out] at hc'; cases hc'; omega, hd, hx, h⟩
  go_enter Tryz.func109, Tryz.ntmps109
  go_wp2_with fail
  go_loopw [3] (fun i wr => ∃ k : Nat, k ≤ s.size ∧ i = .int .i64 k ∧ (∀ b ∈ s.data.toList.take k, ChN b) ∧ w = wr)
    (fun i _ => s.size - (intOf i).toNat)
  case atStart => exact ⟨0, by omega, rfl, fun b hb => by simp at hb, rfl⟩
  case round =>
    clear hd hx hix0 q0 q1 q2 g1 g2 g3 g4
    obtain ⟨k, hk, rfl, hall, rfl⟩ := hrel
    have HA := Lib.hid hall
    clear hall
    by_cases hlt : k < s.size
    · have i1 : (k : Int) < (s.size : Int) := by omega
      obtain ⟨b, hb⟩ : ∃ b, s.data.toList[k]? = some b := ⟨_, List.getElem?_eq_getElem (by rw [HL.out]; exact hlt)⟩
      have hix := ixStr s k b hb
      have HB := Lib.hid hb
      clear hb
      by_cases hch : ChN b
      · have HT : Hid (∀ b ∈ s.data.toList.take (k + 1), ChN b) := Lib.hid fun c hc => by
          rw [List.take_add_one, HB.out] at hc
          rcases List.mem_append.1 hc with hc | hc
          · exact HA.out c hc
          · simp at hc; subst hc; exact hch
        have HE := Lib.hid hch
        clear hch
        rcases HE.out with ⟨a1, a2⟩ | ⟨a1, a2⟩ | a1
        · have e1 : (b.toNat : Int) ≥ 97 := by omega
          have e2 : (b.toNat : Int) ≤ 122 := by omega
          have f1 : decide ((b.toNat : Int) ≥ 97) = true := decide_eq_true e1
          have f2 : decide ((b.toNat : Int) ≤ 122) = true := decide_eq_true e2
          go_wp2
          exact ⟨⟨k + 1, by omega, by go_num, HT.out, trivial⟩, by simp [intOf]; omega⟩
        · have e1 : ¬ (b.toNat : Int) ≥ 97 := by omega
          have e2 : (b.toNat : Int) ≥ 48 := by omega
          have e3 : (b.toNat : Int) ≤ 57 := by omega
          have f1 : decide ((b.toNat : Int) ≥ 97) = false := decide_eq_false e1
          have f2 : decide ((b.toNat : Int) ≥ 48) = true := decide_eq_true e2
          have f3 : decide ((b.toNat : Int) ≤ 57) = true := decide_eq_true e3
          go_wp2
          exact ⟨⟨k + 1, by omega, by go_num, HT.out, trivial⟩, by simp [intOf]; omega⟩
        · have e1 : ¬ (b.toNat : Int) ≥ 97 := by omega
          have e2 : (b.toNat : Int) ≥ 48 := by omega
          have e3 : ¬ (b.toNat : Int) ≤ 57 := by omega
          have e4 : ((b.toNat : Int) == 95) = true := by rw [a1]; rfl
          have f1 : decide ((b.toNat : Int) ≥ 97) = false := decide_eq_false e1
          have f2 : decide ((b.toNat : Int) ≥ 48) = true := decide_eq_true e2
          have f3 : decide ((b.toNat : Int) ≤ 57) = false := decide_eq_false e3
          go_wp2
          exact ⟨⟨k + 1, by omega, by go_num, HT.out, trivial⟩, by simp [intOf]; omega⟩
      · have HN : Hid (¬ NmP s) := Lib.hid fun h => hch (h.2.2.2.2.2 b (List.mem_of_getElem? HB.out))
        unfold ChN at hch
        have e4 : ((b.toNat : Int) == 95) = false := beq_eq_false_iff_ne.2 (by omega)
        by_cases a1 : 97 ≤ b.toNat
        · have e1 : (b.toNat : Int) ≥ 97 := by omega
          have e2 : ¬ (b.toNat : Int) ≤ 122 := by omega
          have e5 : (b.toNat : Int) ≥ 48 := by omega
          have e6 : ¬ (b.toNat : Int) ≤ 57 := by omega
          have f1 : decide ((b.toNat : Int) ≥ 97) = true := decide_eq_true e1
          have f2 : decide ((b.toNat : Int) ≤ 122) = false := decide_eq_false e2
          have f5 : decide ((b.toNat : Int) ≥ 48) = true := decide_eq_true e5
          have f6 : decide ((b.toNat : Int) ≤ 57) = false := decide_eq_false e6
          clear hch
          go_wp2
          go_ret
          exact ⟨.inr ⟨HN.out, rfl⟩, rfl⟩
        · have e1 : ¬ (b.toNat : Int) ≥ 97 := by omega
          have f1 : decide ((b.toNat : Int) ≥ 97) = false := decide_eq_false e1
          by_cases a5 : 48 ≤ b.toNat
          · have e5 : (b.toNat : Int) ≥ 48 := by omega
            have e6 : ¬ (b.toNat : Int) ≤ 57 := by omega
            have f5 : decide ((b.toNat : Int) ≥ 48) = true := decide_eq_true e5
            have f6 : decide ((b.toNat : Int) ≤ 57) = false := decide_eq_false e6
            clear hch
            go_wp2
            go_ret
            exact ⟨.inr ⟨HN.out, rfl⟩, rfl⟩
          · have e5 : ¬ (b.toNat : Int) ≥ 48 := by omega
            have f5 : decide ((b.toNat : Int) ≥ 48) = false := decide_eq_false e5
            clear hch
            go_wp2
            go_ret
            exact ⟨.inr ⟨HN.out, rfl⟩, rfl⟩
    · obtain rfl : k = s.size := by omega
      have g1 : ¬ ((s.size : Nat) : Int) < (s.size : Int) := by omega
      have HN : Hid (NmP s) := Lib.hid (HH.out fun b hb => HA.out b (by rw [List.take_of_length_le (by rw [HL.out]; omega)]; exact hb))
      go_wp2
      go_ret
      exact ⟨.inl ⟨HN.out, rfl⟩, rfl⟩
end Go.Proofs.YtcmdmnnkbliggaaGreatDoor

/-
  The document's own Find, Number, At and Sub of layer 11.
-/
namespace Go.Proofs.YtcmdmnnkbliggaaGreatDoor
open Go.RowKit
set_option linter.unusedVariables false

/-- How a look for a place ends. -/
def FindP (P : Nat → Bool) (n : Nat) (w : World) (e : Ending) (w' : World) : Prop :=
  ((∃ j, j < n ∧ P j = true ∧ (∀ i, i < j → P i = false) ∧ e = .returned (.int .i64 j)) ∨
   ((∀ i, i < n → P i = false) ∧ e = .returned (.int .i64 (-1)))) ∧ w = w'
theorem Tb.num {w : World} {b o n : Nat} {T : Nat → SR} (h : Tb w b o n T) (i : Nat) (hi : i < n) (a : Nat) (ha : a < 5) : w.cell? ⟨b, o + i * 8 + 1 + a, none⟩ = some (.int .i64 (numI (T i) a)) := by
  obtain ⟨h0, h1, h2, h3, h4, h5, h6, h7⟩ := h.2 i hi
  have hc : a = 0 ∨ a = 1 ∨ a = 2 ∨ a = 3 ∨ a = 4 := by omega
  rcases hc with rfl | rfl | rfl | rfl | rfl
  · exact h1
  · exact h2
  · exact h3
  · exact h4
  · exact h5
set_option maxRecDepth 100000 in
set_option maxHeartbeats 4000000 in
theorem refFind_any (A : Option Addr) (n cap : Nat) (T : Nat → SR) (s : ByteArray) (w : World) (hn : n ≤ 1000000) (ht : TbA w A n T) :
    Calls Tryz.prog 57 #[.slice A n cap, .string s] w (FindP (isN T s) n w) := by
  have HT := Lib.hid ht
  clear ht
  go_enter Tryz.func57, Tryz.ntmps57
  go_wp2_with fail
  go_loopw [5] (fun i wr => ∃ k : Nat, k ≤ n ∧ i = .int .i64 k ∧ (∀ i, i < k → isN T s i = false) ∧ w = wr)
    (fun i _ => n - (intOf i).toNat)
  case atStart => exact ⟨0, by omega, rfl, fun i h => by omega, rfl⟩
  case round =>
    obtain ⟨k, hk, rfl, hno, rfl⟩ := hrel
    have HNO := Lib.hid hno
    clear hno
    by_cases hlt : k < n
    · obtain ⟨b, o, rfl, hTb⟩ := HT.out.at_ hlt
      obtain ⟨q0, -, -, -, -, -, -, -⟩ := hTb.2 k hlt
      clear hTb
      have i1 : (0 : Int) ≤ (k : Int) := by omega
      have i2 : (k : Int) < (n : Int) := by omega
      cases hp : ((T k).nm.toList == s.toList)
      · have HP := Lib.hid hp
        go_wp2
        exact ⟨⟨k + 1, by omega, by go_num, fun i hi => by
          by_cases h : i = k
          · subst h; exact HP.out
          · exact HNO.out i (by omega), trivial⟩, by simp [intOf]; omega⟩
      · have HP := Lib.hid hp
        go_wp2
        go_ret
        exact ⟨.inl ⟨k, hlt, HP.out, HNO.out, rfl⟩, rfl⟩
    · obtain rfl : k = n := by omega
      have i2 : ¬ (k : Int) < (k : Int) := by omega
      go_wp2
      go_ret
      exact ⟨.inr ⟨HNO.out, rfl⟩, rfl⟩
def numR (r : SR) (k a : Nat) : Int := if 0 ≤ numI r a then numI r a else -1 - (k : Int)
set_option maxRecDepth 100000 in
set_option maxHeartbeats 4000000 in
theorem refNumber_any (A : Option Addr) (n cap : Nat) (T : Nat → SR) (a : Nat) (ha : a < 5) (k : Nat) (hk : k < n) (w : World) (hn : n ≤ 1000000) (ht : TbA w A n T) :
    Calls Tryz.prog 155 #[.slice A n cap, .int .i64 a, .int .i64 k] w fun e w' => e = .returned (.int .i64 (numR (T k) k a)) ∧ w = w' := by
  obtain ⟨b, o, rfl, hTb⟩ := ht.at_ hk
  have c0 := hTb.num k hk a ha
  clear hTb
  have i1 : (0 : Int) ≤ (k : Int) := by omega
  have i2 : (k : Int) < (n : Int) := by omega
  have i3 : (0 : Int) ≤ (a : Int) := by omega
  have i4 : (a : Int) < 5 := by omega
  have v1 : IntKind.i64.wrap (-1 - (k : Int)) = -1 - (k : Int) := by rw [IntKind.wrap_i64]; omega
  obtain ⟨x, hx⟩ : ∃ x, numI (T k) a = x := ⟨_, rfl⟩
  have HX := Lib.hid hx
  rw [hx] at c0
  clear hx ht
  by_cases h : 0 ≤ x
  · have q0 : x ≥ 0 := h
    have q1 : decide (x ≥ 0) = true := decide_eq_true q0
    have HR : Hid (numR (T k) k a = x) := Lib.hid (by rw [numR, HX.out, if_pos h])
    go_enter Tryz.func155, Tryz.ntmps155
    go_wp2
    go_ret
    exact ⟨by rw [HR.out]; first | rfl | simp, rfl⟩
  · have q0 : ¬ x ≥ 0 := h
    have q1 : decide (x ≥ 0) = false := decide_eq_false q0
    have HR : Hid (numR (T k) k a = -1 - (k : Int)) := Lib.hid (by rw [numR, HX.out, if_neg h])
    go_enter Tryz.func155, Tryz.ntmps155
    go_wp2
    go_ret
    exact ⟨by rw [HR.out]; first | rfl | simp, rfl⟩
set_option maxRecDepth 100000 in
set_option maxHeartbeats 4000000 in
theorem refAt_any (A : Option Addr) (n cap : Nat) (T : Nat → SR) (a : Nat) (ha : a < 5) (x : Int) (w : World) (hn : n ≤ 1000000) (ht : TbA w A n T) :
    Calls Tryz.prog 115 #[.slice A n cap, .int .i64 a, .int .i64 x] w (FindP (fun k => numR (T k) k a == x) n w) := by
  have HN := Lib.hid fun k hk => refNumber_any A n cap T a ha k hk w hn ht
  clear ht
  go_enter Tryz.func115, Tryz.ntmps115
  go_wp2_with fail
  go_loopw [7] (fun i wr => ∃ k : Nat, k ≤ n ∧ i = .int .i64 k ∧ (∀ i, i < k → (numR (T i) i a == x) = false) ∧ w = wr)
    (fun i _ => n - (intOf i).toNat)
  case atStart => exact ⟨0, by omega, rfl, fun i h => by omega, rfl⟩
  case round =>
    obtain ⟨k, hk, rfl, hno, rfl⟩ := hrel
    have HNO := Lib.hid hno
    clear hno
    by_cases hlt : k < n
    · have HK := Lib.hid (HN.out k hlt)
      have i2 : (k : Int) < (n : Int) := by omega
      obtain ⟨y, hy⟩ : ∃ y, numR (T k) k a = y := ⟨_, rfl⟩
      rw [hy] at HK
      have HY := Lib.hid hy
      clear hy
      cases hp : (y == x)
      · have HP := Lib.hid hp
        go_wp2_with (go_at_call 155; refine HK.out.mono ?_; rintro e w5 ⟨rfl, rfl⟩)
        exact ⟨⟨k + 1, by omega, by go_num, fun i hi => by
          by_cases h : i = k
          · subst h; rw [HY.out]; exact HP.out
          · exact HNO.out i (by omega), trivial⟩, by simp [intOf]; omega⟩
      · have HP := Lib.hid hp
        go_wp2_with (go_at_call 155; refine HK.out.mono ?_; rintro e w5 ⟨rfl, rfl⟩)
        go_ret
        exact ⟨.inl ⟨k, hlt, by show (numR (T k) k a == x) = true; rw [HY.out]; exact HP.out, HNO.out, rfl⟩, rfl⟩
    · obtain rfl : k = n := by omega
      have i2 : ¬ (k : Int) < (k : Int) := by omega
      go_wp2
      go_ret
      exact ⟨.inr ⟨HNO.out, rfl⟩, rfl⟩
abbrev subR (T : Nat → SR) (mx sb : Int) (k : Nat) : Bool := (decide (mx ≥ 1) && decide (mx ≤ 2)) && ((T k).mx == mx) && ((T k).sb == sb)
set_option maxRecDepth 100000 in
set_option maxHeartbeats 4000000 in
theorem refSub_any (A : Option Addr) (n cap : Nat) (T : Nat → SR) (mx sb : Int) (w : World) (hn : n ≤ 1000000) (ht : TbA w A n T) :
    Calls Tryz.prog 114 #[.slice A n cap, .int .i64 mx, .int .i64 sb] w (FindP (subR T mx sb) n w) := by
  have HT := Lib.hid ht
  obtain ⟨g, hg⟩ : ∃ g, (decide (mx ≥ 1) && decide (mx ≤ 2)) = g := ⟨_, rfl⟩
  have HG := Lib.hid hg
  have hcs : (mx ≥ 1 ∧ mx ≤ 2 ∧ g = true) ∨ (mx ≥ 1 ∧ ¬ mx ≤ 2 ∧ g = false) ∨ (¬ mx ≥ 1 ∧ g = false) := by
    rw [← hg]
    by_cases h1 : mx ≥ 1 <;> by_cases h2 : mx ≤ 2 <;> simp [h1, h2]
  have HC := Lib.hid hcs
  clear ht hg hcs
  go_enter Tryz.func114, Tryz.ntmps114
  go_wp2_with fail
  go_loopw [7] (fun i wr => ∃ k : Nat, k ≤ n ∧ i = .int .i64 k ∧ (∀ i, i < k → subR T mx sb i = false) ∧ w = wr)
    (fun i _ => n - (intOf i).toNat)
  case atStart => exact ⟨0, by omega, rfl, fun i h => by omega, rfl⟩
  case round =>
    obtain ⟨k, hk, rfl, hno, rfl⟩ := hrel
    have HNO := Lib.hid hno
    clear hno
    by_cases hlt : k < n
    · obtain ⟨b, o, rfl, hTb⟩ := HT.out.at_ hlt
      obtain ⟨-, -, -, -, -, -, q6, q7⟩ := hTb.2 k hlt
      clear hTb
      have i1 : (0 : Int) ≤ (k : Int) := by omega
      have i2 : (k : Int) < (n : Int) := by omega
      have hno' : subR T mx sb k = false → ∃ k', k' ≤ n ∧ (Value.int .i64 ((k : Int) + 1)) = .int .i64 (k' : Nat) ∧ (∀ i, i < k' → subR T mx sb i = false) := fun h => ⟨k + 1, by omega, by go_num, fun i hi => by
          by_cases h' : i = k
          · subst h'; exact h
          · exact HNO.out i (by omega)⟩
      have HNX := Lib.hid hno'
      clear hno'
      rcases HC.out with ⟨m1, m2, rfl⟩ | ⟨m1, m2, rfl⟩ | ⟨m1, rfl⟩
      · have f1 : decide (mx ≥ 1) = true := decide_eq_true m1
        have f2 : decide (mx ≤ 2) = true := decide_eq_true m2
        cases h1 : ((T k).mx == mx)
        · have HX := Lib.hid (HNX.out (by simp [subR, h1]))
          go_wp2
          obtain ⟨k', a1, a2, a3⟩ := HX.out
          exact ⟨⟨k', a1, a2, a3, trivial⟩, by simp [intOf]; omega⟩
        · cases h2 : ((T k).sb == sb)
          · have HX := Lib.hid (HNX.out (by simp [subR, h2]))
            go_wp2
            obtain ⟨k', a1, a2, a3⟩ := HX.out
            exact ⟨⟨k', a1, a2, a3, trivial⟩, by simp [intOf]; omega⟩
          · have HX : Hid (subR T mx sb k = true) := Lib.hid (by simp only [subR, h1, h2, f1, f2]; rfl)
            go_wp2
            go_ret
            exact ⟨.inl ⟨k, hlt, HX.out, HNO.out, rfl⟩, rfl⟩
      · have f1 : decide (mx ≥ 1) = true := decide_eq_true m1
        have f2 : decide (mx ≤ 2) = false := decide_eq_false (by omega)
        have HX := Lib.hid (HNX.out (by simp only [subR, f1, f2]; simp))
        go_wp2
        obtain ⟨k', a1, a2, a3⟩ := HX.out
        exact ⟨⟨k', a1, a2, a3, trivial⟩, by simp [intOf]; omega⟩
      · have f1 : decide (mx ≥ 1) = false := decide_eq_false (by omega)
        have HX := Lib.hid (HNX.out (by simp only [subR, f1]; simp))
        go_wp2
        obtain ⟨k', a1, a2, a3⟩ := HX.out
        exact ⟨⟨k', a1, a2, a3, trivial⟩, by simp [intOf]; omega⟩
    · obtain rfl : k = n := by omega
      have i2 : ¬ (k : Int) < (k : Int) := by omega
      go_wp2
      go_ret
      exact ⟨.inr ⟨HNO.out, rfl⟩, rfl⟩
end Go.Proofs.YtcmdmnnkbliggaaGreatDoor

/-
  How an argument that is a slice of the document's rows is opened.
-/
namespace Go.Proofs.YtcmdmnnkbliggaaGreatDoor
open Go.ChangeShapes Go.WideShapes Go.RowKit Go.Deep
set_option linter.unusedVariables false

theorem addQ (b o j : Nat) : (⟨b, o, none⟩ : Addr).add j = ⟨b, o + j, none⟩ := by unfold Addr.add; split <;> simp_all
section
variable {H : Type} {enc : TypeId × Value → H}
theorem trod_str {w : World} {base : Nat} {spare : Nat → Bool} {held : Bool} {q : Nat} {c : Value} {y : DataW H × List MemPlace} (h : DataW.trod enc Tryz.prog w base spare held q 9 [c] = some y) : ∃ s : ByteArray, c = .string s := by
  obtain ⟨s, e, _, _⟩ := DataW.trod_string Tryz.underlying9 h
  simp only [List.cons.injEq, and_true] at e
  exact ⟨s, e⟩
theorem trod_i64 {w : World} {base : Nat} {spare : Nat → Bool} {held : Bool} {q : Nat} {c : Value} {y : DataW H × List MemPlace} (h : DataW.trod enc Tryz.prog w base spare held q 3 [c] = some y) : ∃ n : Int, c = .int .i64 n := by
  obtain ⟨s, e, _, _⟩ := DataW.trod_int Tryz.underlying3 h
  simp only [List.cons.injEq, and_true] at e
  exact ⟨s, e⟩
set_option maxRecDepth 100000 in
theorem trod_arr5 {w : World} {base : Nat} {spare : Nat → Bool} {held : Bool} {q : Nat} {c0 c1 c2 c3 c4 : Value} {y : DataW H × List MemPlace} (h : DataW.trod enc Tryz.prog w base spare held q 62 [c0, c1, c2, c3, c4] = some y) :
    ∃ n0 n1 n2 n3 n4 : Int, c0 = .int .i64 n0 ∧ c1 = .int .i64 n1 ∧ c2 = .int .i64 n2 ∧ c3 = .int .i64 n3 ∧ c4 = .int .i64 n4 := by
  obtain ⟨xs, m, _, _, _, hxl, hat⟩ := DataW.trod_array Tryz.underlying62 h
  have hc1 : Tryz.prog.cellsOf 3 = 1 := by kernel_rfl
  have hk : ∀ i : Nat, i < 5 → ∃ (c : Value) (n : Int), ([c0, c1, c2, c3, c4] : List Value)[i]? = some c ∧ c = .int .i64 n := fun i hi => by
    have hx := hat i hi
    rw [hc1, Nat.mul_one] at hx
    have hxs : xs[i]? = some (xs[i]'(by omega)) := List.getElem?_eq_getElem (by omega)
    rw [hxs] at hx
    obtain ⟨c, hc⟩ : ∃ c, ([c0, c1, c2, c3, c4] : List Value)[i]? = some c := ⟨_, List.getElem?_eq_getElem (by simpa using hi)⟩
    have hd : (([c0, c1, c2, c3, c4] : List Value).drop i).take 1 = [c] := by
      have hl : i < ([c0, c1, c2, c3, c4] : List Value).length := (List.getElem?_eq_some_iff.1 hc).1
      have he := (List.getElem?_eq_some_iff.1 hc).2
      rw [List.drop_eq_getElem_cons hl, he]
      rfl
    rw [hd] at hx
    obtain ⟨n, hn⟩ := trod_i64 hx
    exact ⟨c, n, hc, hn⟩
  obtain ⟨d0, n0, e0, l0⟩ := hk 0 (by decide)
  obtain ⟨d1, n1, e1, l1⟩ := hk 1 (by decide)
  obtain ⟨d2, n2, e2, l2⟩ := hk 2 (by decide)
  obtain ⟨d3, n3, e3, l3⟩ := hk 3 (by decide)
  obtain ⟨d4, n4, e4, l4⟩ := hk 4 (by decide)
  simp only [List.getElem?_cons_zero, List.getElem?_cons_succ, Option.some.injEq] at e0 e1 e2 e3 e4
  subst e0 e1 e2 e3 e4
  exact ⟨n0, n1, n2, n3, n4, l0, l1, l2, l3, l4⟩
set_option maxRecDepth 100000 in
set_option maxHeartbeats 1000000 in
theorem open_rows {w : World} {base : Nat} {spare : Nat → Bool} {held : Bool} {A : Option Addr} {n c : Nat} {d : DataW H} {p : List MemPlace} (h : DataW.Trod enc Tryz.prog w base spare held 44 (.slice A n c) d p) :
    ∃ T : Nat → SR, TbA w A n T := by
  obtain ⟨fuel, hf⟩ := h
  have hC : Tryz.prog.cellsOf 64 = 8 := by kernel_rfl
  have hCs : Tryz.prog.cellsOf 9 = 1 := by kernel_rfl
  have hCi : Tryz.prog.cellsOf 3 = 1 := by kernel_rfl
  have hCa : Tryz.prog.cellsOf 62 = 5 := by kernel_rfl
  rcases open_slice Tryz.underlying44 hf with ⟨hcs, _⟩ | ⟨a, len, cap, m, k, D, Pl, hcs, _, hl, hm, hmm, _, hi⟩
  · simp [Value.cells] at hcs
    obtain ⟨rfl, rfl, rfl⟩ := hcs
    exact ⟨fun _ => ⟨⟨#[]⟩, 0, 0, 0, 0, 0, 0, 0⟩, .inl rfl⟩
  · simp [Value.cells] at hcs
    obtain ⟨rfl, rfl, rfl⟩ := hcs
    rcases Nat.eq_zero_or_pos n with h0 | hpos
    · exact ⟨fun _ => ⟨⟨#[]⟩, 0, 0, 0, 0, 0, 0, 0⟩, .inl h0⟩
    have hel : ∀ i, i < n → ∃ r : SR, ∀ j, j < 8 → w.cell? ((a.add (i * 8)).add j) = (srow r)[j]? := fun i hin => by
      obtain ⟨cs', hc, ht⟩ := hi i (by rw [hmm]; split <;> omega)
      rw [hC] at hc
      obtain ⟨_, hlen, hat⟩ := World.cells?_some hc
      obtain ⟨xs, q, _, _, _, hxl, hg⟩ := DataW.trod_struct Tryz.underlying64 ht
      match cs', hlen with
      | [c0, c1, c2, c3, c4, c5, c6, c7], _ =>
        have hx : ∀ j, j < 4 → ∃ y, xs[j]? = some y := fun j hj => ⟨xs[j]'(by rw [hxl]; exact hj), List.getElem?_eq_getElem _⟩
        obtain ⟨y0, z0⟩ := hx 0 (by decide)
        obtain ⟨y1, z1⟩ := hx 1 (by decide)
        obtain ⟨y2, z2⟩ := hx 2 (by decide)
        obtain ⟨y3, z3⟩ := hx 3 (by decide)
        have g0 : DataW.trod enc Tryz.prog w base spare held q 9 [c0] = some y0 := by
          have h : DataW.trod enc Tryz.prog w base spare held q 9 (([c0, c1, c2, c3, c4, c5, c6, c7].drop 0).take (Tryz.prog.cellsOf 9)) = xs[0]? := hg 0 _ rfl
          rw [hCs, z0] at h
          exact h
        have g1 : DataW.trod enc Tryz.prog w base spare held q 62 [c1, c2, c3, c4, c5] = some y1 := by
          have h : DataW.trod enc Tryz.prog w base spare held q 62 (([c0, c1, c2, c3, c4, c5, c6, c7].drop 1).take (Tryz.prog.cellsOf 62)) = xs[1]? := hg 1 _ rfl
          rw [hCa, z1] at h
          exact h
        have g2 : DataW.trod enc Tryz.prog w base spare held q 3 [c6] = some y2 := by
          have h : DataW.trod enc Tryz.prog w base spare held q 3 (([c0, c1, c2, c3, c4, c5, c6, c7].drop 6).take (Tryz.prog.cellsOf 3)) = xs[2]? := hg 2 _ rfl
          rw [hCi, z2] at h
          exact h
        have g3 : DataW.trod enc Tryz.prog w base spare held q 3 [c7] = some y3 := by
          have h : DataW.trod enc Tryz.prog w base spare held q 3 (([c0, c1, c2, c3, c4, c5, c6, c7].drop 7).take (Tryz.prog.cellsOf 3)) = xs[3]? := hg 3 _ rfl
          rw [hCi, z3] at h
          exact h
        obtain ⟨s, rfl⟩ := trod_str g0
        obtain ⟨n0, n1, n2, n3, n4, rfl, rfl, rfl, rfl, rfl⟩ := trod_arr5 g1
        obtain ⟨mx, rfl⟩ := trod_i64 g2
        obtain ⟨sb, rfl⟩ := trod_i64 g3
        refine ⟨⟨s, n0, n1, n2, n3, n4, mx, sb⟩, fun j hj => ?_⟩
        rw [hat j hj]
        match j, hj with
        | 0, _ => rfl
        | 1, _ => rfl
        | 2, _ => rfl
        | 3, _ => rfl
        | 4, _ => rfl
        | 5, _ => rfl
        | 6, _ => rfl
        | 7, _ => rfl
    obtain ⟨b, o, spot⟩ := a
    obtain ⟨r0, hr0⟩ := hel 0 hpos
    have hz : w.cell? ⟨b, o, spot⟩ = some (.string r0.nm) := by
      have := hr0 0 (by decide)
      simpa [Addr.add] using this
    have hsp : spot = none := by
      cases spot with
      | none => rfl
      | some q =>
        unfold World.cell? at hz
        split at hz <;> simp at hz
    subst hsp
    have hlt : b < w.heap.size := World.block_lt_of_cell? _ _ hz
    refine ⟨fun i => if h : i < n then Classical.choose (hel i h) else ⟨⟨#[]⟩, 0, 0, 0, 0, 0, 0, 0⟩, .inr ⟨b, o, rfl, hlt, fun i hi' => ?_⟩⟩
    have hs := Classical.choose_spec (hel i hi')
    simp only [hi', dite_true]
    generalize Classical.choose (hel i hi') = r at hs
    simp only [addQ] at hs
    exact ⟨hs 0 (by decide), hs 1 (by decide), hs 2 (by decide), hs 3 (by decide), hs 4 (by decide), hs 5 (by decide), hs 6 (by decide), hs 7 (by decide)⟩
end
end Go.Proofs.YtcmdmnnkbliggaaGreatDoor
