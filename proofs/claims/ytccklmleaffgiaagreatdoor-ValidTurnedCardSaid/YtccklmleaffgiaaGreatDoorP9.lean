/-
  Rows of a table in memory; systab.find at the three questions' functions.
-/
import Derived.Test.YtccklmleaffgiaaGreatDoorProg
import Derived.Test.YtccklmleaffgiaaGreatDoorP1
import Derived.WalkKit
import Derived.Deep.WholeRow
import Derived.Laws.EntriesVeiled
import Derived.Laws.CopyOwn
import Derived.Lib.Hide
import Derived.RegionTactic
import Derived.Deep.Cut
import Derived.ProofKit
import Derived.OpenShut
import Derived.Deep.Slices
import Derived.Deep.Fields
namespace Go.Proofs.YtccklmleaffgiaaGreatDoor
open Go.RowKit
set_option linter.unusedVariables false

structure SR where
  nm : ByteArray
  n0 : Int
  n1 : Int
  n2 : Int
  n3 : Int
  n4 : Int
  mx : Int
  sb : Int
abbrev srow (r : SR) : Array Value := #[.string r.nm, .int .i64 r.n0, .int .i64 r.n1, .int .i64 r.n2, .int .i64 r.n3, .int .i64 r.n4, .int .i64 r.mx, .int .i64 r.sb]
abbrev sr0 : Array Value := #[.string ⟨#[]⟩, .int .i64 0, .int .i64 0, .int .i64 0, .int .i64 0, .int .i64 0, .int .i64 0, .int .i64 0]
/-- The rows of a table. -/
def Tb (w : World) (b o n : Nat) (T : Nat → SR) : Prop := b < w.heap.size ∧ ∀ i, i < n → w.cell? ⟨b, o + i * 8, none⟩ = some (.string (T i).nm) ∧ w.cell? ⟨b, o + i * 8 + 1, none⟩ = some (.int .i64 (T i).n0) ∧ w.cell? ⟨b, o + i * 8 + 2, none⟩ = some (.int .i64 (T i).n1) ∧ w.cell? ⟨b, o + i * 8 + 3, none⟩ = some (.int .i64 (T i).n2) ∧ w.cell? ⟨b, o + i * 8 + 4, none⟩ = some (.int .i64 (T i).n3) ∧ w.cell? ⟨b, o + i * 8 + 5, none⟩ = some (.int .i64 (T i).n4) ∧ w.cell? ⟨b, o + i * 8 + 6, none⟩ = some (.int .i64 (T i).mx) ∧ w.cell? ⟨b, o + i * 8 + 7, none⟩ = some (.int .i64 (T i).sb)
theorem Tb.below {w w' : World} {b o n : Nat} {T : Nat → SR} {B : Nat} (h : Tb w b o n T) (hb : Below B w w') (hB : w.heap.size ≤ B) : Tb w' b o n T := by
  have hl := h.1
  refine ⟨?_, fun i hi => ?_⟩
  · have := hb.size; omega
  · obtain ⟨h0, h1, h2, h3, h4, h5, h6, h7⟩ := h.2 i hi
    exact ⟨((hb.cell (p := ⟨b, o + i * 8, none⟩) (Nat.lt_of_lt_of_le hl hB)).trans h0), ((hb.cell (p := ⟨b, o + i * 8 + 1, none⟩) (Nat.lt_of_lt_of_le hl hB)).trans h1), ((hb.cell (p := ⟨b, o + i * 8 + 2, none⟩) (Nat.lt_of_lt_of_le hl hB)).trans h2), ((hb.cell (p := ⟨b, o + i * 8 + 3, none⟩) (Nat.lt_of_lt_of_le hl hB)).trans h3), ((hb.cell (p := ⟨b, o + i * 8 + 4, none⟩) (Nat.lt_of_lt_of_le hl hB)).trans h4), ((hb.cell (p := ⟨b, o + i * 8 + 5, none⟩) (Nat.lt_of_lt_of_le hl hB)).trans h5), ((hb.cell (p := ⟨b, o + i * 8 + 6, none⟩) (Nat.lt_of_lt_of_le hl hB)).trans h6), ((hb.cell (p := ⟨b, o + i * 8 + 7, none⟩) (Nat.lt_of_lt_of_le hl hB)).trans h7)⟩
/-- A slice of rows, at any address. -/
def TbA (w : World) (A : Option Addr) (n : Nat) (T : Nat → SR) : Prop := n = 0 ∨ ∃ b o, A = some ⟨b, o, none⟩ ∧ Tb w b o n T
theorem TbA.below {w w' : World} {A : Option Addr} {n : Nat} {T : Nat → SR} {B : Nat} (h : TbA w A n T) (hb : Below B w w') (hB : w.heap.size ≤ B) : TbA w' A n T := by
  rcases h with h | ⟨b, o, rfl, ht⟩
  · exact .inl h
  · exact .inr ⟨b, o, rfl, ht.below hb hB⟩
theorem TbA.at_ {w : World} {A : Option Addr} {n : Nat} {T : Nat → SR} (h : TbA w A n T) {k : Nat} (hk : k < n) : ∃ b o, A = some ⟨b, o, none⟩ ∧ Tb w b o n T := by
  rcases h with h | h
  · omega
  · exact h
theorem TbA.of {w : World} {b o n : Nat} {T : Nat → SR} (h : Tb w b o n T) : TbA w (some ⟨b, o, none⟩) n T := .inr ⟨b, o, rfl, h⟩
theorem infoSR : (Tryz.prog.info? 73).map (·.size) = some 8 := by kernel_rfl
/-- What a look for a row gives. -/
def FindT (P : Nat → Bool) (T : Nat → SR) (n : Nat) (w : World) (e : Ending) (w' : World) : Prop :=
  ((∃ j, j < n ∧ P j = true ∧ (∀ i, i < j → P i = false) ∧ e = .returned (.tuple #[.agg (srow (T j)), .int .i64 j, .bool true])) ∨
   ((∀ i, i < n → P i = false) ∧ e = .returned (.tuple #[.agg sr0, .int .i64 0, .bool false]))) ∧ Below w.heap.size w w'
theorem results_ctS {P : Program} {fn : Func} {p q r : Tmp} {ty : TypeId} (h : fn.results = #[.cell p ty, .tmp q, .tmp r]) (tmps : Array Value) (w : World) (g : Nat) (t : TypeId) (cs : Array Value) (fr : Nat × Nat) (d : TypeDesc) (u v : Value)
    (hp : tmps.getD p undef = .pointer (some ⟨g, 0, none⟩)) (hq : tmps.getD q undef = u) (hr : tmps.getD r undef = v) (hg : w.heap[g]? = some (.cells cs t fr))
    (hu : P.underlying ty = some d) (hd : (match d with | .struct _ | .array _ _ => true | _ => false) = true) (hi : (P.info? ty).map (·.size) = some cs.size) :
    (results fn tmps).run P w = .ok (.tuple #[.agg cs, u, v]) w := by
  have hp' : tmps[p]?.getD undef = .pointer (some ⟨g, 0, none⟩) := by simpa using hp
  have hq' : tmps[q]?.getD undef = u := by simpa using hq
  have hr' : tmps[r]?.getD undef = v := by simpa using hr
  simp [results, h, hp', hq', hr', asAddr, run_loadVar_row w g t ty cs fr d hg hu hd hi, Result.andThen]

set_option maxRecDepth 100000 in
set_option maxHeartbeats 8000000 in
theorem find_name (A : Option Addr) (n cap : Nat) (T : Nat → SR) (c0 : Nat) (P : Nat → Bool) (w : World) (hn : n ≤ 1000000) (ht : TbA w A n T) (hcl : ∀ (wr : World), Below w.heap.size w wr → ∀ (k : Nat), k < n → Calls Tryz.prog 72 #[.int .i64 k, .agg (srow (T k)), .pointer (some ⟨c0, 0, none⟩)] wr fun e w' => e = .returned (.bool (P k)) ∧ Below wr.heap.size wr w') :
    Calls Tryz.prog 71 #[.slice A n cap, .func (.func 72) #[] #[.pointer (some ⟨c0, 0, none⟩)]] w (FindT P T n w) := by
  have HP := Lib.hid hcl
  have HT := Lib.hid ht
  have r0 : RowC (w.alloc (.cells sr0 73)) w.heap.size sr0 73 := RowC.new _ _ _ _ rfl
  have hb0 : Below w.heap.size w (w.alloc (.cells sr0 73)) := (Below.refl _ _).alloc (Nat.le_refl _) _
  have HB0 := Lib.hid hb0
  clear hcl ht hb0
  go_enter Tryz.func71, Tryz.ntmps71
  go_wp2_with fail
  go_loopw [11] (fun i wr => ∃ k : Nat, k ≤ n ∧ i = .int .i64 k ∧ (∀ i, i < k → P i = false) ∧ RowC wr w.heap.size sr0 73 ∧ Below w.heap.size w wr)
    (fun i _ => n - (intOf i).toNat)
  case atStart => exact ⟨0, by omega, rfl, fun i h => by omega, r0, HB0.out⟩
  case round =>
    clear r0
    obtain ⟨k, hk, rfl, hno, g0, hB⟩ := hrel
    have HNO := Lib.hid hno
    have HG0 := Lib.hid g0
    have HBW := Lib.hid hB
    have hs := hB.size
    clear hno
    by_cases hlt : k < n
    · obtain ⟨b, o, rfl, hTb⟩ := (HT.out.below hB (Nat.le_refl _)).at_ hlt
      obtain ⟨q0, q1, q2, q3, q4, q5, q6, q7⟩ := hTb.2 k hlt
      clear hTb
      have i1 : (0 : Int) ≤ (k : Int) := by omega
      have i2 : (k : Int) < (n : Int) := by omega
      have hBa : Below w.heap.size w (wr.alloc (.cells #[.string (T k).nm, .int .i64 (T k).n0, .int .i64 (T k).n1, .int .i64 (T k).n2, .int .i64 (T k).n3, .int .i64 (T k).n4, .int .i64 (T k).mx, .int .i64 (T k).sb] 73)) := hB.alloc hs _
      have HCL := Lib.hid (HP.out (wr.alloc (.cells #[.string (T k).nm, .int .i64 (T k).n0, .int .i64 (T k).n1, .int .i64 (T k).n2, .int .i64 (T k).n3, .int .i64 (T k).n4, .int .i64 (T k).mx, .int .i64 (T k).sb] 73)) hBa k hlt)
      have HBA := Lib.hid hBa
      have ha := RowC.new wr #[.string (T k).nm, .int .i64 (T k).n0, .int .i64 (T k).n1, .int .i64 (T k).n2, .int .i64 (T k).n3, .int .i64 (T k).n4, .int .i64 (T k).mx, .int .i64 (T k).sb] 73 _ rfl
      have HA := Lib.hid ha
      have HGA := Lib.hid (g0.alloc (.cells #[.string (T k).nm, .int .i64 (T k).n0, .int .i64 (T k).n1, .int .i64 (T k).n2, .int .i64 (T k).n3, .int .i64 (T k).n4, .int .i64 (T k).mx, .int .i64 (T k).sb] 73))
      clear hB hBa ha g0
      go_wp2_with fail
      refine HCL.out.mono ?_
      rintro e w5 ⟨rfl, hB5⟩
      cases hp : P k
      · have HPK := Lib.hid hp
        clear hp
        have hg5 := Lib.hid (HGA.out.below hB5 HGA.out.lt)
        have hb5 := Lib.hid (HBA.out.trans (hB5.mono HBA.out.size))
        clear hB5 HA HGA HCL
        go_wp2
        exact ⟨⟨k + 1, by omega, by go_num, fun i hi => by
          by_cases h : i = k
          · subst h; exact HPK.out
          · exact HNO.out i (by omega), hg5.out, hb5.out⟩, by simp [intOf]; omega⟩
      · have HPK := Lib.hid hp
        clear hp
        have r3 := HGA.out.below hB5 HGA.out.lt
        have r6 := HA.out.below hB5 HA.out.lt
        have HB6 := Lib.hid (HBA.out.trans (hB5.mono HBA.out.size))
        have R3 := Lib.hid r3
        have d0 := r6.cell 0 (.string (T k).nm) rfl
        have d1 := r6.cell 1 (.int .i64 (T k).n0) rfl
        have d2 := r6.cell 2 (.int .i64 (T k).n1) rfl
        have d3 := r6.cell 3 (.int .i64 (T k).n2) rfl
        have d4 := r6.cell 4 (.int .i64 (T k).n3) rfl
        have d5 := r6.cell 5 (.int .i64 (T k).n4) rfl
        have d6 := r6.cell 6 (.int .i64 (T k).mx) rfl
        have d7 := r6.cell 7 (.int .i64 (T k).sb) rfl
        clear hB5 r3 r6
        go_wp2_with (refine wpList_store_row (by rfl) 73 _ _ (by rfl) w.heap.size #[.string (T k).nm, .int .i64 (T k).n0, .int .i64 (T k).n1, .int .i64 (T k).n2, .int .i64 (T k).n3, .int .i64 (T k).n4, .int .i64 (T k).mx, .int .i64 (T k).sb] (by rfl) (by rfl) _ _ R3.out (show _ = some 8 from infoSR) (by rfl) (by simp [Value.oneCell']) ?_)
        refine bodyPost_ret (results_ctS Tryz.results71 _ _ w.heap.size _ #[.string (T k).nm, .int .i64 (T k).n0, .int .i64 (T k).n1, .int .i64 (T k).n2, .int .i64 (T k).n3, .int .i64 (T k).n4, .int .i64 (T k).mx, .int .i64 (T k).sb] (0, 0) _ (.int .i64 k) (.bool true) (by rfl) (by rfl) (by rfl) (setRow_heap _ _ _ _ _ _ R3.out) Tryz.underlying73 (by rfl) (show _ = some 8 from infoSR)) rfl ?_
        exact ⟨.inl ⟨k, hlt, HPK.out, HNO.out, rfl⟩, below_setRow HB6.out (Nat.le_refl _) _⟩
    · obtain rfl : k = n := by omega
      clear hB g0
      go_wp2_with (refine wpList_store_row (by rfl) 73 _ _ (by rfl) w.heap.size sr0 (by rfl) (by rfl) _ _ HG0.out (show _ = some sr0.size from infoSR) (by rfl) (by simp [Value.oneCell']) ?_)
      refine bodyPost_ret (results_ctS Tryz.results71 _ _ w.heap.size _ sr0 (0, 0) _ (.int .i64 0) (.bool false) (by rfl) (by rfl) (by rfl) (setRow_heap _ _ _ _ _ _ HG0.out) Tryz.underlying73 (by rfl) (show _ = some sr0.size from infoSR)) rfl ?_
      exact ⟨.inr ⟨HNO.out, rfl⟩, below_setRow HBW.out (Nat.le_refl _) _⟩
end Go.Proofs.YtccklmleaffgiaaGreatDoor

/-
  systab.Find, numberOf, isABI and Number of any table.
-/
namespace Go.Proofs.YtccklmleaffgiaaGreatDoor
open Go.RowKit
set_option linter.unusedVariables false

set_option maxHeartbeats 1000000 in
theorem find1_any (n : Int) (r : SR) (s : ByteArray) (CB : Nat) (w : World) (h : w.cell? ⟨CB, 0, none⟩ = some (.string s)) :
    Calls Tryz.prog 72 #[.int .i64 n, .agg (srow r), .pointer (some ⟨CB, 0, none⟩)] w fun e w' => e = .returned (.bool (r.nm.toList == s.toList)) ∧ Below w.heap.size w w' := by
  have hB : Below w.heap.size w (w.alloc (.cells #[.string r.nm, .int .i64 r.n0, .int .i64 r.n1, .int .i64 r.n2, .int .i64 r.n3, .int .i64 r.n4, .int .i64 r.mx, .int .i64 r.sb] 73)) := (Below.refl _ _).alloc (Nat.le_refl _) _
  have l := World.block_lt_of_cell? _ _ h
  have k := (hB.cell (p := ⟨CB, 0, none⟩) l).trans h
  have c0 := (RowC.new w #[.string r.nm, .int .i64 r.n0, .int .i64 r.n1, .int .i64 r.n2, .int .i64 r.n3, .int .i64 r.n4, .int .i64 r.mx, .int .i64 r.sb] 73 _ rfl).cell 0 (.string r.nm) rfl
  have HB := Lib.hid hB
  clear hB l h
  go_enter Tryz.func72, Tryz.ntmps72
  go_wp2
  go_ret
  exact ⟨rfl, HB.out⟩
abbrev isN (T : Nat → SR) (s : ByteArray) (k : Nat) : Bool := (T k).nm.toList == s.toList
set_option maxRecDepth 100000 in
set_option maxHeartbeats 8000000 in
theorem Find_any (A : Option Addr) (n cap : Nat) (T : Nat → SR) (s : ByteArray) (w : World) (hn : n ≤ 1000000) (ht : TbA w A n T) :
    Calls Tryz.prog 45 #[.slice A n cap, .string s] w (FindT (isN T s) T n w) := by
  have r0 : RowC ((w.alloc (.cells #[.string s] 9)).alloc (.cells sr0 73)) w.heap.size #[.string s] 9 := (RowC.new _ _ _ _ rfl).alloc _
  have r1 : RowC ((w.alloc (.cells #[.string s] 9)).alloc (.cells sr0 73)) (w.heap.size + 1) sr0 73 := RowC.new _ _ _ _ (by simp)
  have hb : Below w.heap.size w ((w.alloc (.cells #[.string s] 9)).alloc (.cells sr0 73)) := ((Below.refl _ _).alloc (Nat.le_refl _) _).alloc (by simp) _
  have HF := Lib.hid (find_name A n cap T w.heap.size (isN T s) _ hn (ht.below hb (Nat.le_refl _)) fun wr hwr k hk => find1_any _ (T k) s w.heap.size wr ((r0.below hwr r0.lt).cell 0 (.string s) rfl))
  have R1 := Lib.hid r1
  have HB := Lib.hid hb
  clear r0 r1 hb ht
  go_enter Tryz.func45, Tryz.ntmps45
  go_wp2_with fail
  refine HF.out.mono ?_
  rintro e w1 ⟨h, hB1⟩
  have hs := HB.out.size
  have HR1 := Lib.hid (R1.out.below hB1 R1.out.lt)
  have HBE := Lib.hid (HB.out.trans (hB1.mono hs))
  clear hB1 hs
  rcases h with ⟨j, hj, hp, hf, rfl⟩ | ⟨hno, rfl⟩
  · obtain ⟨r, hr⟩ : ∃ r, T j = r := ⟨_, rfl⟩
    have HH := Lib.hid (And.intro hj (And.intro hp (And.intro hf hr)))
    rw [hr]
    clear hj hp hf hr
    go_wp2_with (refine wpList_store_row (by rfl) 73 _ _ (by rfl) (w.heap.size + 1) #[.string r.nm, .int .i64 r.n0, .int .i64 r.n1, .int .i64 r.n2, .int .i64 r.n3, .int .i64 r.n4, .int .i64 r.mx, .int .i64 r.sb] (by rfl) (by rfl) _ _ HR1.out (show _ = some 8 from infoSR) (by rfl) (by simp [Value.oneCell']) ?_)
    refine bodyPost_ret (results_ctS Tryz.results45 _ _ (w.heap.size + 1) _ #[.string r.nm, .int .i64 r.n0, .int .i64 r.n1, .int .i64 r.n2, .int .i64 r.n3, .int .i64 r.n4, .int .i64 r.mx, .int .i64 r.sb] (0, 0) _ (.int .i64 j) (.bool true) (by rfl) (by rfl) (by rfl) (setRow_heap _ _ _ _ _ _ HR1.out) Tryz.underlying73 (by rfl) (show _ = some 8 from infoSR)) rfl ?_
    exact ⟨.inl ⟨j, HH.out.1, HH.out.2.1, HH.out.2.2.1, by rw [HH.out.2.2.2]⟩, below_setRow HBE.out (by omega) _⟩
  · have HH := Lib.hid hno
    clear hno
    go_wp2_with (refine wpList_store_row (by rfl) 73 _ _ (by rfl) (w.heap.size + 1) sr0 (by rfl) (by rfl) _ _ HR1.out (show _ = some sr0.size from infoSR) (by rfl) (by simp [Value.oneCell']) ?_)
    refine bodyPost_ret (results_ctS Tryz.results45 _ _ (w.heap.size + 1) _ sr0 (0, 0) _ (.int .i64 0) (.bool false) (by rfl) (by rfl) (by rfl) (setRow_heap _ _ _ _ _ _ HR1.out) Tryz.underlying73 (by rfl) (show _ = some sr0.size from infoSR)) rfl ?_
    exact ⟨.inr ⟨HH.out, rfl⟩, below_setRow HBE.out (by omega) _⟩
/-- A row's number in an ABI. -/
def numI (r : SR) : Nat → Int
  | 0 => r.n0
  | 1 => r.n1
  | 2 => r.n2
  | 3 => r.n3
  | _ => r.n4
end Go.Proofs.YtccklmleaffgiaaGreatDoor

/-
  The document's own Name of layer 11.
-/
namespace Go.Proofs.YtccklmleaffgiaaGreatDoor
open Go.RowKit
set_option linter.unusedVariables false

/-- The bytes of a name. -/
def ChN (b : UInt8) : Prop := (97 ≤ b.toNat ∧ b.toNat ≤ 122) ∨ (48 ≤ b.toNat ∧ b.toNat ≤ 57) ∨ b.toNat = 95
/-- Which names may be. -/
def NmP (s : ByteArray) : Prop := s.size ≠ 0 ∧ s.size ≤ 30 ∧ (∀ c, s.data.toList[0]? = some c → 97 ≤ c.toNat ∧ c.toNat ≤ 122) ∧ (s.toList == ([100, 101, 102, 97, 117, 108, 116] : List UInt8)) = false ∧ (s.toList == ([120, 51, 50] : List UInt8)) = false ∧ ∀ b ∈ s.data.toList, ChN b
end Go.Proofs.YtccklmleaffgiaaGreatDoor

/-
  How an argument that is a slice of the document's rows is opened.
-/
namespace Go.Proofs.YtccklmleaffgiaaGreatDoor
open Go.ChangeShapes Go.WideShapes Go.RowKit Go.Deep
set_option linter.unusedVariables false

theorem addQ (b o j : Nat) : (⟨b, o, none⟩ : Addr).add j = ⟨b, o + j, none⟩ := by unfold Addr.add; split <;> simp_all
section
variable {H : Type} {enc : TypeId × Value → H}
theorem trod_str {w : World} {base : Nat} {spare : Nat → Bool} {held : Bool} {q : Nat} {c : Value} {y : DataW H × List MemPlace} (h : DataW.trod enc Tryz.prog w base spare held q 9 [c] = some y) : ∃ s : ByteArray, c = .string s := by
  obtain ⟨s, e, _, _⟩ := DataW.trod_string Tryz.underlying9 h
  simp only [List.cons.injEq, and_true] at e
  exact ⟨s, e⟩
theorem trod_i64 {w : World} {base : Nat} {spare : Nat → Bool} {held : Bool} {q : Nat} {c : Value} {y : DataW H × List MemPlace} (h : DataW.trod enc Tryz.prog w base spare held q 3 [c] = some y) : ∃ n : Int, c = .int .i64 n := by
  obtain ⟨s, e, _, _⟩ := DataW.trod_int Tryz.underlying3 h
  simp only [List.cons.injEq, and_true] at e
  exact ⟨s, e⟩
set_option maxRecDepth 100000 in
theorem trod_arr5 {w : World} {base : Nat} {spare : Nat → Bool} {held : Bool} {q : Nat} {c0 c1 c2 c3 c4 : Value} {y : DataW H × List MemPlace} (h : DataW.trod enc Tryz.prog w base spare held q 70 [c0, c1, c2, c3, c4] = some y) :
    ∃ n0 n1 n2 n3 n4 : Int, c0 = .int .i64 n0 ∧ c1 = .int .i64 n1 ∧ c2 = .int .i64 n2 ∧ c3 = .int .i64 n3 ∧ c4 = .int .i64 n4 := by
  obtain ⟨xs, m, _, _, _, hxl, hat⟩ := DataW.trod_array Tryz.underlying70 h
  have hc1 : Tryz.prog.cellsOf 3 = 1 := by kernel_rfl
  have hk : ∀ i : Nat, i < 5 → ∃ (c : Value) (n : Int), ([c0, c1, c2, c3, c4] : List Value)[i]? = some c ∧ c = .int .i64 n := fun i hi => by
    have hx := hat i hi
    rw [hc1, Nat.mul_one] at hx
    have hxs : xs[i]? = some (xs[i]'(by omega)) := List.getElem?_eq_getElem (by omega)
    rw [hxs] at hx
    obtain ⟨c, hc⟩ : ∃ c, ([c0, c1, c2, c3, c4] : List Value)[i]? = some c := ⟨_, List.getElem?_eq_getElem (by simpa using hi)⟩
    have hd : (([c0, c1, c2, c3, c4] : List Value).drop i).take 1 = [c] := by
      have hl : i < ([c0, c1, c2, c3, c4] : List Value).length := (List.getElem?_eq_some_iff.1 hc).1
      have he := (List.getElem?_eq_some_iff.1 hc).2
      rw [List.drop_eq_getElem_cons hl, he]
      rfl
    rw [hd] at hx
    obtain ⟨n, hn⟩ := trod_i64 hx
    exact ⟨c, n, hc, hn⟩
  obtain ⟨d0, n0, e0, l0⟩ := hk 0 (by decide)
  obtain ⟨d1, n1, e1, l1⟩ := hk 1 (by decide)
  obtain ⟨d2, n2, e2, l2⟩ := hk 2 (by decide)
  obtain ⟨d3, n3, e3, l3⟩ := hk 3 (by decide)
  obtain ⟨d4, n4, e4, l4⟩ := hk 4 (by decide)
  simp only [List.getElem?_cons_zero, List.getElem?_cons_succ, Option.some.injEq] at e0 e1 e2 e3 e4
  subst e0 e1 e2 e3 e4
  exact ⟨n0, n1, n2, n3, n4, l0, l1, l2, l3, l4⟩
set_option maxRecDepth 100000 in
set_option maxHeartbeats 1000000 in
theorem open_rows {w : World} {base : Nat} {spare : Nat → Bool} {held : Bool} {A : Option Addr} {n c : Nat} {d : DataW H} {p : List MemPlace} (h : DataW.Trod enc Tryz.prog w base spare held 44 (.slice A n c) d p) :
    ∃ T : Nat → SR, TbA w A n T := by
  obtain ⟨fuel, hf⟩ := h
  have hC : Tryz.prog.cellsOf 72 = 8 := by kernel_rfl
  have hCs : Tryz.prog.cellsOf 9 = 1 := by kernel_rfl
  have hCi : Tryz.prog.cellsOf 3 = 1 := by kernel_rfl
  have hCa : Tryz.prog.cellsOf 70 = 5 := by kernel_rfl
  rcases open_slice Tryz.underlying44 hf with ⟨hcs, _⟩ | ⟨a, len, cap, m, k, D, Pl, hcs, _, hl, hm, hmm, _, hi⟩
  · simp [Value.cells] at hcs
    obtain ⟨rfl, rfl, rfl⟩ := hcs
    exact ⟨fun _ => ⟨⟨#[]⟩, 0, 0, 0, 0, 0, 0, 0⟩, .inl rfl⟩
  · simp [Value.cells] at hcs
    obtain ⟨rfl, rfl, rfl⟩ := hcs
    rcases Nat.eq_zero_or_pos n with h0 | hpos
    · exact ⟨fun _ => ⟨⟨#[]⟩, 0, 0, 0, 0, 0, 0, 0⟩, .inl h0⟩
    have hel : ∀ i, i < n → ∃ r : SR, ∀ j, j < 8 → w.cell? ((a.add (i * 8)).add j) = (srow r)[j]? := fun i hin => by
      obtain ⟨cs', hc, ht⟩ := hi i (by rw [hmm]; split <;> omega)
      rw [hC] at hc
      obtain ⟨_, hlen, hat⟩ := World.cells?_some hc
      obtain ⟨xs, q, _, _, _, hxl, hg⟩ := DataW.trod_struct Tryz.underlying72 ht
      match cs', hlen with
      | [c0, c1, c2, c3, c4, c5, c6, c7], _ =>
        have hx : ∀ j, j < 4 → ∃ y, xs[j]? = some y := fun j hj => ⟨xs[j]'(by rw [hxl]; exact hj), List.getElem?_eq_getElem _⟩
        obtain ⟨y0, z0⟩ := hx 0 (by decide)
        obtain ⟨y1, z1⟩ := hx 1 (by decide)
        obtain ⟨y2, z2⟩ := hx 2 (by decide)
        obtain ⟨y3, z3⟩ := hx 3 (by decide)
        have g0 : DataW.trod enc Tryz.prog w base spare held q 9 [c0] = some y0 := by
          have h : DataW.trod enc Tryz.prog w base spare held q 9 (([c0, c1, c2, c3, c4, c5, c6, c7].drop 0).take (Tryz.prog.cellsOf 9)) = xs[0]? := hg 0 _ rfl
          rw [hCs, z0] at h
          exact h
        have g1 : DataW.trod enc Tryz.prog w base spare held q 70 [c1, c2, c3, c4, c5] = some y1 := by
          have h : DataW.trod enc Tryz.prog w base spare held q 70 (([c0, c1, c2, c3, c4, c5, c6, c7].drop 1).take (Tryz.prog.cellsOf 70)) = xs[1]? := hg 1 _ rfl
          rw [hCa, z1] at h
          exact h
        have g2 : DataW.trod enc Tryz.prog w base spare held q 3 [c6] = some y2 := by
          have h : DataW.trod enc Tryz.prog w base spare held q 3 (([c0, c1, c2, c3, c4, c5, c6, c7].drop 6).take (Tryz.prog.cellsOf 3)) = xs[2]? := hg 2 _ rfl
          rw [hCi, z2] at h
          exact h
        have g3 : DataW.trod enc Tryz.prog w base spare held q 3 [c7] = some y3 := by
          have h : DataW.trod enc Tryz.prog w base spare held q 3 (([c0, c1, c2, c3, c4, c5, c6, c7].drop 7).take (Tryz.prog.cellsOf 3)) = xs[3]? := hg 3 _ rfl
          rw [hCi, z3] at h
          exact h
        obtain ⟨s, rfl⟩ := trod_str g0
        obtain ⟨n0, n1, n2, n3, n4, rfl, rfl, rfl, rfl, rfl⟩ := trod_arr5 g1
        obtain ⟨mx, rfl⟩ := trod_i64 g2
        obtain ⟨sb, rfl⟩ := trod_i64 g3
        refine ⟨⟨s, n0, n1, n2, n3, n4, mx, sb⟩, fun j hj => ?_⟩
        rw [hat j hj]
        match j, hj with
        | 0, _ => rfl
        | 1, _ => rfl
        | 2, _ => rfl
        | 3, _ => rfl
        | 4, _ => rfl
        | 5, _ => rfl
        | 6, _ => rfl
        | 7, _ => rfl
    obtain ⟨b, o, spot⟩ := a
    obtain ⟨r0, hr0⟩ := hel 0 hpos
    have hz : w.cell? ⟨b, o, spot⟩ = some (.string r0.nm) := by
      have := hr0 0 (by decide)
      simpa [Addr.add] using this
    have hsp : spot = none := by
      cases spot with
      | none => rfl
      | some q =>
        unfold World.cell? at hz
        split at hz <;> simp at hz
    subst hsp
    have hlt : b < w.heap.size := World.block_lt_of_cell? _ _ hz
    refine ⟨fun i => if h : i < n then Classical.choose (hel i h) else ⟨⟨#[]⟩, 0, 0, 0, 0, 0, 0, 0⟩, .inr ⟨b, o, rfl, hlt, fun i hi' => ?_⟩⟩
    have hs := Classical.choose_spec (hel i hi')
    simp only [hi', dite_true]
    generalize Classical.choose (hel i hi') = r at hs
    simp only [addQ] at hs
    exact ⟨hs 0 (by decide), hs 1 (by decide), hs 2 (by decide), hs 3 (by decide), hs 4 (by decide), hs 5 (by decide), hs 6 (by decide), hs 7 (by decide)⟩
end
end Go.Proofs.YtccklmleaffgiaaGreatDoor
