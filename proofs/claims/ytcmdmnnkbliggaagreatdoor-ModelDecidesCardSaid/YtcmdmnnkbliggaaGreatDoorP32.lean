/-
  Layer 15: slices.Compact at conditions that lie inside a greater block: what lies beside them is kept; clear, with what is there behind it.
-/
import Derived.Test.YtcmdmnnkbliggaaGreatDoorP5
import Derived.RegionTactic
import Derived.Deep.RegionWith
import Derived.Deep.RegionHeld3
import Derived.Test.YtcmdmnnkbliggaaGreatDoorP7
import Derived.Test.YtcmdmnnkbliggaaGreatDoorP10
import Derived.Maps.OwnOps
import Derived.DeepKeys3
import Derived.Laws.BitsAllLaws
import Derived.Test.YtcmdmnnkbliggaaGreatDoorP9
import Derived.Test.YtcmdmnnkbliggaaGreatDoorRkp
import Derived.Test.YtcmdmnnkbliggaaGreatDoorP11
import Derived.Test.YtcmdmnnkbliggaaGreatDoorP31
import Derived.Test.YtcmdmnnkbliggaaGreatDoorP2
namespace Go.Proofs.YtcmdmnnkbliggaaGreatDoor
open Go.RowKit Go.Shelf Go.Lib Go.Sort
set_option linter.unusedVariables false

/-- A block of its type and size. -/
def TyZ (w : World) (b : Nat) (T : TypeId) (N : Nat) : Prop := ∃ cs, RowC w b cs T ∧ cs.size = N
theorem TyZ.ty {w : World} {b N : Nat} {T : TypeId} (h : TyZ w b T N) : TyAt w b T := by
  obtain ⟨cs, h, _⟩ := h
  exact ⟨cs, _, h⟩
theorem TyZ.set {w : World} {b N : Nat} {T : TypeId} (h : TyZ w b T N) (i : Nat) (v : Value) : TyZ (w.setCell ⟨b, i, none⟩ v) b T N := by
  obtain ⟨cs, h, hN⟩ := h
  exact ⟨_, h.set i v, by simp [hN]⟩
theorem TyZ.sets {b N : Nat} {T : TypeId} : ∀ (vs : List Value) (o : Nat) (w : World), TyZ w b T N → TyZ (w.setCells b o vs) b T N
  | [], _, _, h => h
  | v :: r, o, w, h => TyZ.sets r (o + 1) _ (h.set o v)
theorem TyZ.map {w : World} {b N : Nat} {T : TypeId} (h : TyZ w b T N) (f : Array Value → Array Value) (hf : ∀ a, (f a).size = a.size) : TyZ (mapBlock w b f) b T N := by
  obtain ⟨cs, h, hN⟩ := h
  refine ⟨f cs, ?_, by rw [hf, hN]⟩
  obtain ⟨h1, h2⟩ := Array.getElem?_eq_some_iff.1 h
  unfold RowC mapBlock
  simp only
  rw [Array.getElem?_eq_getElem (by simpa using h1), Array.getElem_modify, if_pos rfl, h2]
  rfl
theorem TyZ.grow {w : World} {b N : Nat} {T : TypeId} (h : TyZ w b T N) (os : Array Obj) : TyZ (grow w os) b T N := by
  obtain ⟨cs, h, hN⟩ := h
  refine ⟨cs, Eq.trans ?_ h, hN⟩
  unfold Sort.grow
  simp only
  exact Array.getElem?_append_left h.lt
theorem TyZ.sorted {w : World} {b N : Nat} {T : TypeId} (h : TyZ w b T N) (off n : Nat) (d : Array CV) (os : Array Obj) : TyZ (sortWorldK encC 4 w b off n d os) b T N :=
  TyZ.grow (TyZ.map (w := Sort.ahead w n) h _ fun a => by simp [putCells]) os
theorem TyZ.frozen {w : World} {b N : Nat} {T : TypeId} (h : TyZ w b T N) (i : Nat) : w.frozen? ⟨b, i, none⟩ = false := by
  obtain ⟨cs, h, _⟩ := h
  exact h.frozen i
theorem TyZ.is {w : World} {b N : Nat} {T : TypeId} (h : TyZ w b T N) (i : Nat) (hi : i < N) : (w.cell? ⟨b, i, none⟩).isSome = true := by
  obtain ⟨cs, h, hN⟩ := h
  rw [h.cell i (cs[i]'(by omega)) (Array.getElem?_eq_getElem _)]
  rfl
/-- A block of its type and size, kept beside a part of it. -/
def TyO (w : World) (blk lo hi : Nat) (T : TypeId) (N : Nat) (wr : World) : Prop := TyZ wr blk T N ∧ ∀ i, i < lo ∨ hi ≤ i → wr.cell? ⟨blk, i, none⟩ = w.cell? ⟨blk, i, none⟩
theorem TyO.start {w : World} {blk lo hi N : Nat} {T : TypeId} (h : TyZ w blk T N) : TyO w blk lo hi T N w := ⟨h, fun _ _ => rfl⟩
theorem TyO.sets {w wr : World} {blk lo hi N : Nat} {T : TypeId} (h : TyO w blk lo hi T N wr) (vs : List Value) (o : Nat) (ho : lo ≤ o ∧ o + vs.length ≤ hi) : TyO w blk lo hi T N (wr.setCells blk o vs) :=
  ⟨TyZ.sets _ _ _ h.1, fun i hi => (World.cell?_setCells_out blk vs o wr ⟨blk, i, none⟩ (fun _ _ => by show i < o ∨ o + vs.length ≤ i; omega)).trans (h.2 i hi)⟩
theorem TyO.set {w wr : World} {blk lo hi N : Nat} {T : TypeId} (h : TyO w blk lo hi T N wr) (o : Nat) (v : Value) (ho : lo ≤ o ∧ o + 1 ≤ hi) : TyO w blk lo hi T N (wr.setCell ⟨blk, o, none⟩ v) := h.sets [v] o ho
theorem TyO.trans {w1 w2 w3 : World} {b lo hi N : Nat} {T : TypeId} (h : TyO w1 b lo hi T N w2) (h2 : TyO w2 b lo hi T N w3) : TyO w1 b lo hi T N w3 := ⟨h2.1, fun i hi => (h2.2 i hi).trans (h.2 i hi)⟩
end Go.Proofs.YtcmdmnnkbliggaaGreatDoor

/-
  Layer 15: a set of requests as a map has it.
-/
namespace Go.Proofs.YtcmdmnnkbliggaaGreatDoor
open Go.RowKit Go.Shelf Go.Lib Go.Sort
set_option linter.unusedVariables false

theorem lawQ : WideMaps.KeyLaw Tryz.prog 228 := deep_law (m := 4) (by decide) (by kernel_rfl) (by kernel_rfl) (by kernel_rfl)
/-- A map's block as a set of requests. -/
def IsReq (w : World) (b : Nat) (S : List Value) : Prop :=
  ∃ es clock, w.heap[b]? = some (.map es clock) ∧ es.toList.map (fun e => (e.key, e.val)) = S.map (fun v => (v, Value.agg #[])) ∧ ∀ v ∈ S, ∃ l, keyOf Tryz.prog 228 v = some l
theorem findQ {es : List MapEntry} {S : List Value} (h : es.map (fun e => (e.key, e.val)) = S.map (fun v => (v, Value.agg #[]))) (hS : ∀ v ∈ S, ∃ l, keyOf Tryz.prog 228 v = some l) {x : Value} {lx : Lit} (hx : keyOf Tryz.prog 228 x = some lx) (w : World) :
    (x ∉ S ∧ (Instr.findKey 228 x es).run Tryz.prog w = .ok none w) ∨ (x ∈ S ∧ ∃ j, (Instr.findKey 228 x es).run Tryz.prog w = .ok (some (j, .agg #[])) w) := by
  have hmem : ∀ e ∈ es, e.key ∈ S ∧ e.val = .agg #[] := fun e he => by
    have h1 : (e.key, e.val) ∈ S.map (fun v => (v, Value.agg #[])) := by rw [← h]; exact List.mem_map.2 ⟨e, he, rfl⟩
    obtain ⟨v, hv, e1⟩ := List.mem_map.1 h1
    obtain ⟨e2, e3⟩ := Prod.mk.inj e1
    exact ⟨by rw [← e2]; exact hv, e3.symm⟩
  rcases lawQ.find w hx es (fun e he => hS _ (hmem e he).1) with ⟨h1, h2⟩ | ⟨j, e, h1, h2, h3⟩
  · left
    refine ⟨fun hin => ?_, h1⟩
    have h4 : (x, Value.agg #[]) ∈ es.map (fun e => (e.key, e.val)) := by rw [h]; exact List.mem_map.2 ⟨x, hin, rfl⟩
    obtain ⟨e, he, e1⟩ := List.mem_map.1 h4
    exact h2 e he (Prod.mk.inj e1).1
  · right
    have he := List.mem_of_getElem? h2
    obtain ⟨m1, m2⟩ := hmem e he
    rw [h3] at m1
    rw [m2] at h1
    exact ⟨m1, j, h1⟩
theorem IsReq.new (w : World) : IsReq (w.alloc (.map #[] 0)) w.heap.size [] := ⟨#[], 0, (MapKept.heap_alloc w _).1, rfl, fun _ h => by cases h⟩
theorem IsReq.of_block {w w' : World} {b : Nat} {S : List Value} (h : IsReq w b S) (hb : w'.heap[b]? = w.heap[b]?) : IsReq w' b S := by
  obtain ⟨es, c, h1, h2, h3⟩ := h
  exact ⟨es, c, hb.trans h1, h2, h3⟩
theorem IsReq.lt {w : World} {b : Nat} {S : List Value} (h : IsReq w b S) : b < w.heap.size := by
  obtain ⟨es, c, h1, h2⟩ := h
  exact (Array.getElem?_eq_some_iff.1 h1).1
theorem IsReq.below {w w' : World} {b B : Nat} {S : List Value} (h : IsReq w b S) (hB : Below B w w') (hb : b < B) : IsReq w' b S := h.of_block (hB.block b hb)
theorem IsReq.look {w : World} {b : Nat} {S : List Value} (h : IsReq w b S) {x : Value} {lx : Lit} (hx : keyOf Tryz.prog 228 x = some lx) (q : Bool) (hq : q = true ↔ x ∈ S) : (Instr.lookup 181 (.map (some b)) x true).run Tryz.prog w = .ok (.tuple #[.agg #[], .bool q]) w := by
  obtain ⟨es, clock, hb, he, hS⟩ := h
  have hc := lawQ.check w es.isEmpty hx
  have hz : (zeroValue 231).run Tryz.prog w = .ok (.agg #[]) w := by
    exact (zero_of_info (n := 0) (by kernel_rfl)).1 w
  rcases findQ he hS hx w with ⟨h1, h2⟩ | ⟨h1, j, h2⟩
  · have hq0 : q = false := by cases q; rfl; exact absurd (hq.1 rfl) h1
    subst hq0
    simp [Instr.lookup, run_underlying Tryz.underlying181, MapKept.run_getObj_map hb, hc, h2, hz, Result.andThen]
  · have hq1 : q = true := hq.2 h1
    subst hq1
    simp [Instr.lookup, run_underlying Tryz.underlying181, MapKept.run_getObj_map hb, hc, h2, Result.andThen]
theorem IsReq.insert {w : World} {b : Nat} {S : List Value} (h : IsReq w b S) {x : Value} {lx : Lit} (hx : keyOf Tryz.prog 228 x = some lx) (hn : x ∉ S) :
    ∃ w', (Instr.mapUpdate 181 (.map (some b)) x (.agg #[])).run Tryz.prog w = .ok () w' ∧ IsReq w' b (S ++ [x]) ∧ w.grownBy w' (some b) := by
  obtain ⟨es, clock, hb, he, hS⟩ := h
  have hc := lawQ.check w false hx
  have hlt : b < w.heap.size := (Array.getElem?_eq_some_iff.1 hb).1
  rcases findQ he hS hx w with ⟨h1, hf⟩ | ⟨h1, _⟩
  · refine ⟨{ w with heap := w.heap.setIfInBounds b (.map (es.push { key := x, val := .agg #[], born := clock }) (clock + 1)) }, ?_, ⟨es.push { key := x, val := .agg #[], born := clock }, clock + 1, ?_, ?_, fun v hv => ?_⟩, ⟨rfl, rfl, rfl, by simp, fun i _ hi => ?_⟩⟩
    · simp [Instr.mapUpdate, run_underlying Tryz.underlying181, MapKept.run_getObj_map hb, hc, hf, MapKept.run_setObj_map _ hb, Result.andThen]
    · simp [hlt]
    · simp [he]
    · rcases List.mem_append.1 hv with hv | hv
      · exact hS v hv
      · rw [List.mem_singleton] at hv
        exact ⟨lx, by rw [hv]; exact hx⟩
    · have hne : b ≠ i := fun e => hi (by rw [e])
      simp [hne]
  · exact absurd h1 hn
end Go.Proofs.YtcmdmnnkbliggaaGreatDoor

/-
  Layer 15: beside (a condition's value beside its mask), IndexFunc and ContainsFunc by it.
-/
namespace Go.Proofs.YtcmdmnnkbliggaaGreatDoor
open Go.RowKit Go.Shelf Go.Lib Go.Sort
set_option linter.unusedVariables false

/-- Has a condition's value bits beside its mask? -/
def besF (c : CD) : Bool := (c.o == 7) && ((c.v &&& (18446744073709551615 - c.m) : Nat) != 0)
end Go.Proofs.YtcmdmnnkbliggaaGreatDoor

/-
  Layer 15: Check of any policy by any table.
-/
namespace Go.Proofs.YtcmdmnnkbliggaaGreatDoor
open Go.RowKit Go.Shelf Go.Lib Go.Sort
set_option linter.unusedVariables false

theorem But1.row {b g : Nat} {w w' : World} {cs : Array Value} {T : TypeId} (h : But1 b w w') (hr : RowC w g cs T) (hn : g ≠ b) : RowC w' g cs T := (h.block g hr.lt (fun e => hn (by cases e; rfl))).trans hr
theorem But1.cellAt {b g i : Nat} {w w' : World} {v : Value} (h : But1 b w w') (hc : w.cell? ⟨g, i, none⟩ = some v) (hn : g ≠ b) : w'.cell? ⟨g, i, none⟩ = some v := by
  have hl := World.block_lt_of_cell? _ _ hc
  have he := h.block g hl (fun e => hn (by cases e; rfl))
  rw [← hc]
  simp only [World.cell?, he]
end Go.Proofs.YtcmdmnnkbliggaaGreatDoor

/-
  Layer 15: the document's Check.
-/
namespace Go.Proofs.YtcmdmnnkbliggaaGreatDoor
open Go.RowKit Go.Shelf Go.Lib Go.Sort
set_option linter.unusedVariables false

/-- Is a rule hidden by one ahead of it, in the document's words? -/
def hidD (a r : RV) : Bool := decide (a.nm = r.nm) && (a.L.isEmpty || alkF a.L r.L)
/-- The first rule that is wrong, in the document's words. -/
inductive VR (T : Nat → SR) (tn : Nat) (L : List RV) : Nat → Nat → Nat → Prop
  | nil (i : Nat) (h : L.length ≤ i) : VR T tn L i 0 0
  | name (i : Nat) (r : RV) (hr : L[i]? = some r) (h : (List.range tn).any (isN T r.nm) = false) : VR T tn L i i 14
  | bes (i : Nat) (r : RV) (hr : L[i]? = some r) (h : (List.range tn).any (isN T r.nm) = true) (h2 : r.L.any besF = true) : VR T tn L i i 16
  | twice (i : Nat) (r : RV) (hr : L[i]? = some r) (h : (List.range tn).any (isN T r.nm) = true) (h2 : r.L.any besF = false) (h3 : (L.take i).any (fun a => hidD a r) = true) : VR T tn L i i 15
  | go (i : Nat) (r : RV) (a f : Nat) (hr : L[i]? = some r) (h : (List.range tn).any (isN T r.nm) = true) (h2 : r.L.any besF = false) (h3 : (L.take i).any (fun a => hidD a r) = false) (h4 : VR T tn L (i + 1) a f) : VR T tn L i a f
/-- What the document's Check tells. -/
def ChkD (k u : Int) (L : List RV) (T : Nat → SR) (tn a f : Nat) : Prop :=
  (rightV k u L = false ∧ a = 0 ∧ f = 13) ∨ (rightV k u L = true ∧ (((∃ p q, RightP T tn p q ∧ q ≠ 0) ∧ a = 0 ∧ f = 18) ∨ (RightP T tn 0 0 ∧ VR T tn L 0 a f)))
end Go.Proofs.YtcmdmnnkbliggaaGreatDoor

/-
  Layer 15: the program's Check and the document's answer alike.
-/
namespace Go.Proofs.YtcmdmnnkbliggaaGreatDoor
open Go.RowKit Go.Shelf Go.Lib Go.Sort
set_option linter.unusedVariables false

theorem VR.uniq {T : Nat → SR} {tn : Nat} {L : List RV} {i a f : Nat} (h : VR T tn L i a f) : ∀ {a' f' : Nat}, VR T tn L i a' f' → a = a' ∧ f = f' := by
  induction h with
  | nil i h =>
    intro a' f' h'
    have hn : L[i]? = none := List.getElem?_eq_none h
    cases h' with
    | nil _ _ => exact ⟨rfl, rfl⟩
    | name _ r hr => rw [hn] at hr; cases hr
    | bes _ r hr => rw [hn] at hr; cases hr
    | twice _ r hr => rw [hn] at hr; cases hr
    | go _ r _ _ hr => rw [hn] at hr; cases hr
  | name i r hr h =>
    intro a' f' h'
    cases h' with
    | nil _ hl => rw [List.getElem?_eq_none hl] at hr; cases hr
    | name _ r2 hr2 h2 => exact ⟨rfl, rfl⟩
    | bes _ r2 hr2 h2 => rw [hr] at hr2; cases hr2; rw [h] at h2; cases h2
    | twice _ r2 hr2 h2 => rw [hr] at hr2; cases hr2; rw [h] at h2; cases h2
    | go _ r2 _ _ hr2 h2 => rw [hr] at hr2; cases hr2; rw [h] at h2; cases h2
  | bes i r hr h h3 =>
    intro a' f' h'
    cases h' with
    | nil _ hl => rw [List.getElem?_eq_none hl] at hr; cases hr
    | name _ r2 hr2 h2 => rw [hr] at hr2; cases hr2; rw [h] at h2; cases h2
    | bes _ r2 hr2 h2 => exact ⟨rfl, rfl⟩
    | twice _ r2 hr2 h2 h4 => rw [hr] at hr2; cases hr2; rw [h3] at h4; cases h4
    | go _ r2 _ _ hr2 h2 h4 => rw [hr] at hr2; cases hr2; rw [h3] at h4; cases h4
  | twice i r hr h h3 h5 =>
    intro a' f' h'
    cases h' with
    | nil _ hl => rw [List.getElem?_eq_none hl] at hr; cases hr
    | name _ r2 hr2 h2 => rw [hr] at hr2; cases hr2; rw [h] at h2; cases h2
    | bes _ r2 hr2 h2 h4 => rw [hr] at hr2; cases hr2; rw [h3] at h4; cases h4
    | twice _ r2 hr2 h2 h4 => exact ⟨rfl, rfl⟩
    | go _ r2 _ _ hr2 h2 h4 h6 => rw [hr] at hr2; cases hr2; rw [h5] at h6; cases h6
  | go i r a f hr h h3 h5 h7 ih =>
    intro a' f' h'
    cases h' with
    | nil _ hl => rw [List.getElem?_eq_none hl] at hr; cases hr
    | name _ r2 hr2 h2 => rw [hr] at hr2; cases hr2; rw [h] at h2; cases h2
    | bes _ r2 hr2 h2 h4 => rw [hr] at hr2; cases hr2; rw [h3] at h4; cases h4
    | twice _ r2 hr2 h2 h4 h6 => rw [hr] at hr2; cases hr2; rw [h5] at h6; cases h6
    | go _ r2 _ _ hr2 h2 h4 h6 h8 => exact ih h8
theorem ChkD.uniq {k u : Int} {L : List RV} {T : Nat → SR} {tn a f a' f' : Nat} (h : ChkD k u L T tn a f) (h' : ChkD k u L T tn a' f') : a = a' ∧ f = f' := by
  rcases h with ⟨h0, rfl, rfl⟩ | ⟨h1, ⟨⟨p, q, hp, hq⟩, rfl, rfl⟩ | ⟨h2, h3⟩⟩ <;> rcases h' with ⟨g0, rfl, rfl⟩ | ⟨g1, ⟨⟨p', q', gp, gq⟩, rfl, rfl⟩ | ⟨g2, g3⟩⟩
  · exact ⟨rfl, rfl⟩
  · rw [h0] at g1; cases g1
  · rw [h0] at g1; cases g1
  · rw [h1] at g0; cases g0
  · exact ⟨rfl, rfl⟩
  · exact absurd (hp.uniq g2).2 hq
  · rw [h1] at g0; cases g0
  · exact absurd (gp.uniq h2).2 gq
  · exact h3.uniq g3
end Go.Proofs.YtcmdmnnkbliggaaGreatDoor
