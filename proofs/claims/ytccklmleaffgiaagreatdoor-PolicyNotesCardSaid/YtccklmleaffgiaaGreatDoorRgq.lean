/-
  Layer 16: norm.byName: the normal forms of rules by their names.
-/
import Derived.Test.YtccklmleaffgiaaGreatDoorQ7
import Derived.Maps.OwnSet
import Derived.Maps.OwnOps
import Derived.StringKeys
namespace Go.Proofs.YtccklmleaffgiaaGreatDoor
open Go.RowKit Go.Shelf Go.Maps Go.ChangeMaps Go.WideMaps
set_option linter.unusedVariables false

structure RS where
  A : Option Addr
  l : List RL
  c : Nat
def RS.v (r : RS) : Value := .slice r.A r.l.length r.c
/-- How a map's value reads: as itself. -/
def RR : Value → Option (DataW Value × List MemPlace) := fun v => some (.held v, [])
abbrev nilV : Value := .slice none 0 0
/-- A map of rules by names. -/
structure Named (w : World) (base bm q : Nat) (pre : List RV) (T : List UInt8 → RS) : Prop where
  map : ∃ D n, w.ownsMap Tryz.prog 9 RR bm n D ∧ n ≤ q ∧ (∀ s, D.atKey (.string s) (.held nilV) = .held (T s).v) ∧ ∀ s, has D (.string s) = true ↔ (T s).l ≠ []
  row : ∀ s, RowL w base (T s).A (T s).l (T s).c
  val : ∀ s, (T s).l.map RL.val = grp pre s
  apart : ∀ s s' g, s ≠ s' → (T s).v.ownBlock = some g → (T s').v.ownBlock ≠ some g
theorem map_not_cells {w : World} {bm n : Nat} {D : DataW Value} {T : TypeId} (h : w.ownsMap Tryz.prog 9 RR bm n D) : ¬ TyAt w bm T := fun ⟨cs, fr, h2⟩ => by
  obtain ⟨es, clock, h1, _⟩ := h
  rw [h1] at h2
  cases h2
theorem KeepC.grownMap {w w' : World} {bm n : Nat} {D : DataW Value} (h : w.ownsMap Tryz.prog 9 RR bm n D) (hg : w.grownBy w' (some bm)) : KeepC w w' := fun b cs fr hb => hg.block b (Array.getElem?_eq_some_iff.1 hb).1 fun e => by
  cases e
  exact map_not_cells h ⟨cs, fr, hb⟩
theorem ownsMap_block {w w' : World} {bm n : Nat} {D : DataW Value} (h : w.ownsMap Tryz.prog 9 RR bm n D) (he : w'.heap[bm]? = w.heap[bm]?) : w'.ownsMap Tryz.prog 9 RR bm n D := by
  obtain ⟨es, clock, h1, h2⟩ := h
  exact ⟨es, clock, he.trans h1, h2⟩
theorem Named.below {w w' : World} {base bm q B : Nat} {pre : List RV} {T : List UInt8 → RS} (h : Named w base bm q pre T) (hb : Below B w w') (hB : w.heap.size ≤ B) : Named w' base bm q pre T where
  map := by
    obtain ⟨D, n, h1, h2, h3, h4⟩ := h.map
    exact ⟨D, n, ownsMap_block h1 (hb.block bm (Nat.lt_of_lt_of_le h1.lt hB)), h2, h3, h4⟩
  row := fun s => (h.row s).below hb hB
  val := h.val
  apart := h.apart
theorem grp_one (v : RV) (s : List UInt8) : grp [v] s = match nR v with
    | none => []
    | some x => if x.key = s then [x] else [] := by
  unfold grp
  rw [List.filterMap_cons]
  cases hv : nR v with
  | none => rfl
  | some x =>
    simp only [List.filterMap_nil, List.filter_cons, List.filter_nil]
    by_cases e : x.key = s
    · simp [e]
    · simp [e]
def putT (T : List UInt8 → RS) (s0 : List UInt8) (x : RS) : List UInt8 → RS := fun s => if s = s0 then x else T s
theorem putT_same (T : List UInt8 → RS) (s0 : List UInt8) (x : RS) : putT T s0 x s0 = x := by simp [putT]
theorem putT_other (T : List UInt8 → RS) {s0 s : List UInt8} (x : RS) (h : s ≠ s0) : putT T s0 x s = T s := by simp [putT, h]
theorem Named.put {w w2 w3 : World} {base bm q : Nat} {pre : List RV} {T : List UInt8 → RS} (h : Named w base bm q pre T) (s0 : List UInt8) {g c' : Nat} {r : RL} {v : RV} (hbase : base ≤ w.heap.size)
    (hrow : RowL w2 base (some ⟨g, 0, none⟩) ((T s0).l ++ [r]) c') (hg : w.grownBy w2 (T s0).v.ownBlock) (hl : (T s0).v.ownBlock = some g ∨ g = w.heap.size) (hk : KeepC w w2)
    {D : DataW Value} {n : Nat} (h1 : w2.ownsMap Tryz.prog 9 RR bm n D) (h2 : n ≤ q) (h3 : ∀ s, D.atKey (.string s) (.held nilV) = .held (T s).v) (h4 : ∀ s, has D (.string s) = true ↔ (T s).l ≠ [])
    (hm : w3.ownsMap Tryz.prog 9 RR bm (n + 1) (D.put (.string s0) (.held (.slice (some ⟨g, 0, none⟩) ((T s0).l.length + 1) c')))) (hg3 : w2.grownBy w3 (some bm))
    (hv : nR v = some r.val) (hs : r.val.key = s0) : Named w3 base bm (q + 1) (pre ++ [v]) (putT T s0 ⟨some ⟨g, 0, none⟩, (T s0).l ++ [r], c'⟩) := by
  have hK3 : KeepC w2 w3 := KeepC.grownMap h1 hg3
  have hne : ∀ {A : Option Addr} {l : List RL} {c : Nat}, RowL w2 base A l c → (Value.slice A l.length c).ownBlock ≠ some bm := fun hr e => map_not_cells h1 (hr.ty bm e)
  have hother : ∀ s, s ≠ s0 → RowL w2 base (T s).A (T s).l (T s).c := fun s hs' => by
    refine (h.row s).kept hg ?_ hk
    rcases ho : (Value.slice (T s).A (T s).l.length (T s).c).ownBlock with _ | gg
    · exact .inl rfl
    · refine .inr fun e => ?_
      exact h.apart s s0 gg hs' ho e.symm
  have hI : Go.Maps.IsMap D := h1.isMap
  refine ⟨⟨_, n + 1, hm, by omega, fun s => ?_, fun s => ?_⟩, fun s => ?_, fun s => ?_, fun s s' gg hss hgg hgg' => ?_⟩
  · by_cases e : s = s0
    · subst e
      rw [putT_same, atKey_put_same hI (show WideAt.IsKeyLit (.string _) from trivial)]
      simp [RS.v]
    · rw [putT_other _ _ e, atKey_put_other (by simpa using e), h3]
  · by_cases e : s = s0
    · subst e
      rw [putT_same, has_put_same hI (show WideAt.IsKeyLit (.string _) from trivial)]
      simp
    · rw [putT_other _ _ e, has_put_other (by simpa using e), h4]
  · by_cases e : s = s0
    · subst e
      rw [putT_same]
      exact hrow.kept hg3 (.inr (hne hrow)) hK3
    · rw [putT_other _ _ e]
      exact (hother s e).kept hg3 (.inr (hne (hother s e))) hK3
  · rw [grp_append, grp_one, hv]
    by_cases e : s = s0
    · subst e
      rw [putT_same]
      simp only [hs, if_true]
      rw [List.map_append, h.val]
      rfl
    · rw [putT_other _ _ e, h.val]
      simp only [hs]
      rw [if_neg (fun h => e h.symm), List.append_nil]
  · have hold : ∀ t, (T t).v.ownBlock = some gg → gg < w.heap.size := fun t ht => ((h.row t).1.lt gg ht).2
    by_cases e : s = s0
    · subst e
      rw [putT_same] at hgg
      rw [putT_other _ _ (fun x => hss x.symm)] at hgg'
      cases hgg
      rcases hl with hl | hl
      · exact h.apart _ _ _ hss hl hgg'
      · have := hold _ hgg'; simp only at this; omega
    · rw [putT_other _ _ e] at hgg
      by_cases e' : s' = s0
      · subst e'
        rw [putT_same] at hgg'
        cases hgg'
        rcases hl with hl | hl
        · exact h.apart _ _ _ hss hgg hl
        · have := hold _ hgg; simp only at this; omega
      · rw [putT_other _ _ e'] at hgg'
        exact h.apart _ _ _ hss hgg hgg'
end Go.Proofs.YtccklmleaffgiaaGreatDoor
