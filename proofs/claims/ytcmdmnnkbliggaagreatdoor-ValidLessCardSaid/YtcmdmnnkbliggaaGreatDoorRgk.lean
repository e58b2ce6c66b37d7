/-
  Layer 16: norm.byName: the normal forms of rules by their names.
-/
import Derived.Test.YtcmdmnnkbliggaaGreatDoorMk
import Derived.Maps.OwnSet
import Derived.Maps.OwnOps
import Derived.StringKeys
namespace Go.Proofs.YtcmdmnnkbliggaaGreatDoor
open Go.RowKit Go.Shelf Go.Maps Go.ChangeMaps Go.WideMaps
set_option linter.unusedVariables false

structure RS where
  A : Option Addr
  l : List RL
  c : Nat
def RS.v (r : RS) : Value := .slice r.A r.l.length r.c
/-- How a map's value reads: as itself. -/
def RR : Value → Option (DataW Value × List MemPlace) := fun v => some (.held v, [])
abbrev nilV : Value := .slice none 0 0
/-- A map of rules by names. -/
structure Named (w : World) (base bm q : Nat) (pre : List RV) (T : List UInt8 → RS) : Prop where
  map : ∃ D n, w.ownsMap Tryz.prog 9 RR bm n D ∧ n ≤ q ∧ (∀ s, D.atKey (.string s) (.held nilV) = .held (T s).v) ∧ ∀ s, has D (.string s) = true ↔ (T s).l ≠ []
  row : ∀ s, RowL w base (T s).A (T s).l (T s).c
  val : ∀ s, (T s).l.map RL.val = grp pre s
  apart : ∀ s s' g, s ≠ s' → (T s).v.ownBlock = some g → (T s').v.ownBlock ≠ some g
theorem map_not_cells {w : World} {bm n : Nat} {D : DataW Value} {T : TypeId} (h : w.ownsMap Tryz.prog 9 RR bm n D) : ¬ TyAt w bm T := fun ⟨cs, fr, h2⟩ => by
  obtain ⟨es, clock, h1, _⟩ := h
  rw [h1] at h2
  cases h2
theorem KeepC.grownMap {w w' : World} {bm n : Nat} {D : DataW Value} (h : w.ownsMap Tryz.prog 9 RR bm n D) (hg : w.grownBy w' (some bm)) : KeepC w w' := fun b cs fr hb => hg.block b (Array.getElem?_eq_some_iff.1 hb).1 fun e => by
  cases e
  exact map_not_cells h ⟨cs, fr, hb⟩
theorem ownsMap_block {w w' : World} {bm n : Nat} {D : DataW Value} (h : w.ownsMap Tryz.prog 9 RR bm n D) (he : w'.heap[bm]? = w.heap[bm]?) : w'.ownsMap Tryz.prog 9 RR bm n D := by
  obtain ⟨es, clock, h1, h2⟩ := h
  exact ⟨es, clock, he.trans h1, h2⟩
theorem Named.below {w w' : World} {base bm q B : Nat} {pre : List RV} {T : List UInt8 → RS} (h : Named w base bm q pre T) (hb : Below B w w') (hB : w.heap.size ≤ B) : Named w' base bm q pre T where
  map := by
    obtain ⟨D, n, h1, h2, h3, h4⟩ := h.map
    exact ⟨D, n, ownsMap_block h1 (hb.block bm (Nat.lt_of_lt_of_le h1.lt hB)), h2, h3, h4⟩
  row := fun s => (h.row s).below hb hB
  val := h.val
  apart := h.apart
theorem Named.start (w : World) (base : Nat) : Named (w.alloc (.map #[] 0)) base w.heap.size 0 [] (fun _ => ⟨none, [], 0⟩) where
  map := ⟨.map [], 0, World.ownsMap_made w _ _ _, Nat.le_refl _, fun s => by simp [DataW.atKey, RS.v], fun s => by simp [has]⟩
  row := fun s => RowL.nil_ _ _
  val := fun s => by simp [grp]
  apart := fun s s' g _ h => by cases h
theorem grp_one (v : RV) (s : List UInt8) : grp [v] s = match nR v with
    | none => []
    | some x => if x.key = s then [x] else [] := by
  unfold grp
  rw [List.filterMap_cons]
  cases hv : nR v with
  | none => rfl
  | some x =>
    simp only [List.filterMap_nil, List.filter_cons, List.filter_nil]
    by_cases e : x.key = s
    · simp [e]
    · simp [e]
theorem Named.skip {w : World} {base bm q : Nat} {pre : List RV} {T : List UInt8 → RS} (h : Named w base bm q pre T) {v : RV} (hv : nR v = none) : Named w base bm (q + 1) (pre ++ [v]) T where
  map := by
    obtain ⟨D, n, h1, h2, h3, h4⟩ := h.map
    exact ⟨D, n, h1, by omega, h3, h4⟩
  row := h.row
  val := fun s => by rw [h.val, grp_append, grp_one, hv, List.append_nil]
  apart := h.apart
def putT (T : List UInt8 → RS) (s0 : List UInt8) (x : RS) : List UInt8 → RS := fun s => if s = s0 then x else T s
theorem putT_same (T : List UInt8 → RS) (s0 : List UInt8) (x : RS) : putT T s0 x s0 = x := by simp [putT]
theorem putT_other (T : List UInt8 → RS) {s0 s : List UInt8} (x : RS) (h : s ≠ s0) : putT T s0 x s = T s := by simp [putT, h]
/-- An append onto one name's row leaves the map's block. -/
theorem Named.mapKept {w w2 : World} {base bm q : Nat} {pre : List RV} {T : List UInt8 → RS} (h : Named w base bm q pre T) (s0 : List UInt8) (hg : w.grownBy w2 (T s0).v.ownBlock) :
    ∃ D n, w2.ownsMap Tryz.prog 9 RR bm n D ∧ n ≤ q ∧ (∀ s, D.atKey (.string s) (.held nilV) = .held (T s).v) ∧ ∀ s, has D (.string s) = true ↔ (T s).l ≠ [] := by
  obtain ⟨D, n, h1, h2, h3, h4⟩ := h.map
  refine ⟨D, n, ownsMap_block h1 (hg.block bm h1.lt fun e => ?_), h2, h3, h4⟩
  exact map_not_cells h1 ((h.row s0).ty bm e.symm)
theorem Named.put {w w2 w3 : World} {base bm q : Nat} {pre : List RV} {T : List UInt8 → RS} (h : Named w base bm q pre T) (s0 : List UInt8) {g c' : Nat} {r : RL} {v : RV} (hbase : base ≤ w.heap.size)
    (hrow : RowL w2 base (some ⟨g, 0, none⟩) ((T s0).l ++ [r]) c') (hg : w.grownBy w2 (T s0).v.ownBlock) (hl : (T s0).v.ownBlock = some g ∨ g = w.heap.size) (hk : KeepC w w2)
    {D : DataW Value} {n : Nat} (h1 : w2.ownsMap Tryz.prog 9 RR bm n D) (h2 : n ≤ q) (h3 : ∀ s, D.atKey (.string s) (.held nilV) = .held (T s).v) (h4 : ∀ s, has D (.string s) = true ↔ (T s).l ≠ [])
    (hm : w3.ownsMap Tryz.prog 9 RR bm (n + 1) (D.put (.string s0) (.held (.slice (some ⟨g, 0, none⟩) ((T s0).l.length + 1) c')))) (hg3 : w2.grownBy w3 (some bm))
    (hv : nR v = some r.val) (hs : r.val.key = s0) : Named w3 base bm (q + 1) (pre ++ [v]) (putT T s0 ⟨some ⟨g, 0, none⟩, (T s0).l ++ [r], c'⟩) := by
  have hK3 : KeepC w2 w3 := KeepC.grownMap h1 hg3
  have hne : ∀ {A : Option Addr} {l : List RL} {c : Nat}, RowL w2 base A l c → (Value.slice A l.length c).ownBlock ≠ some bm := fun hr e => map_not_cells h1 (hr.ty bm e)
  have hother : ∀ s, s ≠ s0 → RowL w2 base (T s).A (T s).l (T s).c := fun s hs' => by
    refine (h.row s).kept hg ?_ hk
    rcases ho : (Value.slice (T s).A (T s).l.length (T s).c).ownBlock with _ | gg
    · exact .inl rfl
    · refine .inr fun e => ?_
      exact h.apart s s0 gg hs' ho e.symm
  have hI : Go.Maps.IsMap D := h1.isMap
  refine ⟨⟨_, n + 1, hm, by omega, fun s => ?_, fun s => ?_⟩, fun s => ?_, fun s => ?_, fun s s' gg hss hgg hgg' => ?_⟩
  · by_cases e : s = s0
    · subst e
      rw [putT_same, atKey_put_same hI (show WideAt.IsKeyLit (.string _) from trivial)]
      simp [RS.v]
    · rw [putT_other _ _ e, atKey_put_other (by simpa using e), h3]
  · by_cases e : s = s0
    · subst e
      rw [putT_same, has_put_same hI (show WideAt.IsKeyLit (.string _) from trivial)]
      simp
    · rw [putT_other _ _ e, has_put_other (by simpa using e), h4]
  · by_cases e : s = s0
    · subst e
      rw [putT_same]
      exact hrow.kept hg3 (.inr (hne hrow)) hK3
    · rw [putT_other _ _ e]
      exact (hother s e).kept hg3 (.inr (hne (hother s e))) hK3
  · rw [grp_append, grp_one, hv]
    by_cases e : s = s0
    · subst e
      rw [putT_same]
      simp only [hs, if_true]
      rw [List.map_append, h.val]
      rfl
    · rw [putT_other _ _ e, h.val]
      simp only [hs]
      rw [if_neg (fun h => e h.symm), List.append_nil]
  · have hold : ∀ t, (T t).v.ownBlock = some gg → gg < w.heap.size := fun t ht => ((h.row t).1.lt gg ht).2
    by_cases e : s = s0
    · subst e
      rw [putT_same] at hgg
      rw [putT_other _ _ (fun x => hss x.symm)] at hgg'
      cases hgg
      rcases hl with hl | hl
      · exact h.apart _ _ _ hss hl hgg'
      · have := hold _ hgg'; simp only at this; omega
    · rw [putT_other _ _ e] at hgg
      by_cases e' : s' = s0
      · subst e'
        rw [putT_same] at hgg'
        cases hgg'
        rcases hl with hl | hl
        · exact h.apart _ _ _ hss hgg hl
        · have := hold _ hgg; simp only at this; omega
      · rw [putT_other _ _ e'] at hgg'
        exact h.apart _ _ _ hss hgg hgg'
theorem Named.mapKept' {w w2 : World} {base bm q : Nat} {pre : List RV} {T : List UInt8 → RS} (h : Named w base bm q pre T) {s0 : List UInt8} {rA : Option Addr} {rl : List RL} {rc : Nat} (hx : T s0 = ⟨rA, rl, rc⟩) (hg : w.grownBy w2 (Value.slice rA rl.length rc).ownBlock) :
    ∃ D n, w2.ownsMap Tryz.prog 9 RR bm n D ∧ n ≤ q ∧ (∀ s, D.atKey (.string s) (.held nilV) = .held (T s).v) ∧ ∀ s, has D (.string s) = true ↔ (T s).l ≠ [] :=
  h.mapKept s0 (by rw [hx]; exact hg)
theorem Named.put' {w w2 w3 : World} {base bm q : Nat} {pre : List RV} {T : List UInt8 → RS} (h : Named w base bm q pre T) {s0 : List UInt8} {rA : Option Addr} {rl : List RL} {rc : Nat} (hx : T s0 = ⟨rA, rl, rc⟩) {g c' : Nat} {r : RL} {v : RV} (hbase : base ≤ w.heap.size)
    (hrow : RowL w2 base (some ⟨g, 0, none⟩) (rl ++ [r]) c') (hg : w.grownBy w2 (Value.slice rA rl.length rc).ownBlock) (hl : (Value.slice rA rl.length rc).ownBlock = some g ∨ g = w.heap.size) (hk : KeepC w w2)
    {D : DataW Value} {n : Nat} (h1 : w2.ownsMap Tryz.prog 9 RR bm n D) (h2 : n ≤ q) (h3 : ∀ s, D.atKey (.string s) (.held nilV) = .held (T s).v) (h4 : ∀ s, has D (.string s) = true ↔ (T s).l ≠ [])
    (hm : w3.ownsMap Tryz.prog 9 RR bm (n + 1) (D.put (.string s0) (.held (.slice (some ⟨g, 0, none⟩) (rl.length + 1) c')))) (hg3 : w2.grownBy w3 (some bm))
    (hv : nR v = some r.val) (hs : r.val.key = s0) : Named w3 base bm (q + 1) (pre ++ [v]) (putT T s0 ⟨some ⟨g, 0, none⟩, rl ++ [r], c'⟩) := by
  obtain rfl : rl = (T s0).l := by rw [hx]
  obtain rfl : rA = (T s0).A := by rw [hx]
  obtain rfl : rc = (T s0).c := by rw [hx]
  exact h.put s0 hbase hrow hg hl hk h1 h2 h3 h4 hm hg3 hv hs
/-- A store into the map, as a step of a region that draws its order. -/
theorem step_put {w : World} {ops : Array Oper} {o : Oper} {a : Act} {K : Act → World → Prop} {Q : Exit → Act → World → Prop} {R : Prop} (hgd : o.guard = none) (m x v : Operand) (t : TypeId)
    (hop : o.op = Op.mapUpdate t m x v) (ht : Tryz.prog.underlying t = some (.map 9 24)) {bm n : Nat} {D : DataW Value} (hm : a.eval m = .map (some bm)) (hown : w.ownsMap Tryz.prog 9 RR bm n D) (hn : n < maxLen)
    {s : ByteArray} {val : Value} (hx : a.eval x = .string s) (hv : a.eval v = val) (hs : s.size ≤ maxLen)
    (h : ∀ w', w'.ownsMap Tryz.prog 9 RR bm (n + 1) (D.put (.string s.data.toList) (.held val)) → w.grownBy w' (some bm) → K (a.put o.dst undef) w') :
    if Region.wanted o (yielded ops a.tmps) = true then Oper.wp Tryz.prog o a w K Q else R := by
  have hw : Region.wanted o (yielded ops a.tmps) = true := by simp [Region.wanted, hgd]
  rw [if_pos hw]
  obtain ⟨w', hrun, r1, r2⟩ := hown.update (string_keyed Tryz.underlying9) ht hn (keyOf_string_mk Tryz.underlying9 hs) (show RR val = some (.held val, []) from rfl)
  unfold Oper.wp
  simp [execOp, hop, hm, hx, hv, hrun, Result.andThen]
  exact h w' r1 r2
theorem Named.look {w : World} {base bm q : Nat} {pre : List RV} {T : List UInt8 → RS} (h : Named w base bm q pre T) {s : ByteArray} (hs : s.size ≤ maxLen) :
    (Instr.lookup 133 (.map (some bm)) (.string s) false).run Tryz.prog w = .ok (T s.data.toList).v w := by
  obtain ⟨D, n, h1, h2, h3, h4⟩ := h.map
  obtain ⟨v, ps, hr, he⟩ := h1.lookup (string_keyed Tryz.underlying9) Tryz.underlying133 (Tryz.zeroValue24 w) (show RR nilV = some (.held nilV, []) from rfl) (keyOf_string_mk Tryz.underlying9 hs)
  rw [h3] at he
  simp only [RR, Option.some.injEq, Prod.mk.injEq, DataW.held.injEq] at he
  rw [hr, he.1]
theorem val_key (r : RL) : r.val.key = r.nm.data.toList := rfl
set_option maxRecDepth 100000 in
set_option maxHeartbeats 8000000 in
theorem byName_any (A : Option Addr) (l : List RL) (c : Nat) (w : World) (hn : l.length ≤ 1000) (hr : ∀ r ∈ l, RiR r) (hR : RlL w A l) :
    Calls Tryz.prog 75 #[.slice A l.length c] w fun e w' => ∃ bm T, e = .returned (.map (some bm)) ∧ w.heap.size ≤ bm ∧ Named w' w.heap.size bm l.length (l.map RL.val) T ∧ Below w.heap.size w w' := by
  obtain ⟨n, hnl⟩ : ∃ n, l.length = n := ⟨_, rfl⟩
  obtain ⟨B, hBs⟩ : ∃ B, w.heap.size = B := ⟨_, rfl⟩
  have HNL := Lib.hid hnl
  have HR := Lib.hid hR
  have HRI := Lib.hid hr
  have HBS := Lib.hid hBs
  rw [hnl] at hn ⊢
  have hmm := @run_makeMap Tryz.prog
  have hst : Named (w.alloc (.map #[] 0)) B B 0 [] (fun _ => ⟨none, [], 0⟩) := by rw [← hBs]; exact Named.start w _
  have HST := Lib.hid hst
  have HB0 := Lib.hid (show Below B w (w.alloc (.map #[] 0)) by rw [← hBs]; exact (Below.refl _ _).alloc (Nat.le_refl _) _)
  have HS0 := Lib.hid (show B + 1 ≤ (w.alloc (.map #[] 0)).heap.size by rw [← hBs]; simp)
  clear hst hnl hR hr hBs
  go_enter Tryz.func75, Tryz.ntmps75
  go_wp2
  rw [HBS.out]
  go_loopw [11] (fun i wr => ∃ (q : Nat) (T : List UInt8 → RS), q ≤ n ∧ i = .int .i64 q ∧ Hid (Named wr B B q ((l.take q).map RL.val) T ∧ Below B w wr ∧ B + 1 ≤ wr.heap.size))
    (fun i _ => n - (intOf i).toNat)
  case atStart => exact ⟨0, _, Nat.zero_le _, rfl, Lib.hid ⟨HST.out, HB0.out, HS0.out⟩⟩
  case round =>
    obtain ⟨q, T, hq, rfl, HI⟩ := hrel
    by_cases hlt : q < n
    · have hlq : q < l.length := by rw [HNL.out]; exact hlt
      have hRr := HR.out.below HI.out.2.1 (by rw [HBS.out]; exact Nat.le_refl _)
      have hmem : l[q]! ∈ l := by rw [getElem!_pos l q hlq]; exact List.getElem_mem hlq
      have hru := hRr.2 _ hmem
      rcases hRr.1 with h0 | ⟨bb, o, rfl, hbl, hcs⟩
      · rw [h0] at hlq; exact absurd hlq (Nat.not_lt_zero _)
      obtain ⟨q0, q1, q2, q3⟩ := hcs q hlq
      obtain ⟨r, hr⟩ : ∃ r, l[q]! = r := ⟨_, rfl⟩
      have HTK := Lib.hid (show (l.take (q + 1)).map RL.val = (l.take q).map RL.val ++ [r.val] by rw [List.take_add_one, List.getElem?_eq_getElem hlq, List.map_append, ← hr, getElem!_pos l q hlq]; rfl)
      rw [hr] at q0 q1 q2 q3 hru hmem
      rw [Nat.add_zero] at q0
      have hri := HRI.out r hmem
      have HRU := Lib.hid hru
      have HSZ := Lib.hid hru.1
      have HCL := Lib.hid fun X (hX : Below wr.heap.size wr X) => ruleN_any r X hri (hru.2.2.2.2.2.keep (KeepC.of_below hX (Nat.le_refl _))).conA hru.2.2.2.1
      have i1 : (0 : Int) ≤ (q : Int) := by omega
      have i2 : (q : Int) < (n : Int) := by omega
      clear hcs hr hru hmem hri hlq hmm
      go_wp2_with fail
      refine (HCL.out _ ((Below.refl _ wr).alloc (Nat.le_refl _) _)).mono ?_
      rintro e w2 ⟨hB2, h2⟩
      have HB2 := Lib.hid (((Below.refl wr.heap.size wr).alloc (Nat.le_refl _) _).trans (hB2.mono (by simp)))
      have hs2 := HB2.out.size
      clear hB2
      rcases h2 with ⟨hnone, rfl⟩ | ⟨M, A', c', hM, rfl, hlc, hcm, hT⟩
      · go_wp2
        exact ⟨⟨q + 1, T, by omega, by go_num, Lib.hid ⟨by rw [HTK.out]; exact ((HI.out.1.below HB2.out (Nat.le_refl _)).below ((Below.refl w2.heap.size w2).alloc (Nat.le_refl _) _) (Nat.le_refl _)).skip (by unfold nR; rw [RL.val_L, hnone]; rfl), (HI.out.2.1.trans (HB2.out.mono (by have := HI.out.2.2; omega))).alloc (by have := HI.out.2.2; omega) _, by have := HI.out.2.2; simp; omega⟩⟩, by simp [intOf]; omega⟩
      · obtain ⟨s, hs⟩ : ∃ s, (srt M).length = s := ⟨_, rfl⟩
        obtain ⟨W3, hW3⟩ : ∃ W, w2.alloc (.cells (rulA r.nm r.k r.u A' s c') 57) = W := ⟨_, rfl⟩
        have hNV : nR r.val = some (RL.val ⟨r.nm, r.k, r.u, A', s, c', fun i => (srt M)[i]!⟩) := by
          unfold nR
          rw [RL.val_L, hM]
          unfold RL.val
          simp only [Option.map_some]
          rw [← hs, range_get]
        have hRU3 : RuT W3 ⟨r.nm, r.k, r.u, A', s, c', fun i => (srt M)[i]!⟩ := by
          refine ⟨HRU.out.1, HRU.out.2.1, HRU.out.2.2.1, by rw [← hs]; exact hlc, hcm, ?_⟩
          rw [hs] at hT
          rw [← hW3]
          exact hT.keep ((KeepC.refl _).alloc _)
        have hB3 : Below wr.heap.size wr W3 := by rw [← hW3]; exact HB2.out.alloc hs2 _
        have hs3 : w2.heap.size < W3.heap.size := by rw [← hW3]; simp
        have hbox : RowC W3 w2.heap.size (rulA r.nm r.k r.u A' s c') 57 := by rw [← hW3]; exact RowC.new _ _ _ _ rfl
        have hN3 : Named W3 B B q ((l.take q).map RL.val) T := HI.out.1.below hB3 (Nat.le_refl _)
        obtain ⟨ob, hob⟩ : ∃ ob, w2.heap.size = ob := ⟨_, rfl⟩
        obtain ⟨RSv, hRS⟩ : ∃ x, T r.nm.data.toList = x := ⟨_, rfl⟩
        obtain ⟨rA, rl, rc⟩ := RSv
        obtain ⟨rn, hrn⟩ : ∃ x, rl.length = x := ⟨_, rfl⟩
        have hvs : (T r.nm.data.toList).v = .slice rA rn rc := by rw [hRS, ← hrn]; rfl
        have hlk : ∀ X, Below W3.heap.size W3 X → (Instr.lookup 133 (.map (some B)) (.string r.nm) false).run Tryz.prog X = .ok (.slice rA rn rc) X := fun X hX => by
          rw [(hN3.below hX (Nat.le_refl _)).look HSZ.out, hvs]
        have lk1 := hlk W3.drew (Below.refl _ W3).drew
        have lk2 : ∀ o, (Instr.lookup 133 (.map (some B)) (.string r.nm) false).run Tryz.prog (W3.drew.alloc o) = .ok (.slice rA rn rc) (W3.drew.alloc o) := fun o => hlk _ ((Below.refl _ W3).drew.alloc (Nat.le_refl _) o)
        have lk3 : ∀ o, (Instr.lookup 133 (.map (some B)) (.string r.nm) false).run Tryz.prog (W3.alloc o).drew = .ok (.slice rA rn rc) (W3.alloc o).drew := fun o => hlk _ ((Below.refl _ W3).alloc (Nat.le_refl _) o).drew
        have hrow := hN3.row r.nm.data.toList
        rw [hRS] at hrow
        simp only at hrow
        have hrl : rl.length ≤ q := by
          have hv := hN3.val r.nm.data.toList
          rw [hRS] at hv
          have e1 : rl.length = (grp ((l.take q).map RL.val) r.nm.data.toList).length := by rw [← hv, List.length_map]
          have e2 : (grp ((l.take q).map RL.val) r.nm.data.toList).length ≤ ((l.take q).map RL.val).length := Nat.le_trans (List.length_filter_le _ _) (List.length_filterMap_le _ _)
          rw [List.length_map, List.length_take] at e2
          omega
        have hne : some w2.heap.size ≠ (Value.slice rA rl.length rc).ownBlock := fun e => by
          have h9 := HI.out.1.row r.nm.data.toList
          rw [hRS] at h9
          have := (h9.1.lt _ e.symm).2
          omega
        rw [hob] at hbox hs3 hne
        have HNE := Lib.hid hne
        clear hne
        have bx0 := hbox.cell 0 (.string r.nm) rfl
        have bx1 := hbox.cell 1 (.int .i64 r.k) rfl
        have bx2 := hbox.cell 2 (.int .i64 r.u) rfl
        have bx3 := hbox.cell 3 (.slice A' s c') rfl
        have by0 := fun o => (hbox.alloc o).cell 0 (.string r.nm) rfl
        have HW3 := Lib.hid hW3
        have HOB := Lib.hid hob
        have HN3 := Lib.hid hN3
        have HB3 := Lib.hid hB3
        have HRU3 := Lib.hid hRU3
        have HNV := Lib.hid hNV
        have HROW := Lib.hid hrow
        have HRS := Lib.hid hRS
        have HRN := Lib.hid hrn
        have HBOX := Lib.hid hbox
        have HS3 := Lib.hid hs3
        have hobw : wr.heap.size ≤ ob := by rw [← hob]; exact hs2
        rw [hs]
        clear hW3 hNV hRU3 hB3 hN3 hlk hrow hRS hvs hob hbox hs hT hlc hcm hM hs2 hrn q0 q1 q2 q3
        go_wp2_with fail
        rw [HW3.out, HOB.out]
        have hNX := fun o => HN3.out.below ((Below.refl W3.heap.size W3).drew.alloc (Nat.le_refl _) o) (Nat.le_refl _)
        have HNX := Lib.hid hNX
        have HNY := Lib.hid fun o => HN3.out.below ((Below.refl W3.heap.size W3).alloc (Nat.le_refl _) o).drew (Nat.le_refl _)
        clear hNX
        clear HW3
        go_region_law
          (first
            | (refine step_rule (by rfl) _ _ (by rfl) (l := rl) (by rw [HRN.out]; rfl) (HROW.out.drew.alloc _) (r := ⟨r.nm, r.k, r.u, A', s, c', fun i => (srt M)[i]!⟩) (by rfl) (RowC.new _ _ _ _ (by rfl)) (HRU3.out.keep ((KeepC.refl _).drew.alloc _)) (by omega) (by have := HI.out.2.2; simp; omega) ?_
               rintro g2 c2 w4 hown4 hgr4 hl4 hk4 hB4
               obtain ⟨D, n5, m1, m2, m3, m4⟩ := (HNX.out _).mapKept' HRS.out hgr4
               have bz0 : w4.cell? ⟨ob, 0, none⟩ = some (.string r.nm) := (hgr4.cell_far ⟨ob, 0, none⟩ (by simp; omega) (HNE.out)).trans (by0 _)
               obtain ⟨w5, hrun5, hm5, hg5⟩ := m1.update (string_keyed Tryz.underlying9) Tryz.underlying133 (by unfold maxLen; omega) (keyOf_string_mk Tryz.underlying9 HSZ.out) (show RR (.slice (some ⟨g2, 0, none⟩) (rl.length + 1) c2) = some (.held (.slice (some ⟨g2, 0, none⟩) (rl.length + 1) c2), []) from rfl))
            | (refine step_rule (by rfl) _ _ (by rfl) (l := rl) (by rw [HRN.out]; rfl) ((HROW.out.alloc _).drew) (r := ⟨r.nm, r.k, r.u, A', s, c', fun i => (srt M)[i]!⟩) (by rfl) (RowC.new _ _ _ _ (by rfl)) (HRU3.out.keep (((KeepC.refl _).alloc _).drew)) (by omega) (by have := HI.out.2.2; simp; omega) ?_
               rintro g2 c2 w4 hown4 hgr4 hl4 hk4 hB4
               obtain ⟨D, n5, m1, m2, m3, m4⟩ := (HNY.out _).mapKept' HRS.out hgr4
               have bz0 : w4.cell? ⟨ob, 0, none⟩ = some (.string r.nm) := (hgr4.cell_far ⟨ob, 0, none⟩ (by simp; omega) (HNE.out)).trans (by0 _)
               obtain ⟨w5, hrun5, hm5, hg5⟩ := m1.update (string_keyed Tryz.underlying9) Tryz.underlying133 (by unfold maxLen; omega) (keyOf_string_mk Tryz.underlying9 HSZ.out) (show RR (.slice (some ⟨g2, 0, none⟩) (rl.length + 1) c2) = some (.held (.slice (some ⟨g2, 0, none⟩) (rl.length + 1) c2), []) from rfl)))
        all_goals go_wp2
        all_goals
          have hN5 : Named w5 B B (q + 1) ((l.take q).map RL.val ++ [r.val]) (putT T r.nm.data.toList ⟨some ⟨g2, 0, none⟩, rl ++ [⟨r.nm, r.k, r.u, A', s, c', fun i => (srt M)[i]!⟩], c2⟩) := by
            first
            | exact (HNX.out _).put' HRS.out (by have := HS3.out; have := HI.out.2.2; simp; omega) hown4 hgr4 hl4 hk4 m1 m2 m3 m4 hm5 hg5 HNV.out rfl
            | exact (HNY.out _).put' HRS.out (by have := HS3.out; have := HI.out.2.2; simp; omega) hown4 hgr4 hl4 hk4 m1 m2 m3 m4 hm5 hg5 HNV.out rfl
          have hB5 : Below B w w5 := by
            have h3 := HI.out.2.1.trans (HB3.out.mono (by have := HI.out.2.2; omega))
            have h4 : Below B w w4 := by
              first
              | exact ((h3.drew).alloc (by have := HS3.out; have := HI.out.2.2; show B ≤ W3.heap.size; omega) _).trans hB4
              | exact ((h3.alloc (by have := HS3.out; have := HI.out.2.2; omega) _).drew).trans hB4
            exact h4.grown hg5 (by have := h4.size; rw [HBS.out] at this; exact this) (fun k hk => by cases hk; exact Nat.le_refl _)
          exact ⟨⟨q + 1, _, by omega, by go_num, Lib.hid ⟨by rw [HTK.out]; exact hN5, hB5, by obtain ⟨D9, n9, o9, _⟩ := hN5.map; exact o9.lt⟩⟩, by simp [intOf]; omega⟩
    · obtain rfl : q = n := by omega
      have htk : l.take q = l := List.take_of_length_le (by rw [HNL.out]; exact Nat.le_refl _)
      have HTK := Lib.hid htk
      clear htk
      go_wp2
      go_ret
      exact ⟨B, T, rfl, by rw [HBS.out]; exact Nat.le_refl _, by rw [HBS.out]; have := HI.out.1; rw [HTK.out] at this; exact this, by rw [HBS.out]; exact HI.out.2.1⟩
end Go.Proofs.YtcmdmnnkbliggaaGreatDoor
