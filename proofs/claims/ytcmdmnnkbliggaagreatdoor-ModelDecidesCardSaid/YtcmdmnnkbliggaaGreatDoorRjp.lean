/-
  Layer 16: norm.Policy.
-/
import Derived.Test.YtcmdmnnkbliggaaGreatDoorRkp
namespace Go.Proofs.YtcmdmnnkbliggaaGreatDoor
open Go.RowKit Go.Shelf Go.Maps Go.Sort Go.ChangeMaps Go.WideMaps
set_option linter.unusedVariables false

theorem RowL.blocks {w w' : World} {base : Nat} {A : Option Addr} {l : List RL} {c : Nat} (h : RowL w base A l c) (he : ∀ g, (Value.slice A l.length c).ownBlock = some g → w'.heap[g]? = w.heap[g]?) (hk : KeepC w w') : RowL w' base A l c := by
  refine ⟨?_, fun r hr => (h.2 r hr).keep hk⟩
  obtain ⟨h1, h2⟩ := h.1
  refine ⟨h1, ?_⟩
  rcases h2 with h2 | ⟨gg, cap, cur, hv, hg, hh, r⟩
  · exact Or.inl h2
  · exact Or.inr ⟨gg, cap, cur, hv, hg, (he gg (by rw [hv]; rfl)).trans hh, r⟩
theorem Named.keep {w w' : World} {base bm q : Nat} {pre : List RV} {T : List UInt8 → RS} (h : Named w base bm q pre T) (hk : KeepC w w') (hb : w'.heap[bm]? = w.heap[bm]?) (hr : ∀ s g, (T s).v.ownBlock = some g → w'.heap[g]? = w.heap[g]?) : Named w' base bm q pre T where
  map := by
    obtain ⟨D, n, h1, h2, h3, h4⟩ := h.map
    exact ⟨D, n, ownsMap_block h1 hb, h2, h3, h4⟩
  row := fun s => (h.row s).blocks (hr s) hk
  val := h.val
  apart := h.apart
theorem Named.setLow {w : World} {base bm q g : Nat} {T' : TypeId} {pre : List RV} {T : List UInt8 → RS} (h : Named w base bm q pre T) (hg : TyAt w g T') (h1 : T' ≠ 61) (h2 : T' ≠ 57) (i : Nat) (v : Value) : Named (w.setCell ⟨g, i, none⟩ v) base bm q pre T := by
  refine h.keep ((KeepC.refl w).set hg h1 i v) ?_ fun s gg hgg => ?_
  · refine Below.heap_setCell w ⟨g, i, none⟩ v bm fun e => ?_
    obtain ⟨D, n, h3, _⟩ := h.map
    have e' : bm = g := e
    rw [← e'] at hg
    exact map_not_cells h3 hg
  · refine Below.heap_setCell w ⟨g, i, none⟩ v gg fun e => ?_
    have e' : gg = g := e
    obtain ⟨cs, fr, hx⟩ := (h.row s).ty gg hgg
    obtain ⟨cs', fr', hy⟩ := hg
    rw [e', hy] at hx
    cases hx
    exact h2 rfl
theorem Named.lt {w : World} {base bm q : Nat} {pre : List RV} {T : List UInt8 → RS} (h : Named w base bm q pre T) : bm < w.heap.size ∧ ∀ s g, (T s).v.ownBlock = some g → g < w.heap.size := by
  obtain ⟨D, n, h3, _⟩ := h.map
  exact ⟨h3.lt, fun s g hg => ((h.row s).1.lt g hg).2⟩
theorem nub_len : ∀ l, (nub l).length ≤ l.length
  | [] => by simp [nub]
  | x :: t => by
    have := nub_len t
    unfold nub
    split
    · simp; omega
    · simp; omega
theorem kys_len (pre : List RV) : (kys pre).length ≤ pre.length := by
  unfold kys nms
  rw [List.length_mergeSort]
  refine Nat.le_trans (nub_len _) ?_
  rw [List.length_map]
  exact List.length_filterMap_le _ _
theorem grp_len (pre : List RV) (s : List UInt8) : (grp pre s).length ≤ pre.length := Nat.le_trans (List.length_filter_le _ _) (List.length_filterMap_le _ _)
theorem nR_len {v x : RV} (h : nR v = some x) : x.L.length ≤ v.L.length := by
  unfold nR at h
  rcases hl : askL v.L with _ | l
  · rw [hl] at h; cases h
  · rw [hl] at h
    cases h
    exact Nat.le_trans (srt_len l) (askL_len _ _ hl)
theorem Named.small {w : World} {base bm q : Nat} {pre : List RV} {T : List UInt8 → RS} (h : Named w base bm q pre T) (hp : ∀ v ∈ pre, v.L.length ≤ 6) (s : List UInt8) : ∀ e ∈ (T s).l, e.n ≤ 6 := fun e he => by
  have h1 : e.val ∈ grp pre s := by rw [← h.val s]; exact List.mem_map.2 ⟨e, he, rfl⟩
  obtain ⟨v, hv, hn⟩ := List.mem_filterMap.1 (List.mem_filter.1 h1).1
  have h2 := nR_len hn
  have h3 : e.val.L.length = e.n := by simp [RL.val]
  have := hp v hv
  omega
/-- A row of strings. -/
def StrR (w : World) (A : Option Addr) (ks : List (List UInt8)) : Prop := ks = [] ∨ ∃ g cs, A = some ⟨g, 0, none⟩ ∧ w.heap[g]? = some (.cells cs 9 (0, 0)) ∧ ∀ i, i < ks.length → cs[i]? = some (encStr ks[i]!)
theorem StrR.of_own {w : World} {base n c : Nat} {A : Option Addr} {ks : List (List UInt8)} (h : w.ownsRow base 9 1 (.slice A n c) ks.length (ks.map encStr)) (hn : n = ks.length) : StrR w A ks := by
  rcases Nat.eq_zero_or_pos ks.length with h0 | hp
  · exact .inl (List.eq_nil_of_length_eq_zero h0)
  · rcases h.2 with ⟨_, h0⟩ | ⟨g, cap, cur, hv, hg, hh, h1, h2, h3, h4⟩
    · omega
    · injection hv with e1 e2 e3
      subst e1
      refine .inr ⟨g, cur, rfl, hh, fun i hi => ?_⟩
      have h5 : (cur.toList.take (ks.length * 1))[i]? = some (encStr ks[i]!) := by
        rw [h4, List.getElem?_map, List.getElem?_eq_getElem hi, getElem!_pos ks i hi]
        rfl
      rw [List.getElem?_take] at h5
      rw [if_pos (by omega)] at h5
      simpa using h5
theorem StrR.keep {w w' : World} {A : Option Addr} {ks : List (List UInt8)} (h : StrR w A ks) (hb : ∀ g, A = some ⟨g, 0, none⟩ → TyAt w g 9 → w'.heap[g]? = w.heap[g]?) : StrR w' A ks := by
  rcases h with h | ⟨g, cs, rfl, h1, h2⟩
  · exact .inl h
  · exact .inr ⟨g, cs, rfl, (hb g rfl ⟨cs, _, h1⟩).trans h1, h2⟩
/-- The state of norm.Policy's loop. -/
structure PInv (w0 w : World) (B b1 b2 bm qn : Nat) (k u : Int) (x : Bool) (pre : List RV) (T : List UInt8 → RS) (ks : List (List UInt8)) (A3 : Option Addr) (q : Nat) (A' : Option Addr) (c' : Nat) (ls : List RL) : Prop where
  named : Named w b1 bm qn pre T
  low : ∀ s g, (T s).v.ownBlock = some g → g < b2
  mapLow : bm < b2
  str : StrR w A3 ks
  strLow : ∀ g, A3 = some ⟨g, 0, none⟩ → g < b2
  row : RowL w b2 A' ls c'
  val : ls.map RL.val = (ks.take q).flatMap fun s => utl k u (unh (grp pre s))
  cnt : ls.length ≤ q * 1000
  p : RowC w B (polA k u x A' ls.length c') 26
  z : RowC w (B + 1) zPol 26
  below : Below B w0 w
  size : b2 ≤ w.heap.size
  blow : B + 2 ≤ b2
theorem PInv.set {w0 w w' : World} {B b1 b2 bm qn : Nat} {k u : Int} {x : Bool} {pre : List RV} {T : List UInt8 → RS} {ks : List (List UInt8)} {A3 : Option Addr} {q : Nat} {A' : Option Addr} {c' : Nat} {ls : List RL} (h : PInv w0 w B b1 b2 bm qn k u x pre T ks A3 q A' c' ls)
    (hB : Below b2 w w') (hk : KeepC w w') {A2 : Option Addr} {c2 : Nat} {l2 : List RL} (hrow : RowL w' b2 A2 (ls ++ l2) c2) (hq : q < ks.length) (hl : l2.map RL.val = utl k u (unh (grp pre ks[q]!))) (hc : l2.length ≤ 1000) :
    PInv w0 (w'.setCell ⟨B, 3, none⟩ (.slice A2 (ls ++ l2).length c2)) B b1 b2 bm qn k u x pre T ks A3 (q + 1) A2 c2 (ls ++ l2) := by
  have hlo := h.blow
  have hp : RowC w' B (polA k u x A' ls.length c') 26 := h.p.below hB (by omega)
  have hz : RowC w' (B + 1) zPol 26 := h.z.below hB (by omega)
  have hn : Named w' b1 bm qn pre T := h.named.keep hk (hB.block bm h.mapLow) fun s g hg => hB.block g (h.low s g hg)
  have hs : StrR w' A3 ks := h.str.keep fun g hg _ => hB.block g (h.strLow g hg)
  refine ⟨hn.setLow hp.ty (by decide) (by decide) _ _, h.low, h.mapLow, hs.keep fun g hg ht => ?_, h.strLow, hrow.setLow hp.ty (by decide) (by decide) _ _, ?_, ?_, hp.set 3 (.slice A2 (ls ++ l2).length c2), hz.setOther 3 _ (by omega), (h.below.trans (hB.mono (by omega))).setCell (Nat.le_refl _) _, ?_, hlo⟩
  · refine Below.heap_setCell w' ⟨B, 3, none⟩ _ g fun e => ?_
    have e' : g = B := e
    obtain ⟨cs, fr, h1⟩ := ht
    rw [e', hp] at h1
    exact absurd h1 (by simp)
  · rw [List.map_append, h.val, hl, List.take_add_one, List.getElem?_eq_getElem hq, List.flatMap_append, getElem!_pos ks q hq]
    simp
  · have := h.cnt
    rw [List.length_append]
    omega
  · have := hB.size
    have := h.size
    simp
    omega
set_option maxRecDepth 100000 in
set_option maxHeartbeats 8000000 in
theorem policyN_no (k u : Int) (x : Bool) (A : Option Addr) (l : List RL) (c : Nat) (w : World) (hl : RlL w A l) (hn : l.length ≤ 1000) (h12 : ∀ e ∈ l, e.n ≤ 100000) (hr : rightV k u (l.map RL.val) = false) :
    Calls Tryz.prog 43 #[.agg (polA k u x A l.length c)] w fun e w' => e = .returned (.tuple #[.agg zPol, .int .i64 13]) ∧ Below w.heap.size w w' := by
  obtain ⟨n, hnl⟩ : ∃ n, l.length = n := ⟨_, rfl⟩
  obtain ⟨W0, hW0⟩ : ∃ W, (w.alloc (.cells (polA k u x A n c) 26)).alloc (.cells zPol 26) = W := ⟨_, rfl⟩
  have hB0 : Below w.heap.size w W0 := by rw [← hW0]; exact ((Below.refl _ _).alloc (Nat.le_refl _) _).alloc (by simp) _
  have hP0 : RowC W0 w.heap.size (polA k u x A n c) 26 := by rw [← hW0]; exact (RowC.new _ _ _ _ rfl).alloc _
  have hZ0 : RowC W0 (w.heap.size + 1) zPol 26 := by rw [← hW0]; exact RowC.new _ _ _ _ (by simp)
  have HR := Lib.hid (policyRight_any k u x A l c W0 (hl.below hB0 (Nat.le_refl _)) hn h12)
  rw [hr, hnl] at HR
  rw [hnl]
  have p0 := hP0.cell 0 (.int .i64 k) rfl
  have p1 := hP0.cell 1 (.int .i64 u) rfl
  have p2 := hP0.cell 2 (.bool x) rfl
  have p3 := hP0.cell 3 (.slice A n c) rfl
  have HB0 := Lib.hid hB0
  have HZ0 := Lib.hid hZ0
  have HW := Lib.hid hW0
  clear hW0 hB0 hP0 hZ0 hl h12 hr hnl hn
  go_enter Tryz.func43, Tryz.ntmps43
  go_upto_region 1 with fail
  rw [HW.out]
  go_wp2_with fail
  refine HR.out.mono ?_
  rintro e w1 ⟨rfl, hB1⟩
  have hZ1 := HZ0.out.below hB1 HZ0.out.lt
  have HZ1 := Lib.hid hZ1
  have HB1 := Lib.hid (HB0.out.trans (hB1.mono HB0.out.size))
  have z0 := hZ1.cell 0 (.int .i64 0) rfl
  have z1 := hZ1.cell 1 (.int .i64 0) rfl
  have z2 := hZ1.cell 2 (.bool false) rfl
  have z3 := hZ1.cell 3 (.slice none 0 0) rfl
  have y0 := hZ1.frozen 0
  have y1 := hZ1.frozen 1
  have y2 := hZ1.frozen 2
  have y3 := hZ1.frozen 3
  clear hZ1 hB1
  go_wp2
  (try simp only [Exit.inBlock, Exit.then])
  refine bodyPost_ret (results_ctO Tryz.results43 _ _ (w.heap.size + 1) _ zPol (0, 0) _ (.int .i64 13) (by rfl) (by rfl) (show RowC _ (w.heap.size + 1) zPol 26 from ((((HZ1.out).set 0 (.int .i64 0)).set 1 (.int .i64 0)).set 2 (.bool false)).set 3 (.slice none 0 0)) Tryz.underlying26 (by rfl) infoPol) rfl ?_
  exact ⟨rfl, (((HB1.out.setCell (Nat.le_succ _) _).setCell (Nat.le_succ _) _).setCell (Nat.le_succ _) _).setCell (Nat.le_succ _) _⟩
set_option maxRecDepth 100000 in
set_option maxHeartbeats 16000000 in
theorem policyN_ok (k u : Int) (x : Bool) (A : Option Addr) (l : List RL) (c : Nat) (w : World) (hl : RlL w A l) (hr : rightV k u (l.map RL.val) = true) :
    Calls Tryz.prog 43 #[.agg (polA k u x A l.length c)] w fun e w' => ∃ A' c' ls, e = .returned (.tuple #[.agg (polA k u x A' (ls : List RL).length c'), .int .i64 0]) ∧ RowL w' w.heap.size A' ls c' ∧ ls.map RL.val = nP k u (l.map RL.val) ∧ ls.length ≤ 1000000 ∧ Below w.heap.size w w' := by
  have hr2 := hr
  unfold rightV at hr2
  simp only [Bool.and_eq_true, decide_eq_true_eq, List.length_map, List.all_eq_true] at hr2
  obtain ⟨_, hn5, hmay⟩ := hr2
  have hri : ∀ r ∈ l, RiR r := fun r h => mayV_ri (hmay _ (List.mem_map.2 ⟨r, h, rfl⟩))
  have h12 : ∀ e ∈ l, e.n ≤ 100000 := fun e he => by have := (hri e he).1; omega
  have h6 : ∀ v ∈ l.map RL.val, v.L.length ≤ 6 := fun v hv => by
    obtain ⟨r, hr', rfl⟩ := List.mem_map.1 hv
    have := (hri r hr').1
    simpa [RL.val] using this
  obtain ⟨pre, hpre⟩ : ∃ pre, l.map RL.val = pre := ⟨_, rfl⟩
  obtain ⟨n, hnl⟩ : ∃ n, l.length = n := ⟨_, rfl⟩
  obtain ⟨B, hBs⟩ : ∃ B, w.heap.size = B := ⟨_, rfl⟩
  have hpl : pre.length = n := by rw [← hpre, List.length_map, hnl]
  obtain ⟨W0, hW0⟩ : ∃ W, (w.alloc (.cells (polA k u x A n c) 26)).alloc (.cells zPol 26) = W := ⟨_, rfl⟩
  have hB0 : Below B w W0 := by rw [← hW0, ← hBs]; exact ((Below.refl _ _).alloc (Nat.le_refl _) _).alloc (by simp) _
  have hP0 : RowC W0 B (polA k u x A n c) 26 := by rw [← hW0, ← hBs]; exact (RowC.new _ _ _ _ rfl).alloc _
  have hZ0 : RowC W0 (B + 1) zPol 26 := by rw [← hW0, ← hBs]; exact RowC.new _ _ _ _ (by simp)
  have hs0 : W0.heap.size = B + 2 := by rw [← hW0, ← hBs]; simp
  have hl0 := hl.below hB0 (by rw [hBs]; exact Nat.le_refl _)
  have HR := Lib.hid (policyRight_any k u x A l c W0 hl0 (by omega) h12)
  have HBN := Lib.hid fun X (hX : Below W0.heap.size W0 X) => byName_any A l c X (by omega) hri (hl0.below hX (Nat.le_refl _))
  rw [hr, hnl] at HR
  rw [hnl, hpre] at HBN
  rw [hnl, hpre]
  have p0 := hP0.cell 0 (.int .i64 k) rfl
  have p1 := hP0.cell 1 (.int .i64 u) rfl
  have p2 := hP0.cell 2 (.bool x) rfl
  have p3 := hP0.cell 3 (.slice A n c) rfl
  have HB0 := Lib.hid hB0
  have HP0 := Lib.hid hP0
  have HZ0 := Lib.hid hZ0
  have HW := Lib.hid hW0
  have HBS := Lib.hid hBs
  have HS0 := Lib.hid hs0
  have H6 := Lib.hid h6
  rw [hpre] at H6
  have HPL := Lib.hid hpl
  have hn500 : n ≤ 500 := by omega
  clear hW0 hB0 hP0 hZ0 hl h12 hr hnl hBs hs0 hl0 hri hmay h6 hpre hpl hn5
  go_enter Tryz.func43, Tryz.ntmps43
  go_upto_region 1 with fail
  rw [HW.out, HBS.out]
  go_wp2_with fail
  refine HR.out.mono ?_
  rintro e w1 ⟨rfl, hB1⟩
  have hP1 := HP0.out.below hB1 HP0.out.lt
  have HP1 := Lib.hid hP1
  have HB1 := Lib.hid hB1
  have q3 := hP1.cell 3 (.slice A n c) rfl
  clear hP1 hB1 p0 p1 p2 p3
  go_wp2_with fail
  refine (HBN.out _ HB1.out).mono ?_
  rintro e w2 ⟨bm, T, rfl, hbm, hN2, hB2⟩
  have hs1 : B + 2 ≤ w1.heap.size := by rw [← HS0.out]; exact HB1.out.size
  have hB12 : Below (B + 2) W0 w2 := by rw [← HS0.out]; exact HB1.out.trans (hB2.mono HB1.out.size)
  have hP2 := HP0.out.below hB12 (by omega)
  have hZ2 := HZ0.out.below hB12 (by omega)
  have HN2 := Lib.hid hN2
  have HB12 := Lib.hid hB12
  have HP2 := Lib.hid hP2
  have HZ2 := Lib.hid hZ2
  have r3 := hP2.cell 3 (.slice A n c) rfl
  have f3 := hP2.frozen 3
  clear hbm hN2 hB2 hB12 hP2 hZ2 q3
  obtain ⟨w3, hw3⟩ : ∃ W, w2.setCell ⟨B, 3, none⟩ (.slice none 0 0) = W := ⟨_, rfl⟩
  have hN3 : Named w3 w1.heap.size bm n pre T := by rw [← hw3]; exact HN2.out.setLow HP2.out.ty (by decide) (by decide) _ _
  obtain ⟨D, nn, o1, o2, o3, o4⟩ := hN3.map
  have HSC := Lib.hid (sorted_call w3 o1 (by omega))
  have HKL := Lib.hid fun ss (hp : List.Perm ss (strKeys D)) => hN3.keys o1 o4 hp
  have HLE := Lib.hid (strKeys_le o1 Tryz.underlying9)
  have HN3 := Lib.hid hN3
  have HW3 := Lib.hid hw3
  have hs3 : w3.heap.size = w2.heap.size := by rw [← hw3]; simp
  have hs2 : B + 2 ≤ w2.heap.size := by have := HB12.out.size; rw [HS0.out] at this; exact this
  have HS3 := Lib.hid (And.intro hs3 hs2)
  clear hN3 o1 o2 o3 o4 hw3 hs3 hs2
  go_wp2_with fail
  rw [HW3.out]
  refine (keys_call _ _).mono ?_
  rintro e w4 ⟨rfl, rfl⟩
  go_wp2_with fail
  refine HSC.out.mono ?_
  rintro e w5 ⟨v, ss, rfl, hperm, hrow, hnil, hB5⟩
  obtain ⟨A3, c3, rfl⟩ := ownsRow_parts hrow
  have hks := HKL.out ss hperm
  obtain ⟨ks, hkd⟩ : ∃ ks, ss.mergeSort Go.leB = ks := ⟨_, rfl⟩
  have hrow2 : w5.ownsRow (w3.heap.size + 1) 9 1 (.slice A3 ss.length c3) ks.length (ks.map encStr) := by
    rw [← hkd, List.length_mergeSort]; exact hrow
  have hkl : ks.length = ss.length := by rw [← hkd, List.length_mergeSort]
  have hstr := StrR.of_own hrow2 hkl.symm
  have hkey : kys pre = ks := by rw [← hks, hkd]
  have hlen : ks.length ≤ n := by rw [← hkey, ← HPL.out]; exact kys_len pre
  have hle : ∀ y ∈ ks, y.length ≤ maxLen := fun y hy => HLE.out y (hperm.mem_iff.1 (by rw [← hkd] at hy; exact List.mem_mergeSort.1 hy))
  have hB35 : Below (B + 2) w2 w5 ∨ True := .inr trivial
  have hs3 := HS3.out.1
  have hs2 := HS3.out.2
  have hP3 : RowC w3 B (polA k u x none 0 0) 26 := by rw [← HW3.out]; exact HP2.out.set 3 (.slice none 0 0)
  have hZ3 : RowC w3 (B + 1) zPol 26 := by rw [← HW3.out]; exact HZ2.out.setOther 3 _ (by omega)
  have hB3 : Below B w w3 := by rw [← HW3.out]; exact (HB0.out.trans (HB12.out.mono (by omega))).setCell (Nat.le_refl _) _
  have hB45 : Below w3.heap.size w3 w5 := ((Below.refl _ w3).alloc (Nat.le_refl _) _).trans (hB5.mono (by omega))
  have hsz5 := hB45.size
  have hN5 := HN3.out.below hB45 (Nat.le_refl _)
  have hinv : PInv w w5 B w1.heap.size w5.heap.size bm n k u x pre T ks A3 0 none 0 [] := {
    named := hN5
    low := hN5.lt.2
    mapLow := hN5.lt.1
    str := hstr
    strLow := fun g hg => by
      have := hrow2.lt g (by rw [hg]; rfl)
      exact this.2
    row := RowL.nil_ _ _
    val := rfl
    cnt := Nat.zero_le _
    p := hP3.below hB45 (by omega)
    z := hZ3.below hB45 (by omega)
    below := hB3.trans (hB45.mono (by omega))
    size := Nat.le_refl _
    blow := by omega }
  have HINV := Lib.hid hinv
  have HKEY := Lib.hid hkey
  have HLE2 := Lib.hid hle
  have HKL2 := Lib.hid hkl
  obtain ⟨b2, hb2⟩ : ∃ b2, w5.heap.size = b2 := ⟨_, rfl⟩
  rw [hb2] at HINV
  obtain ⟨m, hm⟩ : ∃ m, ss.length = m := ⟨_, rfl⟩
  rw [hm] at HKL2
  have hmn : m ≤ 500 := by rw [hkl, hm] at hlen; omega
  rw [hm]
  clear hperm hrow hnil hB5 hks hkd hrow2 hkl hstr hkey hlen hle hB35 hs3 hs2 hP3 hZ3 hB3 hB45 hsz5 hN5 hinv hb2 hm HKL HLE HSC
  go_wp2
  go_loopw [19] (fun i wr => ∃ (q : Nat) (A' : Option Addr) (c' : Nat) (ls : List RL), q ≤ m ∧ i = .int .i64 q ∧ Hid (PInv w wr B w1.heap.size b2 bm n k u x pre T ks A3 q A' c' ls)) (fun i _ => m - (intOf i).toNat)
  case atStart => exact ⟨0, none, 0, [], Nat.zero_le _, rfl, HINV⟩
  case round =>
    obtain ⟨q, A', c', ls, hq, rfl, HI⟩ := hrel
    by_cases hlt : q < m
    · have hqk : q < ks.length := by rw [HKL2.out]; exact hlt
      have hmem : ks[q]! ∈ ks := by rw [getElem!_pos ks q hqk]; exact List.getElem_mem hqk
      obtain ⟨s, hs⟩ : ∃ s, ks[q]! = s := ⟨_, rfl⟩
      obtain ⟨g3, cs3, rfl, hg3, hc3⟩ : ∃ g cs, A3 = some ⟨g, 0, none⟩ ∧ wr.heap[g]? = some (.cells cs 9 (0, 0)) ∧ cs[q]? = some (encStr s) := by
        rcases HI.out.str with h0 | ⟨g, cs, h1, h2, h3⟩
        · rw [h0] at hqk; exact absurd hqk (Nat.not_lt_zero _)
        · exact ⟨g, cs, h1, h2, by rw [← hs]; exact h3 q hqk⟩
      have kc : wr.cell? ⟨g3, q, none⟩ = some (.string ⟨s.toArray⟩) := (cell_of_row wr g3 q cs3 _ _ hg3).trans hc3
      have hsl : (⟨s.toArray⟩ : ByteArray).size ≤ maxLen := by
        have := HLE2.out _ hmem
        rw [hs] at this
        simpa [ByteArray.size] using this
      obtain ⟨RSv, hRS⟩ : ∃ y, T s = y := ⟨_, rfl⟩
      obtain ⟨rA, rl, rc⟩ := RSv
      obtain ⟨rn, hrn⟩ : ∃ y, rl.length = y := ⟨_, rfl⟩
      have hvs : (T s).v = .slice rA rn rc := by rw [hRS, ← hrn]; rfl
      have hlk : ∀ X, Below wr.heap.size wr X → (Instr.lookup 133 (.map (some bm)) (.string ⟨s.toArray⟩) false).run Tryz.prog X = .ok (.slice rA rn rc) X := fun X hX => by
        rw [(HI.out.named.below hX (Nat.le_refl _)).look hsl]
        show _ = Result.ok _ X
        rw [← hvs]
      have lk0 := hlk wr (Below.refl _ _)
      have lk1 := hlk wr.drew (Below.refl _ wr).drew
      have hrow := HI.out.named.row s
      have hsml := HI.out.named.small H6.out s
      have hval := HI.out.named.val s
      rw [hRS] at hrow hsml hval
      simp only at hrow hsml hval
      have hrl : rn ≤ n := by
        have := grp_len pre s
        rw [← hval, List.length_map, hrn, HPL.out] at this
        exact this
      have HUN := Lib.hid fun X (hX : Below wr.heap.size wr X) => unhidden_any rA rl rc X (hrow.rl.below hX (Nat.le_refl _)) (by omega) (fun e he => by have := hsml e he; omega)
      rw [hrn, hval] at HUN
      have hk0 : Below wr.heap.size wr wr.drew := (Below.refl _ wr).drew
      have hlo := HI.out.blow
      have hsz := HI.out.size
      have HPC : Hid (∀ X, Below wr.heap.size wr X → X.cell? ⟨B, 0, none⟩ = some (.int .i64 k) ∧ X.cell? ⟨B, 1, none⟩ = some (.int .i64 u) ∧ X.cell? ⟨B, 3, none⟩ = some (.slice A' ls.length c')) :=
        Lib.hid fun X hX => by
          have h := HI.out.p.below hX HI.out.p.lt
          exact ⟨h.cell 0 _ rfl, h.cell 1 _ rfl, h.cell 3 _ rfl⟩
      have HQK := Lib.hid hqk
      have HSS := Lib.hid hs
      have HCN := Lib.hid HI.out.cnt
      have i1 : (0 : Int) ≤ (q : Int) := by omega
      have i2 : (q : Int) < (m : Int) := by omega
      clear hmem hs hg3 hc3 hRS hvs hlk hrow hsml hval hqk hrn hsl
      go_wp2_with fail
      obtain ⟨d0, d1, d3⟩ := HPC.out wr (Below.refl _ _)
      go_region_law
        (first
          | (go_simp
             refine (HUN.out _ (by first | exact hk0 | exact Below.refl _ _)).mono ?_
             rintro e w7 ⟨A7, c7, k7, rfl, hrow7, hval7, _, hlen7, hB7⟩
             have hk1 : Below wr.heap.size wr w7 := by first | exact hB7 | exact bTr hk0 hB7
             obtain ⟨d0, d1, d3⟩ := HPC.out w7 hk1
             have HUT := Lib.hid fun X (hX : Below w7.heap.size w7 X) => upToLast_any A7 k7 c7 k u X (hrow7.rl.below hX (Nat.le_refl _)) (by omega) hrow7.le.1
             have hk7 : Below w7.heap.size w7 w7.drew := (Below.refl _ w7).drew)
          | (go_simp
             refine (HUT.out _ (by first | exact hk7 | exact Below.refl _ _)).mono ?_
             rintro e w8 ⟨m8, rfl, hm8, hval8, hB8⟩
             have hk8 : Below w7.heap.size w7 w8 := by first | exact hB8 | exact bTr hk7 hB8
             have hk2 : Below wr.heap.size wr w8 := bTr hk1 hk8
             obtain ⟨d0, d1, d3⟩ := HPC.out w8 hk2
             have hrl8 : RlL w8 A7 (k7.take m8) := (hrow7.rl.below hk8 (Nat.le_refl _)).take m8
             have hln8 : (k7.take m8).length = m8 := by rw [List.length_take]; omega
             have hnn8 : A7 = none → c7 = 0 := fun e => by
               have h9 := hrow7.1.2
               rw [e] at h9
               rcases h9 with ⟨h9, _⟩ | ⟨_, _, _, h9, _⟩
               · injection h9
               · injection h9 with h9; cases h9)
          | (refine step_rules (by rfl) _ _ (by rfl) (l := ls) (l5 := k7.take m8) (by rfl) (HI.out.row.below hk2 (Nat.le_refl _)) (by rw [hln8]; rfl) hrl8 (by rw [hln8]; have := HCN.out; omega) (by rw [hln8]; have := hrow7.le.1; omega) hnn8 (by have := hk2.size; omega) ?_
             rintro A9 c9 w9 hrow9 hgr9 hkc9 hB9
             have hp9 := (HI.out.p.below hk2 HI.out.p.lt).below hB9 (by omega)
             have x3 := hp9.cell 3 (.slice A' ls.length c') rfl
             have y3 := hp9.frozen 3
             skip)
          | (refine step_rules (by rfl) _ _ (by rfl) (l := ls) (l5 := k7.take m8) (by rfl) ((HI.out.row.below hk2 (Nat.le_refl _)).drew) (by rw [hln8]; rfl) (hrl8.below (B := w8.heap.size) (Below.refl _ w8).drew (Nat.le_refl _)) (by rw [hln8]; have := HCN.out; omega) (by rw [hln8]; have := hrow7.le.1; omega) hnn8 (by have := hk2.size; show b2 ≤ w8.heap.size; omega) ?_
             rintro A9 c9 w9 hrow9 hgr9 hkc9 hB9
             have hp9 := (HI.out.p.below hk2 HI.out.p.lt).below hB9 (by omega)
             have x3 := hp9.cell 3 (.slice A' ls.length c') rfl
             have y3 := hp9.frozen 3
             skip))
      all_goals go_wp2
      all_goals
        have hKw : KeepC wr w9 := by
          first
          | exact (KeepC.of_below hk2 (Nat.le_refl _)).trans hkc9
        have hBw : Below b2 wr w9 := by
          first
          | exact (hk2.mono hsz).trans hB9
          | exact ((hk2.mono hsz).drew).trans hB9
        have hset := HI.out.set hBw hKw hrow9 HQK.out (by rw [HSS.out, hval8, hval7]) (by rw [hln8]; omega)
        rw [show (ls ++ k7.take m8).length = ls.length + m8 by rw [List.length_append, hln8]] at hset
        exact ⟨⟨q + 1, A9, c9, ls ++ k7.take m8, by omega, by go_num, Lib.hid hset⟩, by simp [intOf]; omega⟩
    · obtain rfl : q = m := by omega
      have hp := HI.out.p
      have hz := HI.out.z
      have s0 := hp.cell 0 (.int .i64 k) rfl
      have s1 := hp.cell 1 (.int .i64 u) rfl
      have s2 := hp.cell 2 (.bool x) rfl
      have s3 := hp.cell 3 (.slice A' ls.length c') rfl
      have z0 := hz.cell 0 (.int .i64 0) rfl
      have z1 := hz.cell 1 (.int .i64 0) rfl
      have z2 := hz.cell 2 (.bool false) rfl
      have z3 := hz.cell 3 (.slice none 0 0) rfl
      have y0 := hz.frozen 0
      have y1 := hz.frozen 1
      have y2 := hz.frozen 2
      have y3 := hz.frozen 3
      have HZ := Lib.hid hz
      have hlo := HI.out.blow
      clear hp hz
      go_wp2
      have t1 := HZ.out.set 0 (.int .i64 k)
      have t2 := t1.set 1 (.int .i64 u)
      have t3 := t2.set 2 (.bool x)
      refine bodyPost_ret (results_ctO Tryz.results43 _ _ (B + 1) _ (polA k u x A' ls.length c') (0, 0) _ (.int .i64 0) (by rfl) (by rfl) (show RowC _ (B + 1) (polA k u x A' ls.length c') 26 from t3.set 3 (.slice A' ls.length c')) Tryz.underlying26 (by rfl) infoPol) rfl ?_
      refine ⟨A', c', ls, rfl, ((((HI.out.row.setLow HZ.out.ty (by decide) (by decide) 0 _).setLow t1.ty (by decide) (by decide) 1 _).setLow t2.ty (by decide) (by decide) 2 _).setLow t3.ty (by decide) (by decide) 3 _).lower (by rw [HBS.out]; omega), ?_, ?_, by rw [HBS.out]; exact (((HI.out.below.setCell (Nat.le_succ _) _).setCell (Nat.le_succ _) _).setCell (Nat.le_succ _) _).setCell (Nat.le_succ _) _⟩
      · rw [HI.out.val, List.take_of_length_le (by rw [HKL2.out]; exact Nat.le_refl _), ← HKEY.out]
        rfl
      · have := HI.out.cnt
        omega
end Go.Proofs.YtcmdmnnkbliggaaGreatDoor
