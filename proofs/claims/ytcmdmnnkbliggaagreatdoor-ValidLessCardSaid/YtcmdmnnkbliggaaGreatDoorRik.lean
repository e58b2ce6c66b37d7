/-
  Layer 16: norm.upToLast; several rules appended; the names of a map, sorted.
-/
import Derived.Test.YtcmdmnnkbliggaaGreatDoorRgk
import Derived.Test.YtcmdmnnkbliggaaGreatDoorRhk
import Derived.Test.YtcmdmnnkbliggaaGreatDoorRsk
import Derived.Maps.AppendAt
namespace Go.Proofs.YtcmdmnnkbliggaaGreatDoor
open Go.RowKit Go.Shelf Go.Maps Go.Sort
set_option linter.unusedVariables false

theorem RlL.take {w : World} {A : Option Addr} {l : List RL} (h : RlL w A l) (m : Nat) : RlL w A (l.take m) := by
  refine ⟨?_, fun r hr => h.2 r (List.mem_of_mem_take hr)⟩
  rcases h.1 with h0 | ⟨b, o, rfl, hl, hc⟩
  · exact .inl (by rw [h0]; simp)
  · refine .inr ⟨b, o, rfl, hl, fun i hi => ?_⟩
    have hi' : i < l.length := by rw [List.length_take] at hi; omega
    have e : (l.take m)[i]! = l[i]! := by
      rw [getElem!_pos (l.take m) i hi, getElem!_pos l i hi', List.getElem_take]
    rw [e]
    exact hc i hi'
theorem act_cases (k u k' u' : Int) : (k = k' ∧ u = u') ∨ (k == k') = false ∨ (k = k' ∧ (u == u') = false) := by
  simp only [beq_eq_false_iff_ne]
  by_cases h1 : k = k'
  · by_cases h2 : u = u'
    · exact .inl ⟨h1, h2⟩
    · exact .inr (.inr ⟨h1, h2⟩)
  · exact .inr (.inl h1)
theorem isAct_no {k u : Int} {r : RV} (h : ¬ (r.k = k ∧ r.u = u)) : isAct k u r = false := by
  unfold isAct
  by_cases h1 : r.k = k
  · by_cases h2 : r.u = u
    · exact absurd ⟨h1, h2⟩ h
    · simp [h2]
  · simp [h1]
set_option maxRecDepth 100000 in
set_option maxHeartbeats 8000000 in
theorem upToLast_any (A : Option Addr) (l : List RL) (c : Nat) (k u : Int) (w : World) (hl : RlL w A l) (hn : l.length ≤ 1000) (hc : l.length ≤ c) :
    Calls Tryz.prog 78 #[.slice A l.length c, .agg #[.int .i64 k, .int .i64 u]] w fun e w' => ∃ m, e = .returned (.slice A m c) ∧ m ≤ l.length ∧ (l.take m).map RL.val = utl k u (l.map RL.val) ∧ Below w.heap.size w w' := by
  obtain ⟨n, hnl⟩ : ∃ n, l.length = n := ⟨_, rfl⟩
  have HNL := Lib.hid hnl
  have HL := Lib.hid hl
  obtain ⟨W0, hW0⟩ : ∃ W, w.alloc (.cells #[.int .i64 k, .int .i64 u] 23) = W := ⟨_, rfl⟩
  have HB0 := Lib.hid (show Below w.heap.size w W0 by rw [← hW0]; exact (Below.refl _ _).alloc (Nat.le_refl _) _)
  have HP0 := Lib.hid (show RowC W0 w.heap.size #[.int .i64 k, .int .i64 u] 23 by rw [← hW0]; exact RowC.new _ _ _ _ rfl)
  have HW := Lib.hid hW0
  have htk : l.take n = l := List.take_of_length_le (by rw [hnl]; exact Nat.le_refl _)
  have HTK := Lib.hid htk
  rw [hnl] at hn hc ⊢
  clear hnl hl hW0 htk
  go_enter Tryz.func78, Tryz.ntmps78
  go_upto_region 1 with fail
  rw [HW.out]
  go_loopw [0] (fun s wr => ∃ m : Nat, m ≤ n ∧ s = .slice A m c ∧ Hid (Below W0.heap.size W0 wr ∧ utl k u ((l.take m).map RL.val) = utl k u (l.map RL.val))) (fun s _ => match s with | .slice _ m _ => m | _ => 0)
  case atStart => exact ⟨n, Nat.le_refl _, rfl, Lib.hid ⟨Below.refl _ _, by rw [HTK.out]⟩⟩
  case round =>
    obtain ⟨m, hm, rfl, HI⟩ := hrel
    by_cases hm0 : m = 0
    · subst hm0
      go_wp2_with fail
      go_quiet (fail)
      go_wp2
      go_ret
      exact ⟨0, rfl, Nat.zero_le _, by have := HI.out.2; rw [List.take_zero] at this ⊢; exact this, bdn (HB0.out.trans (HI.out.1.mono HB0.out.size)) nq⟩
    · have hlq : m - 1 < l.length := by rw [HNL.out]; omega
      rcases (HL.out.below (HB0.out.trans (HI.out.1.mono HB0.out.size)) (Nat.le_refl _)).1 with h0 | ⟨bb, o, rfl, hbl, hcs⟩
      · rw [h0] at hlq; exact absurd hlq (Nat.not_lt_zero _)
      obtain ⟨_, q1, q2, _⟩ := hcs (m - 1) hlq
      obtain ⟨r, hr⟩ : ∃ r, l[m - 1]! = r := ⟨_, rfl⟩
      rw [hr] at q1 q2
      have HSN := Lib.hid (show (l.take m).map RL.val = (l.take (m - 1)).map RL.val ++ [r.val] by
        have e : m = m - 1 + 1 := by omega
        rw [e, List.take_add_one, List.getElem?_eq_getElem hlq, List.map_append, ← hr, getElem!_pos l (m - 1) hlq]
        simp)
      have hP := HP0.out.below HI.out.1 HP0.out.lt
      have p0 := hP.cell 0 (.int .i64 k) rfl
      have p1 := hP.cell 1 (.int .i64 u) rfl
      have HRV := Lib.hid (show r.val.k = r.k ∧ r.val.u = r.u from ⟨rfl, rfl⟩)
      have hac := act_cases r.k r.u k u
      obtain ⟨r0, rk, ru, r3, r4, r5, r6⟩ := r
      have i1 : (0 : Int) < (m : Int) := by omega
      have i0 : decide ((m : Int) > 0) = true := decide_eq_true i1
      have i2 : decide (0 < m) = true := decide_eq_true (by omega)
      have i3 : (0 : Int) ≤ (m : Int) - 1 := by omega
      have i4 : (m : Int) - 1 < (m : Int) := by omega
      have i5 : m - 1 ≤ c := by omega
      clear hcs hr hlq hP
      simp only at q1 q2 hac
      rcases hac with ⟨h1, h2⟩ | h | ⟨h1, h⟩
      · subst h1 h2
        go_wp2_with fail
        go_quiet (fail)
        go_wp2
        exact ⟨⟨m - 1, by omega, by first | rfl | go_num, Lib.hid ⟨bdn HI.out.1 nq, by rw [← HI.out.2, HSN.out, utl_snoc, if_pos (by simp [isAct, RL.val])]⟩⟩, by simp; omega⟩
      · have HN := Lib.hid h
        go_wp2_with fail
        go_quiet (fail)
        go_wp2
        go_ret
        exact ⟨m, rfl, hm, by rw [← HI.out.2, HSN.out, utl_snoc, if_neg (by rw [isAct_no (fun ⟨e, _⟩ => by have := HN.out; simp [RL.val] at e; simp [e] at this)]; simp)], bdn (HB0.out.trans (HI.out.1.mono HB0.out.size)) nq⟩
      · subst h1
        have HN := Lib.hid h
        go_wp2_with fail
        go_quiet (fail)
        go_wp2
        go_ret
        exact ⟨m, rfl, hm, by rw [← HI.out.2, HSN.out, utl_snoc, if_neg (by rw [isAct_no (fun ⟨_, e⟩ => by have := HN.out; simp [RL.val] at e; simp [e] at this)]; simp)], bdn (HB0.out.trans (HI.out.1.mono HB0.out.size)) nq⟩
/-- Rules appended, as a step of a region that draws its order. -/
theorem step_rules {w : World} {ops : Array Oper} {o : Oper} {a : Act} {K : Act → World → Prop} {Q : Exit → Act → World → Prop} {R : Prop} (hgd : o.guard = none) (s x : Operand)
    (ho : o.op = .call { callee := .builtin .append, args := #[s, x], argTypes := #[24, 24] })
    {base c d : Nat} {A A5 : Option Addr} {l l5 : List RL} (hs : a.eval s = .slice A l.length c) (hown : RowL w base A l c) (hx : a.eval x = .slice A5 l5.length d) (h5 : RlL w A5 l5)
    (hn : l.length + l5.length ≤ 1000000000) (hd : l5.length ≤ d) (hz : A5 = none → d = 0) (hbase : base ≤ w.heap.size)
    (h : ∀ A' c' w', RowL w' base A' (l ++ l5) c' → w.grownBy w' (Value.slice A l.length c).ownBlock → KeepC w w' → Below base w w' → K (a.put o.dst (.slice A' (l ++ l5).length c')) w') :
    if Region.wanted o (yielded ops a.tmps) = true then Oper.wp Tryz.prog o a w K Q else R := by
  have hw : Region.wanted o (yielded ops a.tmps) = true := by simp [Region.wanted, hgd]
  rw [if_pos hw]
  obtain ⟨i, hi, hz0, hsz, hby⟩ := info_parts infoRu2
  rcases A5 with _ | ⟨ab, ao, asp⟩
  · have hd0 : d = 0 := hz rfl
    have h50 : l5 = [] := List.eq_nil_of_length_eq_zero (by omega)
    subst h50 hd0
    have hrun := run_append_owned_none (P := Tryz.prog) (w := w) base 24 o.type 57 i 4 Tryz.underlying24 hi (.slice A l.length c) l.length _ hown.1
    have hK := h A c w (by rw [List.append_nil]; exact hown) (World.grownBy.refl _ _) (KeepC.refl _) (Below.refl _ _)
    rw [List.append_nil] at hK
    unfold Oper.wp execOp
    simp only [ho, resolve, invoke, builtin, Sem.run_bind, Sem.run_pure, Result.andThen_ok, List.map_toArray, List.map_cons, List.map_nil, hs, hx, List.length_nil, hrun]
    exact hK
  · have hnews : ∀ j v, (l5.flatMap rrow)[j]? = some v → w.cell? ((⟨ab, ao, asp⟩ : Addr).add j) = some v := fun j v hv => by
      rcases h5.1 with h0 | ⟨b, o5, he, hl, hc⟩
      · rw [h0] at hv; simp at hv
      · obtain ⟨rfl, rfl, rfl⟩ : ab = b ∧ ao = o5 ∧ asp = none := by simpa using he
        have hj : j < l5.length * 4 := by
          rw [← flat_len rrow (fun _ => rfl) l5]
          exact (List.getElem?_eq_some_iff.1 hv).1
        obtain ⟨q, t, hq, ht, rfl⟩ : ∃ q t, q < l5.length ∧ t < 4 ∧ j = q * 4 + t := ⟨j / 4, j % 4, by omega, by omega, by omega⟩
        rw [flat_at rrow (fun _ => rfl) l5 q t hq ht] at hv
        rw [addR, ← Nat.add_assoc]
        obtain ⟨h0, h1, h2, h3⟩ := hc q hq
        have : t = 0 ∨ t = 1 ∨ t = 2 ∨ t = 3 := by omega
        rcases this with rfl | rfl | rfl | rfl
        · exact h0.trans hv
        · exact h1.trans hv
        · exact h2.trans hv
        · exact h3.trans hv
    obtain ⟨v', w', hr, h2, h3, _, _⟩ := run_append_own_at (P := Tryz.prog) w base 24 o.type 57 i _ 4 56 Tryz.underlying24 hi hz0 hsz hby (by rfl) (by decide) _ l.length _ hown.1 ⟨ab, ao, asp⟩ l5.length d (l5.flatMap rrow) (flat_len rrow (fun _ => rfl) l5) hnews (flat_one rrow rrow_one l5) (by unfold maxLen; omega) (by omega) hbase
    have hk : KeepC w w' := KeepC.grown h3 fun b hb => ⟨_, hown.ty b hb, by decide⟩
    have hB : Below base w w' := (Below.refl _ _).grown h3 hbase (fun k hk => (hown.1.lt k hk).1)
    rcases ownsRow_parts h2 with ⟨A', c', rfl⟩
    have hK := h A' c' w' ⟨by rw [List.length_append, List.flatMap_append]; exact h2, fun q hq => by
      rcases List.mem_append.1 hq with hq | hq
      · exact (hown.2 q hq).keep hk
      · exact (h5.2 q hq).keep hk⟩ h3 hk hB
    unfold Oper.wp execOp
    simp only [ho, resolve, invoke, builtin, Sem.run_bind, Sem.run_pure, Result.andThen_ok, List.map_toArray, List.map_cons, List.map_nil, hs, hx, hr]
    rw [List.length_append] at hK
    exact hK
/-- The names' list. -/
theorem Named.keys {w : World} {base bm q : Nat} {pre : List RV} {T : List UInt8 → RS} (h : Named w base bm q pre T) {D : DataW Value} {n : Nat} (h1 : w.ownsMap Tryz.prog 9 RR bm n D) (h4 : ∀ s, has D (.string s) = true ↔ (T s).l ≠ []) {ss : List (List UInt8)} (hp : ss.Perm (strKeys D)) :
    ss.mergeSort leB = kys pre := by
  obtain ⟨es, hD, hpw, _⟩ := h1.entries (string_keyed Tryz.underlying9)
  obtain ⟨es', hD', hko⟩ := h1.keysOf
  obtain rfl : es = es' := by rw [hD] at hD'; simpa using hD'
  subst hD
  have hg : ∀ s, grp pre s ≠ [] ↔ (T s).l ≠ [] := fun s => by
    rw [← h.val s, Ne, Ne, List.map_eq_nil_iff]
  have hp2 : (nms pre).Perm (strKeys (.map es)) := perm_strKeys hpw (fun p hp => by obtain ⟨v, hv⟩ := hko p hp; obtain ⟨x, _, hx, _⟩ := Maps.keyOf_str Tryz.underlying9 hv; exact ⟨x, hx⟩) (nodup_nub _) (fun x => by rw [mem_nms, hg, h4])
  exact mergeSort_of_perm (hp.trans hp2.symm)
theorem sortsR (m : Nat) : AnyZ.SortsIn Tryz.prog Tryz.sortedR_ren Fence.wide m :=
  ⟨fun blk off cap ss W hH hblk hsz => callsIn_wide.2 (AnyM.slices_Sort_string Tryz.sortR blk off cap ss W hH hblk hsz),
   fun p cap W => callsIn_wide.2 (AnyM.slices_Sort_string_none Tryz.sortR p cap W)⟩
theorem keys_call (mb : Option Nat) (W : World) : Calls Tryz.prog 77 #[.map mb] W fun e w' => e = .returned (.func (.func 121) #[] #[.pointer (some ⟨W.heap.size, 0, none⟩)]) ∧ w' = W.alloc (.cells #[.map mb] 133) :=
  callsIn_wide.1 (AnyZ.keys_in Tryz.keysR Fence.wide 5 trivial rfl mb W)
theorem sorted_call (w : World) {bm nn : Nat} {D : DataW Value} (hown : w.ownsMap Tryz.prog 9 RR bm nn D) (hnn : nn ≤ 100000) :
    Calls Tryz.prog 76 #[.func (.func 121) #[] #[.pointer (some ⟨w.heap.size, 0, none⟩)]] (w.alloc (.cells #[.map (some bm)] 133)) fun e w' =>
      ∃ (v : Value) (ss : List (List UInt8)), e = .returned v ∧ ss.Perm (strKeys D) ∧ w'.ownsRow (w.heap.size + 1) 9 1 v ss.length ((ss.mergeSort (fun x y => decide (x ≤ y))).map encStr) ∧ (v = .slice none 0 0 ↔ ss = []) ∧ Below (w.heap.size + 1) (w.alloc (.cells #[.map (some bm)] 133)) w' := by
  have hbl := hown.lt
  have hsz : Maps.size D ≤ 100000 := Nat.le_trans hown.size_le hnn
  have hseq : SeqGives Fence.wide 2 Tryz.prog 121 #[.pointer (some ⟨w.heap.size, 0, none⟩)] encStr (fun ss => ss.Perm (strKeys D)) (Maps.size D) (w.alloc (.cells #[.map (some bm)] 133)) :=
    AnyZ.keys_gives (ρ := Tryz.keysR_ren) { Tryz.keysR with } Fence.wide _ trivial rfl (by omega) w.heap.size bm nn D _ (by simp) (by simp) (by
      obtain ⟨es, clock, hb, Ft, hs, hD⟩ := hown
      exact ⟨es, clock, (Below.heap_alloc _ _ bm hbl).trans hb, Ft, hs, hD⟩)
  have cS := AnyZ.sorted_in Tryz.sortedR Fence.wide 5 trivial trivial trivial trivial rfl (by omega) (sortsR _) (enters_of Tryz.func120 (by kernel_rfl) rfl) 121 #[.pointer (some ⟨w.heap.size, 0, none⟩)] trivial (enters_of Tryz.func121 (by kernel_rfl) rfl) _ _ (by unfold maxLen; omega) (by omega) _ hseq
  change CallsIn _ _ Tryz.prog 76 _ _ _ at cS
  have e : (w.alloc (.cells #[.map (some bm)] 133)).heap.size = w.heap.size + 1 := by simp
  refine (callsIn_wide.1 cS).mono ?_
  rintro x w' ⟨v, ss, rfl, hS, hrow, hnil, hb⟩
  rw [e] at hrow hb
  exact ⟨v, ss, rfl, hS, hrow, hnil, hb⟩
end Go.Proofs.YtcmdmnnkbliggaaGreatDoor
