/-
  Layer 17, pure: what a policy decides of a name and arguments; its normal form decides alike.
-/
import Derived.Test.YtcmdmnnkbliggaaGreatDoorP13
import Derived.Test.YtcmdmnnkbliggaaGreatDoorP2
import Derived.Test.YtcmdmnnkbliggaaGreatDoorP16
import Derived.Test.YtcmdmnnkbliggaaGreatDoorP8
import Derived.Test.YtcmdmnnkbliggaaGreatDoorP20
import Derived.RegionTactic
import Derived.Deep.RegionHeld3
import Derived.Test.YtcmdmnnkbliggaaGreatDoorP7
import Derived.WalkMore
namespace Go.Proofs.YtcmdmnnkbliggaaGreatDoor
open Go.RowKit
set_option linter.unusedVariables false

/-- Does a condition hold of arguments? -/
def hoC (f : Nat → Nat) (c : CD) : Bool := hoF (c.o - 1).toNat (f c.a.toNat) c.m c.v
def allC (f : Nat → Nat) (r : RV) : Bool := r.L.all (hoC f)
def rulH (nm : ByteArray) (f : Nat → Nat) (r : RV) : Bool := decide (r.nm = nm) && allC f r
def actD (k u : Int) : Option RV → Int × Int
  | some r => (r.k, r.u)
  | none => (k, u)
def decF (k u : Int) (L : List RV) (nm : ByteArray) (f : Nat → Nat) : Int × Int := actD k u (L.find? (rulH nm f))
def bliD (k u : Int) : Option RV → Int × Int
  | some r => if r.L.isEmpty then (r.k, r.u) else (k, u)
  | none => (k, u)
def bliF (k u : Int) (L : List RV) (nm : ByteArray) : Int × Int := bliD k u (L.find? fun r => decide (r.nm = nm))
/-- What is asked of a condition. -/
def BoC (c : CD) : Prop := RiC c ∧ c.m ≤ 18446744073709551615 ∧ c.v ≤ 18446744073709551615
def BoR (r : RV) : Prop := ∀ c ∈ r.L, BoC c
theorem boR_of {r : RV} (h : mayV r = true) (hs : SmallV r) : BoR r := fun c hc => by
  unfold mayV at h
  simp only [Bool.and_eq_true, decide_eq_true_eq, List.all_eq_true] at h
  exact ⟨h.2.2.2 c hc, hs c hc⟩
theorem ric_j {c : CD} (h : RiC c) : RightO c.a c.o c.m (c.o - 1).toNat := by
  obtain ⟨j, hj⟩ := h.right
  have h4 := hj.2.2.2.1
  rw [show (c.o - 1).toNat = j by omega]
  exact hj
theorem cArr_inj {c : CD} {a o : Int} {m v : Nat} (h : cArr c = condA a o m v) : c = ⟨a, o, m, v⟩ := by
  obtain ⟨a', o', m', v'⟩ := c
  simp [cArr] at h
  obtain ⟨rfl, rfl, h3, h4⟩ := h
  have h3 : m' = m := by omega
  have h4 : v' = v := by omega
  rw [h3, h4]
/-- What a condition becomes holds where it does. -/
theorem hoC_nC {c : CD} (h : BoC c) (f : Nat → Nat) (hf : ∀ i, f i < 18446744073709551616) :
    ((nC c).2 = 1 ∧ hoC f c = true) ∨ ((nC c).2 = 2 ∧ hoC f c = false) ∨ ((nC c).2 = 0 ∧ hoC f (nC c).1 = hoC f c) := by
  have hj := ric_j h.1
  have h1 := nF_nC c _ hj
  have h2 := nF_holds c.a c.o c.m c.v _ (f c.a.toNat) hj h.2.1 h.2.2 (hf _)
  rw [h1] at h2
  obtain ⟨a', o', m', v', he, h3 | h3 | ⟨hs, j', rfl, hr, _, hh⟩⟩ := h2
  · exact .inl h3
  · exact .inr (.inl h3)
  · refine .inr (.inr ⟨hs, ?_⟩)
    have he := cArr_inj he
    rw [he]
    unfold hoC
    have h4 := hr.2.2.2.1
    rw [show ((CD.mk c.a o' m' v').o - 1).toNat = j' by show (o' - 1).toNat = j'; omega]
    exact hh
theorem askL_holds (f : Nat → Nat) (hf : ∀ i, f i < 18446744073709551616) : ∀ l : List CD, (∀ c ∈ l, BoC c) → (askL l = none ∧ l.all (hoC f) = false) ∨ ∃ M, askL l = some M ∧ M.all (hoC f) = l.all (hoC f)
  | [], _ => .inr ⟨[], rfl, rfl⟩
  | c :: t, h => by
    have ih := askL_holds f hf t fun x hx => h x (List.mem_cons_of_mem _ hx)
    rw [askL_cons]
    rcases hoC_nC (h c (List.mem_cons_self ..)) f hf with ⟨hs, hh⟩ | ⟨hs, hh⟩ | ⟨hs, hh⟩
    · rw [if_neg (by omega)]
      rcases ih with ⟨h1, h2⟩ | ⟨M, h1, h2⟩
      · left; rw [h1]; exact ⟨rfl, by rw [List.all_cons, h2, Bool.and_false]⟩
      · right
        refine ⟨M, ?_, by rw [List.all_cons, hh, Bool.true_and, h2]⟩
        rw [h1]
        simp only [Option.map_some]
        rw [if_neg (by omega)]
    · left
      rw [if_pos hs]
      exact ⟨rfl, by rw [List.all_cons, hh, Bool.false_and]⟩
    · rw [if_neg (by omega)]
      rcases ih with ⟨h1, h2⟩ | ⟨M, h1, h2⟩
      · left; rw [h1]; exact ⟨rfl, by rw [List.all_cons, h2, Bool.and_false]⟩
      · right
        refine ⟨(nC c).1 :: M, ?_, by rw [List.all_cons, List.all_cons, hh, h2]⟩
        rw [h1]
        simp only [Option.map_some]
        rw [if_pos hs]
theorem all_srt (p : CD → Bool) (M : List CD) : (srt M).all p = M.all p := by
  rw [Bool.eq_iff_iff, List.all_eq_true, List.all_eq_true]
  exact ⟨fun h c hc => h c ((mem_srt c M).2 hc), fun h c hc => h c ((mem_srt c M).1 hc)⟩
theorem nR_holds (f : Nat → Nat) (hf : ∀ i, f i < 18446744073709551616) {r : RV} (h : BoR r) : (nR r = none ∧ allC f r = false) ∨ ∃ x, nR r = some x ∧ allC f x = allC f r ∧ x.nm = r.nm ∧ x.k = r.k ∧ x.u = r.u := by
  unfold nR
  rcases askL_holds f hf r.L h with ⟨h1, h2⟩ | ⟨M, h1, h2⟩
  · left; rw [h1]; exact ⟨rfl, h2⟩
  · right
    rw [h1]
    exact ⟨_, rfl, (all_srt (hoC f) M).trans h2, rfl, rfl, rfl⟩
theorem nC_small {c : CD} (h1 : c.m ≤ 18446744073709551615) (h2 : c.v ≤ 18446744073709551615) : (nC c).1.m ≤ 18446744073709551615 ∧ (nC c).1.v ≤ 18446744073709551615 := by
  obtain ⟨a, o, m, v⟩ := c
  simp only at h1 h2
  unfold nC bel atl
  simp only
  repeat' split
  all_goals (simp only; omega)
theorem nR_bo {r x : RV} (h : BoR r) (hx : nR r = some x) : BoR x := fun c hc => by
  have h1 := (nR_fix (fun d hd => (h d hd).1) hx).2 c hc
  unfold nR at hx
  rcases hl : askL r.L with _ | M
  · rw [hl] at hx; cases hx
  · rw [hl] at hx
    cases hx
    obtain ⟨d, hd, _, rfl⟩ := askL_mem _ _ hl c ((mem_srt c M).1 hc)
    exact ⟨h1, nC_small (h d hd).2.1 (h d hd).2.2⟩
/-- The first one of a row that holds. -/
def decL (k u : Int) (l : List RV) (f : Nat → Nat) : Int × Int := actD k u (l.find? (allC f))
theorem key_nm (r : RV) (nm : ByteArray) : (r.key == nm.data.toList) = decide (r.nm = nm) := by
  rw [Bool.eq_iff_iff, decide_eq_true_eq]
  unfold RV.key
  constructor
  · intro h
    have h := eq_of_beq h
    exact ByteArray.ext (Array.toList_inj.1 h)
  · rintro rfl
    exact beq_self_eq_true _
theorem decF_filter (k u : Int) (L : List RV) (nm : ByteArray) (f : Nat → Nat) : decF k u L nm f = decL k u (L.filter fun r => r.key == nm.data.toList) f := by
  unfold decF decL
  rw [List.find?_filter]
  congr 1
  refine congrArg (fun p => List.find? p L) (funext fun r => ?_)
  rw [rulH, key_nm]
  simp
theorem decL_cons (k u : Int) (r : RV) (l : List RV) (f : Nat → Nat) : decL k u (r :: l) f = if allC f r then (r.k, r.u) else decL k u l f := by
  unfold decL
  rw [List.find?_cons]
  cases allC f r <;> rfl
theorem decL_grp (k u : Int) (f : Nat → Nat) (hf : ∀ i, f i < 18446744073709551616) (s : List UInt8) : ∀ L : List RV, (∀ r ∈ L, BoR r) → decL k u (grp L s) f = decL k u (L.filter fun r => r.key == s) f
  | [], _ => rfl
  | r :: t, h => by
    have ih := decL_grp k u f hf s t fun x hx => h x (List.mem_cons_of_mem _ hx)
    unfold grp at ih ⊢
    rcases nR_holds f hf (h r (List.mem_cons_self ..)) with ⟨h1, h2⟩ | ⟨x, h1, h2, h3, h4, h5⟩
    · rw [List.filterMap_cons_none h1, ih]
      rcases hk : (r.key == s) with _ | _
      · rw [List.filter_cons_of_neg (p := fun r : RV => r.key == s) (by simp [hk])]
      · rw [List.filter_cons_of_pos (p := fun r : RV => r.key == s) hk, decL_cons, h2]; rfl
    · rw [List.filterMap_cons_some h1]
      have hkx : (x.key == s) = (r.key == s) := by unfold RV.key; rw [h3]
      rcases hk : (r.key == s) with _ | _
      · rw [List.filter_cons_of_neg (p := fun r : RV => r.key == s) (by simp [hkx, hk]), List.filter_cons_of_neg (p := fun r : RV => r.key == s) (by simp [hk]), ih]
      · rw [List.filter_cons_of_pos (p := fun r : RV => r.key == s) (a := x) (by rw [hkx, hk]), List.filter_cons_of_pos (p := fun r : RV => r.key == s) hk, decL_cons, decL_cons, h2, h4, h5, ih]
theorem decL_append (k u : Int) (f : Nat → Nat) : ∀ l m : List RV, decL k u (l ++ m) f = match l.find? (allC f) with | some r => (r.k, r.u) | none => decL k u m f
  | [], m => rfl
  | r :: t, m => by
    rw [List.cons_append, decL_cons, decL_append k u f t m, List.find?_cons]
    cases allC f r <;> rfl
theorem decL_unh' (k u : Int) (f : Nat → Nat) : ∀ l acc : List RV, decL k u (l.foldl unhF acc) f = decL k u (acc ++ l) f
  | [], acc => by simp
  | r :: t, acc => by
    show decL k u (t.foldl unhF (unhF acc r)) f = _
    rw [decL_unh' k u f t]
    unfold unhF
    by_cases hc : acc.any (hides r) = true
    · rw [if_pos hc, decL_append, decL_append]
      obtain ⟨e, he, hh⟩ := List.any_eq_true.1 hc
      rcases hf : acc.find? (allC f) with _ | y
      · simp only
        rw [decL_cons]
        have h1 : allC f e = false := by
          have := List.find?_eq_none.1 hf e he
          simpa using this
        have h2 : allC f r = false := by
          unfold hides at hh
          rcases Bool.or_eq_true _ _ |>.mp hh with h | h
          · exfalso
            have : e.L = [] := List.isEmpty_iff.1 h
            unfold allC at h1
            rw [this] at h1
            cases h1
          · have : e.L = r.L := by simpa using h
            unfold allC at h1 ⊢
            rw [← this]; exact h1
        rw [h2]; rfl
      · rfl
    · rw [if_neg hc, List.append_assoc]; rfl
theorem decL_unh (k u : Int) (f : Nat → Nat) (l : List RV) : decL k u (unh l) f = decL k u l f := (decL_unh' k u f l []).trans (by rw [List.nil_append])
theorem decL_snoc (k u : Int) (f : Nat → Nat) (l : List RV) (r : RV) (h : isAct k u r = true) : decL k u (l ++ [r]) f = decL k u l f := by
  rw [decL_append]
  unfold decL
  rcases l.find? (allC f) with _ | y
  · show actD k u (List.find? (allC f) [r]) = (k, u)
    rw [List.find?_cons]
    unfold isAct at h
    simp only [Bool.and_eq_true, decide_eq_true_eq] at h
    cases allC f r
    · rfl
    · show (r.k, r.u) = _
      rw [h.1, h.2]
  · rfl
theorem decL_utl_rev (k u : Int) (f : Nat → Nat) : ∀ l : List RV, decL k u (utl k u l.reverse) f = decL k u l.reverse f
  | [] => rfl
  | r :: t => by
    rw [List.reverse_cons, utl_snoc]
    by_cases h : isAct k u r = true
    · rw [if_pos h, decL_utl_rev k u f t, decL_snoc k u f _ r h]
    · rw [if_neg h]
theorem decL_utl (k u : Int) (f : Nat → Nat) (l : List RV) : decL k u (utl k u l) f = decL k u l f := by
  have := decL_utl_rev k u f l.reverse
  rwa [List.reverse_reverse] at this
/-- A policy's normal form decides as it does. -/
theorem decF_nP {k u : Int} {L : List RV} (hm : ∀ r ∈ L, mayV r = true) (hs : ∀ r ∈ L, SmallV r) (nm : ByteArray) (f : Nat → Nat) (hf : ∀ i, f i < 18446744073709551616) : decF k u (nP k u L) nm f = decF k u L nm f := by
  have hb : ∀ r ∈ L, BoR r := fun r hr => boR_of (hm r hr) (hs r hr)
  have hb2 : ∀ r ∈ nP k u L, BoR r := fun v hv => by
    obtain ⟨r, hr, hn⟩ := nP_sub hv
    exact nR_bo (hb r hr) hn
  rw [decF_filter, decF_filter, ← decL_grp k u f hf _ _ hb2, ← decL_grp k u f hf _ _ hb, grp_nP hm, decL_utl, decL_unh]
theorem nR_empty {r x : RV} (h : r.L = []) (hx : nR r = some x) : x.L = [] := by
  unfold nR at hx
  rw [h] at hx
  cases hx
  rfl
/-- Where no rule of a name has conditions, it is judged alike without arguments. -/
theorem bliF_plain {k u : Int} {L : List RV} {nm : ByteArray} (h : ∀ r ∈ L, r.nm = nm → r.L = []) (f : Nat → Nat) : bliF k u L nm = decF k u L nm f := by
  unfold bliF decF
  have he : L.find? (fun r => decide (r.nm = nm)) = L.find? (rulH nm f) := by
    clear u k
    induction L with
    | nil => rfl
    | cons r t ih =>
      rw [List.find?_cons, List.find?_cons, ih fun x hx => h x (List.mem_cons_of_mem _ hx)]
      by_cases e : r.nm = nm
      · rw [rulH, allC, h r (List.mem_cons_self ..) e, decide_eq_true e]; rfl
      · rw [rulH, decide_eq_false e]; rfl
  rw [← he]
  rcases hf : L.find? (fun r => decide (r.nm = nm)) with _ | r
  · rw [hf]; rfl
  · rw [hf]
    have h1 := List.mem_of_find?_eq_some hf
    have h2 := List.find?_some hf
    simp only [decide_eq_true_eq] at h2
    show (if r.L.isEmpty then (r.k, r.u) else (k, u)) = (r.k, r.u)
    rw [h r h1 h2]; rfl
theorem bliF_nP {k u : Int} {L : List RV} (hm : ∀ r ∈ L, mayV r = true) (hs : ∀ r ∈ L, SmallV r) {nm : ByteArray} (h : ∀ r ∈ L, r.nm = nm → r.L = []) : bliF k u (nP k u L) nm = bliF k u L nm := by
  have h2 : ∀ r ∈ nP k u L, r.nm = nm → r.L = [] := fun v hv hn => by
    obtain ⟨r, hr, hx⟩ := nP_sub hv
    exact nR_empty (h r hr (by rw [← nR_nm hx]; exact hn)) hx
  rw [bliF_plain h2 fun _ => 0, bliF_plain h fun _ => 0, decF_nP hm hs nm _ fun _ => by decide]
end Go.Proofs.YtcmdmnnkbliggaaGreatDoor

/-
  Layer 17: the document's Holds, Decide and Blind.
-/
namespace Go.Proofs.YtcmdmnnkbliggaaGreatDoor
open Go.RowKit Go.Shelf
set_option linter.unusedVariables false

theorem nm_eq17 (a b : ByteArray) : (a.toList == b.toList) = decide (a = b) := by
  rw [Bool.eq_iff_iff, decide_eq_true_eq]
  constructor
  · intro h
    have h := eq_of_beq h
    rw [Lib.toList_data, Lib.toList_data] at h
    exact ByteArray.ext (Array.toList_inj.1 h)
  · rintro rfl
    exact beq_self_eq_true _

set_option maxHeartbeats 1000000 in
theorem rho0_any (a : Int) (m v x : Nat) (w : World) (hx : x < 18446744073709551616) (hm : m < 18446744073709551616) : Calls Tryz.prog 68 #[.agg (condA a 1 m v), .int .u64 x] w fun e w' => e = .returned (.bool (hoF 0 x m v)) ∧ Below w.heap.size w w' := by
  have HB := Lib.hid (show Below w.heap.size w (w.alloc (.cells (condA a 1 m v) 109)) from (Below.refl _ _).alloc (Nat.le_refl _) _)
  go_enter Tryz.func68, Tryz.ntmps68
  go_wp2
  go_ret
  exact ⟨ret_bl (by show ((x : Int) == (v : Int)) = (x == v); rw [Bool.eq_iff_iff]; simp; omega), HB.out⟩
set_option maxHeartbeats 1000000 in
theorem rho1_any (a : Int) (m v x : Nat) (w : World) (hx : x < 18446744073709551616) (hm : m < 18446744073709551616) : Calls Tryz.prog 68 #[.agg (condA a 2 m v), .int .u64 x] w fun e w' => e = .returned (.bool (hoF 1 x m v)) ∧ Below w.heap.size w w' := by
  have HB := Lib.hid (show Below w.heap.size w (w.alloc (.cells (condA a 2 m v) 109)) from (Below.refl _ _).alloc (Nat.le_refl _) _)
  go_enter Tryz.func68, Tryz.ntmps68
  go_wp2
  go_ret
  exact ⟨ret_bl (by show _ = (x != v); rw [Bool.eq_iff_iff]; simp; omega), HB.out⟩
set_option maxHeartbeats 1000000 in
theorem rho2_any (a : Int) (m v x : Nat) (w : World) (hx : x < 18446744073709551616) (hm : m < 18446744073709551616) : Calls Tryz.prog 68 #[.agg (condA a 3 m v), .int .u64 x] w fun e w' => e = .returned (.bool (hoF 2 x m v)) ∧ Below w.heap.size w w' := by
  have HB := Lib.hid (show Below w.heap.size w (w.alloc (.cells (condA a 3 m v) 109)) from (Below.refl _ _).alloc (Nat.le_refl _) _)
  go_enter Tryz.func68, Tryz.ntmps68
  go_wp2
  go_ret
  exact ⟨ret_bl (by rw [Bool.eq_iff_iff]; simp [hoF]), HB.out⟩
set_option maxHeartbeats 1000000 in
theorem rho3_any (a : Int) (m v x : Nat) (w : World) (hx : x < 18446744073709551616) (hm : m < 18446744073709551616) : Calls Tryz.prog 68 #[.agg (condA a 4 m v), .int .u64 x] w fun e w' => e = .returned (.bool (hoF 3 x m v)) ∧ Below w.heap.size w w' := by
  have HB := Lib.hid (show Below w.heap.size w (w.alloc (.cells (condA a 4 m v) 109)) from (Below.refl _ _).alloc (Nat.le_refl _) _)
  go_enter Tryz.func68, Tryz.ntmps68
  go_wp2
  go_ret
  exact ⟨ret_bl (by rw [Bool.eq_iff_iff]; simp [hoF]), HB.out⟩
set_option maxHeartbeats 1000000 in
theorem rho4_any (a : Int) (m v x : Nat) (w : World) (hx : x < 18446744073709551616) (hm : m < 18446744073709551616) : Calls Tryz.prog 68 #[.agg (condA a 5 m v), .int .u64 x] w fun e w' => e = .returned (.bool (hoF 4 x m v)) ∧ Below w.heap.size w w' := by
  have HB := Lib.hid (show Below w.heap.size w (w.alloc (.cells (condA a 5 m v) 109)) from (Below.refl _ _).alloc (Nat.le_refl _) _)
  go_enter Tryz.func68, Tryz.ntmps68
  go_wp2
  go_ret
  exact ⟨ret_bl (by rw [Bool.eq_iff_iff]; simp [hoF]), HB.out⟩
set_option maxHeartbeats 1000000 in
theorem rho5_any (a : Int) (m v x : Nat) (w : World) (hx : x < 18446744073709551616) (hm : m < 18446744073709551616) : Calls Tryz.prog 68 #[.agg (condA a 6 m v), .int .u64 x] w fun e w' => e = .returned (.bool (hoF 5 x m v)) ∧ Below w.heap.size w w' := by
  have HB := Lib.hid (show Below w.heap.size w (w.alloc (.cells (condA a 6 m v) 109)) from (Below.refl _ _).alloc (Nat.le_refl _) _)
  go_enter Tryz.func68, Tryz.ntmps68
  go_wp2
  go_ret
  exact ⟨ret_bl (by rw [Bool.eq_iff_iff]; simp [hoF]), HB.out⟩
set_option maxHeartbeats 1000000 in
theorem rho6_any (a : Int) (m v x : Nat) (w : World) (hx : x < 18446744073709551616) (hm : m < 18446744073709551616) : Calls Tryz.prog 68 #[.agg (condA a 7 m v), .int .u64 x] w fun e w' => e = .returned (.bool (hoF 6 x m v)) ∧ Below w.heap.size w w' := by
  have HB := Lib.hid (show Below w.heap.size w (w.alloc (.cells (condA a 7 m v) 109)) from (Below.refl _ _).alloc (Nat.le_refl _) _)
  go_enter Tryz.func68, Tryz.ntmps68
  go_wp2
  go_ret
  exact ⟨ret_bl (by rw [bits_and_u64_nat x m hx hm, Bool.eq_iff_iff]; simp [hoF]; omega), HB.out⟩
theorem refHolds_any (c : CD) (h : RiC c) (hm : c.m < 18446744073709551616) (x : Nat) (hx : x < 18446744073709551616) (w : World) :
    Calls Tryz.prog 68 #[.agg #[.int .i64 c.a, .int .i64 c.o, .int .u64 c.m, .int .u64 c.v], .int .u64 x] w fun e w' => e = .returned (.bool (hoF (c.o - 1).toNat x c.m c.v)) ∧ Below w.heap.size w w' := by
  obtain ⟨a, o, m, v⟩ := c
  have ho : o = 1 ∨ o = 2 ∨ o = 3 ∨ o = 4 ∨ o = 5 ∨ o = 6 ∨ o = 7 := by have := h.2.2.1; have := h.2.2.2.1; simp only at *; omega
  rcases ho with rfl | rfl | rfl | rfl | rfl | rfl | rfl
  · exact rho0_any a m v x w hx hm
  · exact rho1_any a m v x w hx hm
  · exact rho2_any a m v x w hx hm
  · exact rho3_any a m v x w hx hm
  · exact rho4_any a m v x w hx hm
  · exact rho5_any a m v x w hx hm
  · exact rho6_any a m v x w hx hm
theorem find_hit17 {p : RV → Bool} {F : Nat → RV} {n q : Nat} (hq : q < n) (h : ∀ j, j < q → p (F j) = false) (hp : p (F q) = true) : ((List.range n).map F).find? p = some (F q) := by
  rw [List.find?_eq_some_iff_getElem]
  refine ⟨hp, q, by simpa using hq, by simp, fun j hj => ?_⟩
  simp [h j hj]
theorem find_no17 {p : RV → Bool} {F : Nat → RV} {n : Nat} (h : ∀ j, j < n → p (F j) = false) : ((List.range n).map F).find? p = none := by
  rw [List.find?_eq_none]
  intro r hr
  obtain ⟨j, hj, rfl⟩ := List.mem_map.1 hr
  rw [h j (List.mem_range.1 hj)]
  simp
theorem rulH_val (nm : ByteArray) (f : Nat → Nat) (r : RL) : rulH nm f r.val = (decide (r.nm = nm) && (List.range r.n).all fun j => hoC f (r.C j)) := by
  unfold rulH allC RL.val
  simp only
  rw [List.all_map]
  rfl
theorem all_snoc (g : Nat → Bool) (t : Nat) : (List.range (t + 1)).all g = ((List.range t).all g && g t) := by
  rw [List.range_succ, List.all_append]
  simp
theorem all_cut {g : Nat → Bool} {t n : Nat} (h : (List.range t).all g = false) (ht : t ≤ n) : (List.range n).all g = false := by
  rw [List.all_eq_false] at h ⊢
  obtain ⟨x, hx, hg⟩ := h
  exact ⟨x, List.mem_range.2 (by have := List.mem_range.1 hx; omega), hg⟩
theorem rlaC {w : World} {A : Option Addr} {n : Nat} {R : Nat → RL} (h : RlA w A n R) : ∀ i, i < n → ConA w (R i).A (R i).n (R i).C := fun i hi => by
  rcases h with h0 | ⟨b, o, _, _, hc⟩
  · omega
  · exact (hc i hi).2.2.2.2.2.2.2.2.2
theorem infoAct9 : (Tryz.prog.info? 36).map (·.size) = some 2 := by kernel_rfl
set_option maxRecDepth 100000 in
set_option maxHeartbeats 8000000 in
theorem refDecide_any (k u : Int) (x : Bool) (A : Option Addr) (n c : Nat) (R : Nat → RL) (nm : ByteArray) (ab : Int) (f : Nat → Nat) (w : World) (hn : n ≤ 500) (h12 : ∀ i, i < n → (R i).n ≤ 1000) (hR : RlA w A n R) (hri : ∀ i, i < n → ∀ j, j < (R i).n → RiC ((R i).C j)) (hf : ∀ i, f i < 18446744073709551616) :
    Calls Tryz.prog 35 #[.agg (polA k u x A n c), .string nm, .int .i64 ab, .agg (argsA f)] w fun e w' => e = .returned (.agg #[.int .i64 (decF k u ((List.range n).map fun i => (R i).val) nm fun i => argF ab (f i)).1, .int .i64 (decF k u ((List.range n).map fun i => (R i).val) nm fun i => argF ab (f i)).2]) ∧ Below w.heap.size w w' := by
  obtain ⟨B, hBs⟩ : ∃ B, w.heap.size = B := ⟨_, rfl⟩
  obtain ⟨g, hg⟩ : ∃ g : Nat → Nat, (fun i => argF ab (f i)) = g := ⟨_, rfl⟩
  obtain ⟨D1, D2, hD⟩ : ∃ D1 D2, decF k u ((List.range n).map fun i => (R i).val) nm g = (D1, D2) := ⟨_, _, rfl⟩
  rw [hg, hD]
  simp only
  obtain ⟨W0, hW0⟩ : ∃ W, ((w.alloc (.cells (polA k u x A n c) 39)).alloc (.cells (argsA f) 66)).alloc (.cells #[.int .i64 0, .int .i64 0] 36) = W := ⟨_, rfl⟩
  have hb0 : Below B w W0 := by rw [← hW0, ← hBs]; exact (((Below.refl _ _).alloc (Nat.le_refl _) _).alloc (by simp) _).alloc (by simp; omega) _
  have hp0 : RowC W0 B (polA k u x A n c) 39 := by rw [← hW0, ← hBs]; exact ((RowC.new _ _ _ _ rfl).alloc _).alloc _
  have ha0 : RowC W0 (B + 1) (argsA f) 66 := by rw [← hW0, ← hBs]; exact (RowC.new _ _ _ _ (by simp)).alloc _
  have hz0 : RowC W0 (B + 2) #[.int .i64 0, .int .i64 0] 36 := by rw [← hW0, ← hBs]; exact RowC.new _ _ _ _ (by simp)
  have hR0 := hR.below hb0 (Nat.le_of_eq hBs)
  have hS0 : B + 3 = W0.heap.size := by rw [← hW0, ← hBs]; simp
  have HFX : Hid (∀ W, Below W0.heap.size W0 W → RowC W B (polA k u x A n c) 39 ∧ RowC W (B + 1) (argsA f) 66 ∧ RowC W (B + 2) #[.int .i64 0, .int .i64 0] 36 ∧ RlA W A n R ∧ Below B w W) := Lib.hid fun W hW => ⟨hp0.below hW hp0.lt, ha0.below hW ha0.lt, hz0.below hW hz0.lt, hR0.below hW (Nat.le_refl _), hb0.trans (hW.mono (by omega))⟩
  have HIT : Hid (∀ q, q < n → (∀ j, j < q → rulH nm g (R j).val = false) → rulH nm g (R q).val = true → (R q).k = D1 ∧ (R q).u = D2) := Lib.hid fun q hq h1 h2 => by
    have h3 := find_hit17 (F := fun i => (R i).val) hq h1 h2
    unfold decF at hD
    rw [h3] at hD
    exact Prod.mk.inj hD
  have HNO : Hid ((∀ j, j < n → rulH nm g (R j).val = false) → k = D1 ∧ u = D2) := Lib.hid fun h1 => by
    have h3 := find_no17 (F := fun i => (R i).val) h1
    unfold decF at hD
    rw [h3] at hD
    exact Prod.mk.inj hD
  have HW0 := Lib.hid hW0
  have HBS := Lib.hid hBs
  have HRI := Lib.hid hri
  have HF := Lib.hid hf
  have HG := Lib.hid hg
  have H12 := Lib.hid h12
  have HS0 := Lib.hid hS0
  clear hb0 hp0 ha0 hz0 hR0 hR hD hri hf hg h12 hS0
  go_enter Tryz.func35, Tryz.ntmps35
  go_upto_region 1 with fail
  (try rw [HW0.out])
  (try rw [hBs])
  clear hW0 hBs
  go_wp2
  go_loopw [9] (fun s wr => ∃ q : Nat, q ≤ n ∧ s = .int .i64 q ∧ Hid (Below W0.heap.size W0 wr ∧ ∀ j, j < q → rulH nm g (R j).val = false))
    (fun s _ => n - (intOf s).toNat)
  case atStart => exact ⟨0, Nat.zero_le _, rfl, Lib.hid ⟨Below.refl _ _, fun j hj => absurd hj (Nat.not_lt_zero _)⟩⟩
  case round =>
    obtain ⟨q, hq, rfl, HI⟩ := hrel
    have hfx := HFX.out wr HI.out.1
    have p3 := hfx.1.cell 3 (.slice A n c) rfl
    by_cases hlt : q < n
    · rcases hfx.2.2.2.1 with h0 | ⟨b2, o2, rfl, hbl, hc⟩
      · omega
      obtain ⟨q0, q1, q2, q3, hrest⟩ := hc q hlt
      obtain ⟨r, hr⟩ : ∃ r, R q = r := ⟨_, rfl⟩
      rw [hr] at q0 q1 q2 q3
      rw [Nat.add_zero] at q0
      have HRV := Lib.hid hr
      have hrn : r.n ≤ 1000 := by rw [← hr]; exact H12.out q hlt
      obtain ⟨X, hX⟩ : ∃ X, wr.heap.size = X := ⟨_, rfl⟩
      obtain ⟨W5, hW5⟩ : ∃ W, wr.alloc (.cells #[.string r.nm, .int .i64 r.k, .int .i64 r.u, .slice r.A r.n r.c] 108) = W := ⟨_, rfl⟩
      have hb5 : Below wr.heap.size wr W5 := by rw [← hW5]; exact (Below.refl _ _).alloc (Nat.le_refl _) _
      have hx5 : RowC W5 X #[.string r.nm, .int .i64 r.k, .int .i64 r.u, .slice r.A r.n r.c] 108 := by rw [← hW5, ← hX]; exact RowC.new _ _ _ _ rfl
      have hB5 : Below W0.heap.size W0 W5 := bTr HI.out.1 hb5
      have HX5 := Lib.hid hx5
      have HB5 := Lib.hid hB5
      have HW5 := Lib.hid hW5
      have c0 := hx5.cell 0 (.string r.nm) rfl
      have c3 := hx5.cell 3 (.slice r.A r.n r.c) rfl
      have i1 : (0 : Int) ≤ (q : Int) := by omega
      have i2 : (q : Int) < (n : Int) := by omega
      obtain ⟨b0, hb0⟩ : ∃ b0, decide (r.nm = nm) = b0 := ⟨_, rfl⟩
      have hnm := nm_eq17 r.nm nm
      rw [hb0] at hnm
      have HB0 := Lib.hid hb0
      clear hfx hbl hc hrest hr hb5 hx5 hB5 hb0
      go_upto_region 5 with fail
      (try rw [hX])
      (try rw [HW5.out])
      clear hX hW5 q0 q1 q2 q3 p3
      go_wp2
      clear c0
      go_loopw [11, 12] (fun is s wq => ∃ (t : Nat) (b : Bool), t ≤ r.n ∧ is = .bool b ∧ s = .int .i64 t ∧ Hid (Below W5.heap.size W5 wq ∧ (decide (r.nm = nm) && (List.range t).all fun j => hoC g (r.C j)) = b)) (fun _ s _ => r.n - (intOf s).toNat)
      case atStart => exact ⟨0, b0, Nat.zero_le _, rfl, rfl, Lib.hid ⟨Below.refl _ _, by rw [HB0.out]; simp⟩⟩
      case round =>
        obtain ⟨t, b, ht, rfl, rfl, HJ⟩ := hrel
        have hBW : Below W0.heap.size W0 wr := bTr HB5.out HJ.out.1
        have HBW := Lib.hid hBW
        have x3 := (HX5.out.below HJ.out.1 HX5.out.lt).cell 3 (.slice r.A r.n r.c) rfl
        cases b with
        | false =>
          have HNX : Hid (rulH nm g (R q).val = false) := Lib.hid (by
            rw [HRV.out, rulH_val]
            have h := HJ.out.2
            rw [Bool.and_eq_false_iff] at h ⊢
            rcases h with h | h
            · exact .inl h
            · exact .inr (all_cut h ht))
          clear hBW
          by_cases htl : t < r.n
          · have i3 : (t : Int) < (r.n : Int) := by omega
            go_wp2
            exact ⟨⟨q + 1, by omega, by go_num, Lib.hid ⟨HBW.out, fun j hj => by
              by_cases e : j = q
              · subst e; exact HNX.out
              · exact HI.out.2 j (by omega)⟩⟩, by simp [intOf]; omega⟩
          · obtain rfl : t = r.n := by omega
            go_wp2
            exact ⟨⟨q + 1, by omega, by go_num, Lib.hid ⟨HBW.out, fun j hj => by
              by_cases e : j = q
              · subst e; exact HNX.out
              · exact HI.out.2 j (by omega)⟩⟩, by simp [intOf]; omega⟩
        | true =>
          by_cases htl : t < r.n
          · have hcon := rlaC (HFX.out wr hBW).2.2.2.1 q hlt
            have hri := HRI.out q hlt t (by rw [HRV.out]; exact htl)
            rw [HRV.out] at hcon hri
            obtain ⟨y, hy⟩ : ∃ y, r.C t = y := ⟨_, rfl⟩
            rcases hcon with h0 | ⟨b3, o3, hA3, hbl, hcs⟩
            · omega
            obtain ⟨q0, q1, q2, q3, hbm, hbv⟩ := hcs t htl
            rw [hy] at q0 q1 q2 q3 hbm hbv hri
            rw [Nat.add_zero] at q0
            rw [hA3] at x3
            have HY := Lib.hid hy
            obtain ⟨a, ha⟩ : ∃ a : Nat, y.a = a := ⟨y.a.toNat, by have := hri.1; omega⟩
            have ha6 : a < 6 := by have := hri.2.1; omega
            have ea := (HFX.out wr hBW).2.1.cell a _ (argsA_at f a ha6)
            have KG := Lib.hid fun W => refArg_any ab (f a) W (HF.out a)
            have hgl : argF ab (f a) < 18446744073709551616 := by have := HF.out a; unfold argF; split <;> omega
            have hho : hoF (y.o - 1).toNat (argF ab (f a)) y.m y.v = hoC g y := by unfold hoC; rw [← HG.out, ha]; rfl
            obtain ⟨hv, hhv⟩ : ∃ hv, hoC g y = hv := ⟨_, rfl⟩
            have kh : ∀ W, Calls Tryz.prog 68 #[.agg #[.int .i64 y.a, .int .i64 y.o, .int .u64 y.m, .int .u64 y.v], .int .u64 (argF ab (f a))] W fun e w' => e = .returned (.bool hv) ∧ Below W.heap.size W w' := fun W => by
              have h := refHolds_any y hri (by omega) (argF ab (f a)) hgl W
              rw [hho, hhv] at h
              exact h
            have KH := Lib.hid kh
            have HHO := Lib.hid hhv
            have HM : Hid (∀ w', Below wr.heap.size wr w' → w'.cell? ⟨X, 3, none⟩ = some (.slice (some ⟨b3, o3, none⟩) r.n r.c) ∧ w'.cell? ⟨b3, o3 + t * 4, none⟩ = some (.int .i64 (a : Int)) ∧ w'.cell? ⟨b3, o3 + t * 4 + 1, none⟩ = some (.int .i64 y.o) ∧ w'.cell? ⟨b3, o3 + t * 4 + 2, none⟩ = some (.int .u64 y.m) ∧ w'.cell? ⟨b3, o3 + t * 4 + 3, none⟩ = some (.int .u64 y.v) ∧ w'.cell? ⟨B + 1, a, none⟩ = some (.int .u64 (f a))) := Lib.hid fun W hW => by
              have hx := HX5.out.below (bTr HJ.out.1 hW) HX5.out.lt
              rw [ha] at q0
              exact ⟨by rw [← hA3]; exact hx.cell 3 _ rfl, (hW.cell (p := ⟨b3, o3 + t * 4, none⟩) hbl).trans q0, (hW.cell (p := ⟨b3, o3 + t * 4 + 1, none⟩) hbl).trans q1, (hW.cell (p := ⟨b3, o3 + t * 4 + 2, none⟩) hbl).trans q2, (hW.cell (p := ⟨b3, o3 + t * 4 + 3, none⟩) hbl).trans q3, (HFX.out W (bTr hBW hW)).2.1.cell a _ (argsA_at f a ha6)⟩
            obtain ⟨m0, m1, m2, m3, m4, m5⟩ := HM.out wr (Below.refl _ _)
            rw [ha] at KH
            have i3 : (0 : Int) ≤ (t : Int) := by omega
            have i4 : (t : Int) < (r.n : Int) := by omega
            have i5 : (0 : Int) ≤ (a : Int) := by omega
            have i6 : (a : Int) < 6 := by omega
            clear hcs hy hbl hA3 q0 q1 q2 q3 hbm hbv hri ha x3 ea hgl hho hBW kh hhv
            go_wp2_with fail
            go_region_held3 (fun w' => w'.cell? ⟨X, 3, none⟩ = some (.slice (some ⟨b3, o3, none⟩) r.n r.c) ∧ w'.cell? ⟨b3, o3 + t * 4, none⟩ = some (.int .i64 (a : Int)) ∧ w'.cell? ⟨b3, o3 + t * 4 + 1, none⟩ = some (.int .i64 y.o) ∧ w'.cell? ⟨b3, o3 + t * 4 + 2, none⟩ = some (.int .u64 y.m) ∧ w'.cell? ⟨b3, o3 + t * 4 + 3, none⟩ = some (.int .u64 y.v) ∧ w'.cell? ⟨B + 1, a, none⟩ = some (.int .u64 (f a)))
              (first | (with_reducible exact HM.out _ (by assumption)) | exact HM.out _ (Below.refl _ _) | exact HM.out _ (Below.refl _ _).drew)
              (first
                | (go_at_call 69
                   refine (KG.out _).mono ?_
                   rintro e w9 ⟨rfl, rfl⟩)
                | (go_at_call 68
                   refine (KH.out _).mono ?_
                   rintro e w9 ⟨rfl, hB9⟩
                   have hk9 : Below wr.heap.size wr w9 := (Below.refl _ _).drew.trans hB9))
            all_goals go_wp2
            all_goals exact ⟨⟨t + 1, _, by omega, rfl, by go_num, Lib.hid ⟨bTr HJ.out.1 hk9, by rw [all_snoc, ← Bool.and_assoc, HJ.out.2, HY.out, HHO.out]; rfl⟩⟩, by simp [intOf]; omega⟩
          · obtain rfl : t = r.n := by omega
            have hhit := HIT.out q hlt HI.out.2 (by rw [HRV.out, rulH_val]; exact HJ.out.2)
            rw [HRV.out] at hhit
            obtain ⟨e1, e2⟩ := hhit
            have x1 := (HX5.out.below HJ.out.1 HX5.out.lt).cell 1 (.int .i64 r.k) rfl
            have x2 := (HX5.out.below HJ.out.1 HX5.out.lt).cell 2 (.int .i64 r.u) rfl
            rw [e1] at x1
            rw [e2] at x2
            have HZ := Lib.hid (HFX.out wr hBW)
            clear e1 e2 hBW
            go_wp2_with (refine wpList_store_row (by rfl) 36 _ _ (by rfl) (B + 2) #[.int .i64 D1, .int .i64 D2] (by rfl) (by rfl) _ _ HZ.out.2.2.1 (show _ = some 2 from infoAct9) (by rfl) (by simp [Value.oneCell']) ?_)
            exact bodyPost_ret (results_cell_row Tryz.results35 _ _ (B + 2) _ #[.int .i64 D1, .int .i64 D2] (0, 0) _ (by rfl) (setRow_heap _ _ _ _ _ _ HZ.out.2.2.1) Tryz.underlying36 (by rfl) (show _ = some 2 from infoAct9)) rfl ⟨rfl, by rw [HBS.out]; exact below_setRow HZ.out.2.2.2.2 (by omega) _⟩
    · obtain rfl : q = n := by omega
      obtain ⟨e1, e2⟩ := HNO.out HI.out.2
      have p0 := hfx.1.cell 0 (.int .i64 k) rfl
      have p1 := hfx.1.cell 1 (.int .i64 u) rfl
      rw [e1] at p0
      rw [e2] at p1
      have HZ := Lib.hid hfx
      clear e1 e2 hfx
      go_wp2_with (refine wpList_store_row (by rfl) 36 _ _ (by rfl) (B + 2) #[.int .i64 D1, .int .i64 D2] (by rfl) (by rfl) _ _ HZ.out.2.2.1 (show _ = some 2 from infoAct9) (by rfl) (by simp [Value.oneCell']) ?_)
      exact bodyPost_ret (results_cell_row Tryz.results35 _ _ (B + 2) _ #[.int .i64 D1, .int .i64 D2] (0, 0) _ (by rfl) (setRow_heap _ _ _ _ _ _ HZ.out.2.2.1) Tryz.underlying36 (by rfl) (show _ = some 2 from infoAct9)) rfl ⟨rfl, by rw [HBS.out]; exact below_setRow HZ.out.2.2.2.2 (by omega) _⟩
end Go.Proofs.YtcmdmnnkbliggaaGreatDoor

/-
  Layer 17: the program's Decide and Blind.
-/
namespace Go.Proofs.YtcmdmnnkbliggaaGreatDoor
open Go.RowKit Go.Shelf
set_option linter.unusedVariables false

theorem vals_bang (l : List RL) : l.map RL.val = (List.range l.length).map fun i => (l[i]!).val := by
  apply List.ext_getElem
  · simp
  · intro i h1 h2
    simp at h1
    simp
    rw [List.getElem?_eq_getElem h1]
    rfl
theorem holdsC_any (c : CD) (h : RiC c) (hm : c.m < 18446744073709551616) (f : Nat → Nat) (hf : ∀ i, f i < 18446744073709551616) (w : World) :
    Calls Tryz.prog 64 #[.agg #[.int .i64 c.a, .int .i64 c.o, .int .u64 c.m, .int .u64 c.v], .agg (argsA f)] w fun e w' => e = .returned (.bool (hoC f c)) ∧ Below w.heap.size w w' := by
  obtain ⟨a, o, m, v⟩ := c
  have hj := ric_j h
  obtain ⟨b, hb⟩ : ∃ b : Nat, a = b := ⟨a.toNat, by have := h.1; simp only at this; omega⟩
  subst hb
  exact holds_ok b (by have := h.2.1; simp only at this; omega) o m v (o - 1).toNat hj f (fun i _ => hf i) hm w
set_option maxRecDepth 100000 in
set_option maxHeartbeats 4000000 in
theorem dec1_any (c : CD) (h : RiC c) (hm : c.m < 18446744073709551616) (f : Nat → Nat) (hf : ∀ i, f i < 18446744073709551616) (cb : Nat) (w : World) (hb : RowC w cb (argsA f) 66) :
    Calls Tryz.prog 63 #[.agg #[.int .i64 c.a, .int .i64 c.o, .int .u64 c.m, .int .u64 c.v], .pointer (some ⟨cb, 0, none⟩)] w fun e w' => e = .returned (.bool (hoC f c)) ∧ Below w.heap.size w w' := by
  obtain ⟨W0, hW0⟩ : ∃ W, w.alloc (.cells #[.int .i64 c.a, .int .i64 c.o, .int .u64 c.m, .int .u64 c.v] 61) = W := ⟨_, rfl⟩
  have hb0 : Below w.heap.size w W0 := by rw [← hW0]; exact (Below.refl _ _).alloc (Nat.le_refl _) _
  have hr0 : RowC W0 w.heap.size #[.int .i64 c.a, .int .i64 c.o, .int .u64 c.m, .int .u64 c.v] 61 := by rw [← hW0]; exact RowC.new _ _ _ _ rfl
  have ha0 := hb.below hb0 hb.lt
  have KH := Lib.hid (holdsC_any c h hm f hf W0)
  have HB0 := Lib.hid hb0
  have HW0 := Lib.hid hW0
  have c0 := hr0.cell 0 (.int .i64 c.a) rfl
  have c1 := hr0.cell 1 (.int .i64 c.o) rfl
  have c2 := hr0.cell 2 (.int .u64 c.m) rfl
  have c3 := hr0.cell 3 (.int .u64 c.v) rfl
  have a0 := ha0.cell 0 (.int .u64 (f 0)) rfl
  have a1 := ha0.cell 1 (.int .u64 (f 1)) rfl
  have a2 := ha0.cell 2 (.int .u64 (f 2)) rfl
  have a3 := ha0.cell 3 (.int .u64 (f 3)) rfl
  have a4 := ha0.cell 4 (.int .u64 (f 4)) rfl
  have a5 := ha0.cell 5 (.int .u64 (f 5)) rfl
  clear hb hW0 hb0 hr0 ha0
  go_enter Tryz.func63, Tryz.ntmps63
  go_upto_region 1 with fail
  rw [HW0.out]
  go_wp2_with fail
  refine KH.out.mono ?_
  rintro e w2 ⟨rfl, hB2⟩
  go_wp2
  go_ret
  exact ⟨rfl, HB0.out.trans (hB2.mono HB0.out.size)⟩
theorem infoActP : (Tryz.prog.info? 23).map (·.size) = some 2 := by kernel_rfl
set_option maxRecDepth 100000 in
set_option maxHeartbeats 8000000 in
theorem decide_any (k u : Int) (x : Bool) (A : Option Addr) (l : List RL) (c : Nat) (nm : ByteArray) (f : Nat → Nat) (w : World) (hl : RlL w A l) (hln : l.length ≤ 1000) (h12 : ∀ e ∈ l, e.n ≤ 100000) (hri : ∀ r ∈ l, BoR r.val) (hf : ∀ i, f i < 18446744073709551616) :
    Calls Tryz.prog 32 #[.agg (polA k u x A l.length c), .string nm, .agg (argsA f)] w fun e w' => e = .returned (.agg #[.int .i64 (decF k u (l.map RL.val) nm f).1, .int .i64 (decF k u (l.map RL.val) nm f).2]) ∧ Below w.heap.size w w' := by
  rw [vals_bang]
  obtain ⟨n, hnl⟩ : ∃ n, l.length = n := ⟨_, rfl⟩
  obtain ⟨B, hBs⟩ : ∃ B, w.heap.size = B := ⟨_, rfl⟩
  rw [hnl] at hln ⊢
  obtain ⟨D1, D2, hD⟩ : ∃ D1 D2, decF k u ((List.range n).map fun i => (l[i]!).val) nm f = (D1, D2) := ⟨_, _, rfl⟩
  rw [hD]
  simp only
  obtain ⟨W0, hW0⟩ : ∃ W, ((w.alloc (.cells (polA k u x A n c) 26)).alloc (.cells (argsA f) 66)).alloc (.cells #[.int .i64 0, .int .i64 0] 23) = W := ⟨_, rfl⟩
  have hb0 : Below B w W0 := by rw [← hW0, ← hBs]; exact (((Below.refl _ _).alloc (Nat.le_refl _) _).alloc (by simp) _).alloc (by simp; omega) _
  have hp0 : RowC W0 B (polA k u x A n c) 26 := by rw [← hW0, ← hBs]; exact ((RowC.new _ _ _ _ rfl).alloc _).alloc _
  have ha0 : RowC W0 (B + 1) (argsA f) 66 := by rw [← hW0, ← hBs]; exact (RowC.new _ _ _ _ (by simp)).alloc _
  have hz0 : RowC W0 (B + 2) #[.int .i64 0, .int .i64 0] 23 := by rw [← hW0, ← hBs]; exact RowC.new _ _ _ _ (by simp)
  have hR0 := hl.below hb0 (Nat.le_of_eq hBs)
  have hS0 : B + 3 = W0.heap.size := by rw [← hW0, ← hBs]; simp
  have HFX : Hid (∀ W, Below W0.heap.size W0 W → RowC W B (polA k u x A n c) 26 ∧ RowC W (B + 1) (argsA f) 66 ∧ RowC W (B + 2) #[.int .i64 0, .int .i64 0] 23 ∧ RlL W A l ∧ Below B w W) := Lib.hid fun W hW => ⟨hp0.below hW hp0.lt, ha0.below hW ha0.lt, hz0.below hW hz0.lt, hR0.below hW (Nat.le_refl _), hb0.trans (hW.mono (by omega))⟩
  have HIT : Hid (∀ q, q < n → (∀ j, j < q → rulH nm f (l[j]!).val = false) → rulH nm f (l[q]!).val = true → (l[q]!).k = D1 ∧ (l[q]!).u = D2) := Lib.hid fun q hq h1 h2 => by
    have h3 := find_hit17 (F := fun i => (l[i]!).val) hq h1 h2
    unfold decF at hD
    rw [h3] at hD
    exact Prod.mk.inj hD
  have HNO : Hid ((∀ j, j < n → rulH nm f (l[j]!).val = false) → k = D1 ∧ u = D2) := Lib.hid fun h1 => by
    have h3 := find_no17 (F := fun i => (l[i]!).val) h1
    unfold decF at hD
    rw [h3] at hD
    exact Prod.mk.inj hD
  have HMEM : Hid (∀ q, q < n → l[q]! ∈ l) := Lib.hid fun q hq => by rw [getElem!_pos l q (by omega)]; exact List.getElem_mem _
  have HW0 := Lib.hid hW0
  have HBS := Lib.hid hBs
  have HRI := Lib.hid hri
  have HF := Lib.hid hf
  have H12 := Lib.hid h12
  have HS0 := Lib.hid hS0
  have HNL := Lib.hid hnl
  clear hb0 hp0 ha0 hz0 hR0 hl hD hri hf h12 hS0 hnl
  go_enter Tryz.func32, Tryz.ntmps32
  go_upto_region 1 with fail
  (try rw [HW0.out])
  (try rw [hBs])
  have p3 := (HFX.out W0 (Below.refl _ _)).1.cell 3 (.slice A n c) rfl
  clear hW0 hBs
  have hmf : ∀ (fn : Fn) (first cap : Array Value) (w : World), (Instr.makeFunc fn first cap).run Tryz.prog w = .ok (.func fn first cap) w := fun _ _ _ _ => rfl
  go_wp2
  go_step3
  go_wp2
  go_step3
  go_wp2
  clear p3 hmf
  go_loopw [16] (fun s wr => ∃ q : Nat, q ≤ n ∧ s = .int .i64 q ∧ Hid (Below W0.heap.size W0 wr ∧ ∀ j, j < q → rulH nm f (l[j]!).val = false))
    (fun s _ => n - (intOf s).toNat)
  case atStart => exact ⟨0, Nat.zero_le _, rfl, Lib.hid ⟨Below.refl _ _, fun j hj => absurd hj (Nat.not_lt_zero _)⟩⟩
  case round =>
    obtain ⟨q, hq, rfl, HI⟩ := hrel
    have hfx := HFX.out wr HI.out.1
    by_cases hlt : q < n
    · have hmem := HMEM.out q hlt
      rcases hfx.2.2.2.1.1 with h0 | ⟨b2, o2, rfl, hbl, hc⟩
      · rw [h0] at hmem; cases hmem
      obtain ⟨q0, q1, q2, q3⟩ := hc q (by rw [HNL.out]; exact hlt)
      obtain ⟨r, hr⟩ : ∃ r, l[q]! = r := ⟨_, rfl⟩
      rw [hr] at q0 q1 q2 q3 hmem
      rw [Nat.add_zero] at q0
      have HRV := Lib.hid hr
      have HMM := Lib.hid hmem
      have hrn : r.n ≤ 100000 := H12.out r hmem
      obtain ⟨X, hX⟩ : ∃ X, wr.heap.size = X := ⟨_, rfl⟩
      obtain ⟨W5, hW5⟩ : ∃ W, wr.alloc (.cells #[.string r.nm, .int .i64 r.k, .int .i64 r.u, .slice r.A r.n r.c] 57) = W := ⟨_, rfl⟩
      have hb5 : Below wr.heap.size wr W5 := by rw [← hW5]; exact (Below.refl _ _).alloc (Nat.le_refl _) _
      have hx5 : RowC W5 X #[.string r.nm, .int .i64 r.k, .int .i64 r.u, .slice r.A r.n r.c] 57 := by rw [← hW5, ← hX]; exact RowC.new _ _ _ _ rfl
      have hB5 : Below W0.heap.size W0 W5 := bTr HI.out.1 hb5
      have HX5 := Lib.hid hx5
      have HB5 := Lib.hid hB5
      have HW5 := Lib.hid hW5
      have c0 := hx5.cell 0 (.string r.nm) rfl
      have c3 := hx5.cell 3 (.slice r.A r.n r.c) rfl
      have i1 : (0 : Int) ≤ (q : Int) := by omega
      have i2 : (q : Int) < (n : Int) := by omega
      have hnm := nm_eq17 r.nm nm
      clear hfx hbl hc hr hb5 hx5 hB5 hmem
      go_upto_region 5 with fail
      (try rw [hX])
      (try rw [HW5.out])
      clear hX hW5 q0 q1 q2 q3
      cases hb0 : decide (r.nm = nm)
      · rw [hb0] at hnm
        have HNX : Hid (rulH nm f (l[q]!).val = false) := Lib.hid (by rw [HRV.out, rulH_val, hb0]; rfl)
        clear hb0
        go_wp2
        exact ⟨⟨q + 1, by omega, by go_num, Lib.hid ⟨HB5.out, fun j hj => by
          by_cases e : j = q
          · subst e; exact HNX.out
          · exact HI.out.2 j (by omega)⟩⟩, by simp [intOf]; omega⟩
      rw [hb0] at hnm
      have HB0 := Lib.hid hb0
      clear hb0
      go_wp2
      clear c0
      go_loopw [27] (fun s wq => ∃ (t : Nat), t ≤ r.n ∧ s = .int .i64 t ∧ Hid (Below W5.heap.size W5 wq ∧ ((List.range t).all fun j => hoC f (r.C j)) = true)) (fun s _ => r.n - (intOf s).toNat)
      case atStart => exact ⟨0, Nat.zero_le _, rfl, Lib.hid ⟨Below.refl _ _, rfl⟩⟩
      case round =>
        obtain ⟨t, ht, rfl, HJ⟩ := hrel
        have hBW : Below W0.heap.size W0 wr := bTr HB5.out HJ.out.1
        have HBW := Lib.hid hBW
        by_cases htl : t < r.n
        · have hcon := ((HFX.out wr hBW).2.2.2.1.2 r HMM.out).2.2.2.2.2.conA
          obtain ⟨y, hy⟩ : ∃ y, r.C t = y := ⟨_, rfl⟩
          have hri := HRI.out r HMM.out y (List.mem_map.2 ⟨t, List.mem_range.2 htl, hy⟩)
          rcases hcon with h0 | ⟨b3, o3, hA3, hbl, hcs⟩
          · omega
          obtain ⟨q0, q1, q2, q3, hbm, hbv⟩ := hcs t htl
          rw [hy] at q0 q1 q2 q3
          rw [Nat.add_zero] at q0
          have HY := Lib.hid hy
          obtain ⟨Y, hY⟩ : ∃ Y, wr.heap.size = Y := ⟨_, rfl⟩
          obtain ⟨W7, hW7⟩ : ∃ W, wr.alloc (.cells #[.int .i64 y.a, .int .i64 y.o, .int .u64 y.m, .int .u64 y.v] 61) = W := ⟨_, rfl⟩
          have hb7 : Below wr.heap.size wr W7 := by rw [← hW7]; exact (Below.refl _ _).alloc (Nat.le_refl _) _
          have hy7 : RowC W7 Y #[.int .i64 y.a, .int .i64 y.o, .int .u64 y.m, .int .u64 y.v] 61 := by rw [← hW7, ← hY]; exact RowC.new _ _ _ _ rfl
          have HB7 : Hid (Below W5.heap.size W5 W7) := Lib.hid (bTr HJ.out.1 hb7)
          have KD := Lib.hid (dec1_any y hri.1 (by have := hri.2.1; omega) f HF.out (B + 1) W7 (HFX.out W7 (bTr HB5.out HB7.out)).2.1)
          have y0 := hy7.cell 0 (.int .i64 y.a) rfl
          have y1 := hy7.cell 1 (.int .i64 y.o) rfl
          have y2 := hy7.cell 2 (.int .u64 y.m) rfl
          have y3 := hy7.cell 3 (.int .u64 y.v) rfl
          have HW7 := Lib.hid hW7
          have i3 : (0 : Int) ≤ (t : Int) := by omega
          have i4 : (t : Int) < (r.n : Int) := by omega
          rw [hA3]
          clear hcs hy hbl hA3 hbm hbv hri hBW hb7 hy7
          go_upto_region 9 with fail
          (try rw [hY])
          (try rw [HW7.out])
          clear hY hW7 q0 q1 q2 q3
          cases hh : hoC f y
          · rw [hh] at KD
            have HNX : Hid (rulH nm f (l[q]!).val = false) := Lib.hid (by
              rw [HRV.out, rulH_val, all_cut (t := t + 1) (by rw [all_snoc, HY.out, hh, Bool.and_false]) htl, Bool.and_false])
            clear hh
            go_wp2_with (go_at_call 63; refine KD.out.mono ?_; rintro e w9 ⟨rfl, hB9⟩)
            exact ⟨⟨q + 1, by omega, by go_num, Lib.hid ⟨bTr HB5.out (bTr HB7.out hB9), fun j hj => by
              by_cases e : j = q
              · subst e; exact HNX.out
              · exact HI.out.2 j (by omega)⟩⟩, by simp [intOf]; omega⟩
          · rw [hh] at KD
            have HHH := Lib.hid hh
            clear hh
            go_wp2_with (go_at_call 63; refine KD.out.mono ?_; rintro e w9 ⟨rfl, hB9⟩)
            exact ⟨⟨t + 1, by omega, by go_num, Lib.hid ⟨bTr HB7.out hB9, by rw [all_snoc, HJ.out.2, HY.out, HHH.out]; rfl⟩⟩, by simp [intOf]; omega⟩
        · obtain rfl : t = r.n := by omega
          have hhit := HIT.out q hlt HI.out.2 (by rw [HRV.out, rulH_val, HB0.out, HJ.out.2]; rfl)
          rw [HRV.out] at hhit
          obtain ⟨e1, e2⟩ := hhit
          have x1 := (HX5.out.below HJ.out.1 HX5.out.lt).cell 1 (.int .i64 r.k) rfl
          have x2 := (HX5.out.below HJ.out.1 HX5.out.lt).cell 2 (.int .i64 r.u) rfl
          rw [e1] at x1
          rw [e2] at x2
          have HZ := Lib.hid (HFX.out wr hBW)
          clear e1 e2 hBW
          go_wp2_with (refine wpList_store_row (by rfl) 23 _ _ (by rfl) (B + 2) #[.int .i64 D1, .int .i64 D2] (by rfl) (by rfl) _ _ HZ.out.2.2.1 (show _ = some 2 from infoActP) (by rfl) (by simp [Value.oneCell']) ?_)
          rw [Exit.noGoto_ret]
          exact bodyPost_ret (results_cell_row Tryz.results32 _ _ (B + 2) _ #[.int .i64 D1, .int .i64 D2] (0, 0) _ (by rfl) (setRow_heap _ _ _ _ _ _ HZ.out.2.2.1) Tryz.underlying23 (by rfl) (show _ = some 2 from infoActP)) rfl ⟨rfl, by rw [HBS.out]; exact below_setRow HZ.out.2.2.2.2 (by omega) _⟩
    · obtain rfl : q = n := by omega
      obtain ⟨e1, e2⟩ := HNO.out HI.out.2
      have p0 := hfx.1.cell 0 (.int .i64 k) rfl
      have p1 := hfx.1.cell 1 (.int .i64 u) rfl
      rw [e1] at p0
      rw [e2] at p1
      have HZ := Lib.hid hfx
      clear e1 e2 hfx
      go_wp2_with (refine wpList_store_row (by rfl) 23 _ _ (by rfl) (B + 2) #[.int .i64 D1, .int .i64 D2] (by rfl) (by rfl) _ _ HZ.out.2.2.1 (show _ = some 2 from infoActP) (by rfl) (by simp [Value.oneCell']) ?_)
      rw [Exit.noGoto_ret]
      exact bodyPost_ret (results_cell_row Tryz.results32 _ _ (B + 2) _ #[.int .i64 D1, .int .i64 D2] (0, 0) _ (by rfl) (setRow_heap _ _ _ _ _ _ HZ.out.2.2.1) Tryz.underlying23 (by rfl) (show _ = some 2 from infoActP)) rfl ⟨rfl, by rw [HBS.out]; exact below_setRow HZ.out.2.2.2.2 (by omega) _⟩
end Go.Proofs.YtcmdmnnkbliggaaGreatDoor

/-
  Layer 17: the program's Blind; the document's.
-/
namespace Go.Proofs.YtcmdmnnkbliggaaGreatDoor
open Go.RowKit Go.Shelf
set_option linter.unusedVariables false

set_option maxRecDepth 100000 in
set_option maxHeartbeats 4000000 in
theorem bli1_any (r : RL) (nm : ByteArray) (cb : Nat) (w : World) (hb : RowC w cb #[.string nm] 9) :
    Calls Tryz.prog 67 #[.agg (rulA r.nm r.k r.u r.A r.n r.c), .pointer (some ⟨cb, 0, none⟩)] w fun e w' => e = .returned (.bool (decide (r.nm = nm))) ∧ Below w.heap.size w w' := by
  obtain ⟨W0, hW0⟩ : ∃ W, w.alloc (.cells (rulA r.nm r.k r.u r.A r.n r.c) 57) = W := ⟨_, rfl⟩
  have hb0 : Below w.heap.size w W0 := by rw [← hW0]; exact (Below.refl _ _).alloc (Nat.le_refl _) _
  have hr0 : RowC W0 w.heap.size (rulA r.nm r.k r.u r.A r.n r.c) 57 := by rw [← hW0]; exact RowC.new _ _ _ _ rfl
  have ha0 := hb.below hb0 hb.lt
  have HB0 := Lib.hid hb0
  have HW0 := Lib.hid hW0
  have c0 := hr0.cell 0 (.string r.nm) rfl
  have a0 := ha0.cell 0 (.string nm) rfl
  have hnm := nm_eq17 r.nm nm
  obtain ⟨b, hbd⟩ : ∃ b, decide (r.nm = nm) = b := ⟨_, rfl⟩
  rw [hbd] at hnm ⊢
  clear hb hW0 hb0 hr0 ha0 hbd
  go_enter Tryz.func67, Tryz.ntmps67
  go_upto_region 1 with fail
  rw [HW0.out]
  go_wp2
  go_ret
  exact ⟨rfl, HB0.out⟩
set_option maxRecDepth 100000 in
set_option maxHeartbeats 8000000 in
theorem idxB_any (A : Option Addr) (l : List RL) (c cb : Nat) (nm : ByteArray) (w : World) (hl : RlL w A l) (hn : l.length ≤ 1000) (hb : RowC w cb #[.string nm] 9) :
    Calls Tryz.prog 66 #[.slice A l.length c, .func (.func 67) #[] #[.pointer (some ⟨cb, 0, none⟩)]] w fun e w' => ((∃ q : Nat, q < l.length ∧ (∀ j, j < q → decide ((l[j]!).nm = nm) = false) ∧ decide ((l[q]!).nm = nm) = true ∧ e = .returned (.int .i64 q)) ∨ ((∀ j, j < l.length → decide ((l[j]!).nm = nm) = false) ∧ e = .returned (.int .i64 (-1)))) ∧ Below w.heap.size w w' := by
  obtain ⟨n, hnl⟩ : ∃ n, l.length = n := ⟨_, rfl⟩
  have HNL := Lib.hid hnl
  have HL := Lib.hid hl
  have HH := Lib.hid fun (e : RL) X (hX : Below w.heap.size w X) => bli1_any e nm cb X (hb.below hX hb.lt)
  rw [hnl] at hn ⊢
  clear hnl hl hb
  go_enter Tryz.func66, Tryz.ntmps66
  go_wp2
  go_loopw [8] (fun i wr => ∃ q : Nat, q ≤ n ∧ i = .int .i64 q ∧ Hid (Below w.heap.size w wr ∧ ∀ j, j < q → decide ((l[j]!).nm = nm) = false)) (fun i _ => n - (intOf i).toNat)
  case atStart => exact ⟨0, Nat.zero_le _, rfl, Lib.hid ⟨Below.refl _ _, fun j hj => absurd hj (Nat.not_lt_zero _)⟩⟩
  case round =>
    obtain ⟨q, hq, rfl, HI⟩ := hrel
    by_cases hlt : q < n
    · have hlq : q < l.length := by rw [HNL.out]; exact hlt
      rcases (HL.out.below HI.out.1 (Nat.le_refl _)).1 with h0 | ⟨bb, o, rfl, hbl, hcs⟩
      · rw [h0] at hlq; exact absurd hlq (Nat.not_lt_zero _)
      obtain ⟨q0, q1, q2, q3⟩ := hcs q hlq
      obtain ⟨e, he⟩ : ∃ e, l[q]! = e := ⟨_, rfl⟩
      rw [he] at q0 q1 q2 q3
      rw [Nat.add_zero] at q0
      have HE := Lib.hid he
      have HHE := Lib.hid fun X hX => HH.out e X hX
      have i1 : (0 : Int) ≤ (q : Int) := by omega
      have i2 : (q : Int) < (n : Int) := by omega
      obtain ⟨bv0, hbv⟩ : ∃ bv0, decide (e.nm = nm) = bv0 := ⟨_, rfl⟩
      rw [hbv] at HHE
      have HBV := Lib.hid hbv
      clear hcs he hlq hbv
      cases bv0 with
      | false =>
        go_wp2_with (go_at_call 67; refine (HHE.out _ HI.out.1).mono ?_; rintro x w2 ⟨rfl, hB2⟩)
        exact ⟨⟨q + 1, by omega, by go_num, Lib.hid ⟨HI.out.1.trans (hB2.mono HI.out.1.size), fun j hj => by
          by_cases e9 : j = q
          · subst e9; rw [HE.out]; exact HBV.out
          · exact HI.out.2 j (by omega)⟩⟩, by simp [intOf]; omega⟩
      | true =>
        go_wp2_with (go_at_call 67; refine (HHE.out _ HI.out.1).mono ?_; rintro x w2 ⟨rfl, hB2⟩)
        go_ret
        exact ⟨.inl ⟨q, hlt, HI.out.2, by rw [HE.out]; exact HBV.out, rfl⟩, HI.out.1.trans (hB2.mono HI.out.1.size)⟩
    · obtain rfl : q = n := by omega
      go_wp2
      go_ret
      exact ⟨.inr ⟨HI.out.2, rfl⟩, HI.out.1⟩
set_option maxRecDepth 100000 in
set_option maxHeartbeats 8000000 in
theorem blind_any (k u : Int) (x : Bool) (A : Option Addr) (l : List RL) (c : Nat) (nm : ByteArray) (w : World) (hl : RlL w A l) (hln : l.length ≤ 1000) (h12 : ∀ e ∈ l, e.n ≤ 100000) :
    Calls Tryz.prog 34 #[.agg (polA k u x A l.length c), .string nm] w fun e w' => e = .returned (.agg #[.int .i64 (bliF k u (l.map RL.val) nm).1, .int .i64 (bliF k u (l.map RL.val) nm).2]) ∧ Below w.heap.size w w' := by
  rw [vals_bang]
  obtain ⟨n, hnl⟩ : ∃ n, l.length = n := ⟨_, rfl⟩
  obtain ⟨B, hBs⟩ : ∃ B, w.heap.size = B := ⟨_, rfl⟩
  obtain ⟨D1, D2, hD⟩ : ∃ D1 D2, bliF k u ((List.range n).map fun i => (l[i]!).val) nm = (D1, D2) := ⟨_, _, rfl⟩
  rw [hnl, hD]
  simp only
  obtain ⟨W0, hW0⟩ : ∃ W, ((w.alloc (.cells (polA k u x A n c) 26)).alloc (.cells #[.string nm] 9)).alloc (.cells #[.int .i64 0, .int .i64 0] 23) = W := ⟨_, rfl⟩
  have hb0 : Below B w W0 := by rw [← hW0, ← hBs]; exact (((Below.refl _ _).alloc (Nat.le_refl _) _).alloc (by simp) _).alloc (by simp; omega) _
  have hp0 : RowC W0 B (polA k u x A n c) 26 := by rw [← hW0, ← hBs]; exact ((RowC.new _ _ _ _ rfl).alloc _).alloc _
  have ha0 : RowC W0 (B + 1) #[.string nm] 9 := by rw [← hW0, ← hBs]; exact (RowC.new _ _ _ _ (by simp)).alloc _
  have hz0 : RowC W0 (B + 2) #[.int .i64 0, .int .i64 0] 23 := by rw [← hW0, ← hBs]; exact RowC.new _ _ _ _ (by simp)
  have hR0 := hl.below hb0 (Nat.le_of_eq hBs)
  have hS0 : B + 3 = W0.heap.size := by rw [← hW0, ← hBs]; simp
  have hidx := idxB_any A l c (B + 1) nm W0 hR0 hln ha0
  have HIT : Hid (∀ q, q < n → (∀ j, j < q → decide ((l[j]!).nm = nm) = false) → decide ((l[q]!).nm = nm) = true → (if (l[q]!).val.L.isEmpty then ((l[q]!).k, (l[q]!).u) else (k, u)) = (D1, D2)) := Lib.hid fun q hq h1 h2 => by
    have h3 := find_hit17 (p := fun r => decide (r.nm = nm)) (F := fun i => (l[i]!).val) hq h1 h2
    unfold bliF at hD
    rw [h3] at hD
    exact hD
  have HNO : Hid ((∀ j, j < n → decide ((l[j]!).nm = nm) = false) → k = D1 ∧ u = D2) := Lib.hid fun h1 => by
    have h3 := find_no17 (p := fun r => decide (r.nm = nm)) (F := fun i => (l[i]!).val) h1
    unfold bliF at hD
    rw [h3] at hD
    exact Prod.mk.inj hD
  rw [hnl] at hidx
  have KI := Lib.hid hidx
  have HFX : Hid (∀ W, Below W0.heap.size W0 W → RowC W B (polA k u x A n c) 26 ∧ RowC W (B + 2) #[.int .i64 0, .int .i64 0] 23 ∧ RlL W A l ∧ Below B w W) := Lib.hid fun W hW => ⟨hp0.below hW hp0.lt, hz0.below hW hz0.lt, hR0.below hW (Nat.le_refl _), hb0.trans (hW.mono (by omega))⟩
  have HW0 := Lib.hid hW0
  have HBS := Lib.hid hBs
  have H12 := Lib.hid h12
  have HNL := Lib.hid hnl
  have p3 := hp0.cell 3 (.slice A n c) rfl
  clear hb0 hp0 ha0 hz0 hR0 hl hD h12 hS0 hidx hnl
  go_enter Tryz.func34, Tryz.ntmps34
  go_upto_region 1 with fail
  (try rw [HW0.out])
  (try rw [hBs])
  clear hW0 hBs
  have hmf : ∀ (fn : Fn) (first cap : Array Value) (w : World), (Instr.makeFunc fn first cap).run Tryz.prog w = .ok (.func fn first cap) w := fun _ _ _ _ => rfl
  go_wp2_with fail
  clear hmf
  refine KI.out.mono ?_
  rintro e w1 ⟨⟨q, hq, hno, hqt, rfl⟩ | ⟨hno, rfl⟩, hB1⟩
  · have hfx := HFX.out w1 hB1
    have hlq : q < l.length := by rw [HNL.out]; exact hq
    rcases hfx.2.2.1.1 with h0 | ⟨b2, o2, rfl, hbl, hc⟩
    · rw [h0] at hlq; exact absurd hlq (Nat.not_lt_zero _)
    obtain ⟨q0, q1, q2, q3⟩ := hc q hlq
    have hdd := HIT.out q hq hno hqt
    have hmem : l[q]! ∈ l := by rw [getElem!_pos l q hlq]; exact List.getElem_mem hlq
    have hrn := H12.out _ hmem
    obtain ⟨r, hr⟩ : ∃ r, l[q]! = r := ⟨_, rfl⟩
    rw [hr] at q0 q1 q2 q3 hdd hrn
    have HZ := Lib.hid hfx
    have p3 := hfx.1.cell 3 (.slice (some ⟨b2, o2, none⟩) n c) rfl
    have p0 := hfx.1.cell 0 (.int .i64 k) rfl
    have p1 := hfx.1.cell 1 (.int .i64 u) rfl
    have i0 : ¬ ((q : Int) < 0) := by omega
    have i1 : (0 : Int) ≤ (q : Int) := by omega
    have i2 : (q : Int) < (n : Int) := by omega
    clear hfx hbl hc hr hmem hlq hno hqt
    by_cases h0 : r.n = 0
    · have hem : r.val.L.isEmpty = true := by simp [RL.val, h0]
      rw [hem] at hdd
      obtain ⟨e1, e2⟩ := Prod.mk.inj (show (r.k, r.u) = (D1, D2) from hdd)
      rw [e1] at q1
      rw [e2] at q2
      have g1 : decide ((r.n : Int) > 0) = false := decide_eq_false (by omega)
      have g2 : ¬ 0 < r.n := by omega
      have g3 : decide ((q : Int) < 0) = false := decide_eq_false (by omega)
      clear hdd hem h0 e1 e2
      go_wp2_with (refine wpList_store_row (by rfl) 23 _ _ (by rfl) (B + 2) #[.int .i64 D1, .int .i64 D2] (by rfl) (by rfl) _ _ HZ.out.2.1 (show _ = some 2 from infoActP) (by rfl) (by simp [Value.oneCell']) ?_)
      exact bodyPost_ret (results_cell_row Tryz.results34 _ _ (B + 2) _ #[.int .i64 D1, .int .i64 D2] (0, 0) _ (by rfl) (setRow_heap _ _ _ _ _ _ HZ.out.2.1) Tryz.underlying23 (by rfl) (show _ = some 2 from infoActP)) rfl ⟨rfl, by rw [HBS.out]; exact below_setRow HZ.out.2.2.2 (by omega) _⟩
    · have hem : r.val.L.isEmpty = false := by simp [RL.val, h0]
      rw [hem] at hdd
      obtain ⟨e1, e2⟩ := Prod.mk.inj (show (k, u) = (D1, D2) from hdd)
      rw [e1] at p0
      rw [e2] at p1
      have g1 : decide ((r.n : Int) > 0) = true := decide_eq_true (by omega)
      have g2 : 0 < r.n := by omega
      have g3 : decide ((q : Int) < 0) = false := decide_eq_false (by omega)
      clear hdd hem h0 e1 e2
      go_wp2_with (refine wpList_store_row (by rfl) 23 _ _ (by rfl) (B + 2) #[.int .i64 D1, .int .i64 D2] (by rfl) (by rfl) _ _ HZ.out.2.1 (show _ = some 2 from infoActP) (by rfl) (by simp [Value.oneCell']) ?_)
      exact bodyPost_ret (results_cell_row Tryz.results34 _ _ (B + 2) _ #[.int .i64 D1, .int .i64 D2] (0, 0) _ (by rfl) (setRow_heap _ _ _ _ _ _ HZ.out.2.1) Tryz.underlying23 (by rfl) (show _ = some 2 from infoActP)) rfl ⟨rfl, by rw [HBS.out]; exact below_setRow HZ.out.2.2.2 (by omega) _⟩
  · have hfx := HFX.out w1 hB1
    obtain ⟨e1, e2⟩ := HNO.out hno
    have p0 := hfx.1.cell 0 (.int .i64 k) rfl
    have p1 := hfx.1.cell 1 (.int .i64 u) rfl
    rw [e1] at p0
    rw [e2] at p1
    have HZ := Lib.hid hfx
    clear hfx hno e1 e2
    go_wp2_with (refine wpList_store_row (by rfl) 23 _ _ (by rfl) (B + 2) #[.int .i64 D1, .int .i64 D2] (by rfl) (by rfl) _ _ HZ.out.2.1 (show _ = some 2 from infoActP) (by rfl) (by simp [Value.oneCell']) ?_)
    exact bodyPost_ret (results_cell_row Tryz.results34 _ _ (B + 2) _ #[.int .i64 D1, .int .i64 D2] (0, 0) _ (by rfl) (setRow_heap _ _ _ _ _ _ HZ.out.2.1) Tryz.underlying23 (by rfl) (show _ = some 2 from infoActP)) rfl ⟨rfl, by rw [HBS.out]; exact below_setRow HZ.out.2.2.2 (by omega) _⟩
set_option maxRecDepth 100000 in
set_option maxHeartbeats 8000000 in
theorem refBlind_any (k u : Int) (x : Bool) (A : Option Addr) (n c : Nat) (R : Nat → RL) (nm : ByteArray) (w : World) (hn : n ≤ 500) (h12 : ∀ i, i < n → (R i).n ≤ 1000) (hR : RlA w A n R) :
    Calls Tryz.prog 36 #[.agg (polA k u x A n c), .string nm] w fun e w' => e = .returned (.agg #[.int .i64 (bliF k u ((List.range n).map fun i => (R i).val) nm).1, .int .i64 (bliF k u ((List.range n).map fun i => (R i).val) nm).2]) ∧ Below w.heap.size w w' := by
  obtain ⟨B, hBs⟩ : ∃ B, w.heap.size = B := ⟨_, rfl⟩
  obtain ⟨D1, D2, hD⟩ : ∃ D1 D2, bliF k u ((List.range n).map fun i => (R i).val) nm = (D1, D2) := ⟨_, _, rfl⟩
  rw [hD]
  simp only
  obtain ⟨W0, hW0⟩ : ∃ W, (w.alloc (.cells (polA k u x A n c) 39)).alloc (.cells #[.int .i64 0, .int .i64 0] 36) = W := ⟨_, rfl⟩
  have hb0 : Below B w W0 := by rw [← hW0, ← hBs]; exact ((Below.refl _ _).alloc (Nat.le_refl _) _).alloc (by simp) _
  have hp0 : RowC W0 B (polA k u x A n c) 39 := by rw [← hW0, ← hBs]; exact (RowC.new _ _ _ _ rfl).alloc _
  have hz0 : RowC W0 (B + 1) #[.int .i64 0, .int .i64 0] 36 := by rw [← hW0, ← hBs]; exact RowC.new _ _ _ _ (by simp)
  have hR0 := hR.below hb0 (Nat.le_of_eq hBs)
  have HIT : Hid (∀ q, q < n → (∀ j, j < q → decide ((R j).nm = nm) = false) → decide ((R q).nm = nm) = true → (if (R q).val.L.isEmpty then ((R q).k, (R q).u) else (k, u)) = (D1, D2)) := Lib.hid fun q hq h1 h2 => by
    have h3 := find_hit17 (p := fun r => decide (r.nm = nm)) (F := fun i => (R i).val) hq h1 h2
    unfold bliF at hD
    rw [h3] at hD
    exact hD
  have HNO : Hid ((∀ j, j < n → decide ((R j).nm = nm) = false) → k = D1 ∧ u = D2) := Lib.hid fun h1 => by
    have h3 := find_no17 (p := fun r => decide (r.nm = nm)) (F := fun i => (R i).val) h1
    unfold bliF at hD
    rw [h3] at hD
    exact Prod.mk.inj hD
  have HW0 := Lib.hid hW0
  have HBS := Lib.hid hBs
  have HP := Lib.hid hp0
  have HZ := Lib.hid hz0
  have HB0 := Lib.hid hb0
  have p0 := hp0.cell 0 (.int .i64 k) rfl
  have p1 := hp0.cell 1 (.int .i64 u) rfl
  have p3 := hp0.cell 3 (.slice A n c) rfl
  have HR0 := Lib.hid hR0
  have H12 := Lib.hid h12
  clear hb0 hp0 hz0 hR0 hR hD h12
  go_enter Tryz.func36, Tryz.ntmps36
  go_upto_region 1 with fail
  (try rw [HW0.out])
  (try rw [hBs])
  clear hW0 hBs
  go_wp2
  go_loopw [5] (fun s wr => ∃ q : Nat, q ≤ n ∧ s = .int .i64 q ∧ wr = W0 ∧ Hid (∀ j, j < q → decide ((R j).nm = nm) = false))
    (fun s _ => n - (intOf s).toNat)
  case atStart => exact ⟨0, Nat.zero_le _, rfl, rfl, Lib.hid fun j hj => absurd hj (Nat.not_lt_zero _)⟩
  case round =>
    obtain ⟨q, hq, rfl, rfl, HI⟩ := hrel
    by_cases hlt : q < n
    · rcases HR0.out with h0 | ⟨b2, o2, rfl, hbl, hc⟩
      · omega
      obtain ⟨q0, q1, q2, q3, hrest⟩ := hc q hlt
      have hdd := HIT.out q hlt HI.out
      have hrn := H12.out q hlt
      obtain ⟨r, hr⟩ : ∃ r, R q = r := ⟨_, rfl⟩
      rw [hr] at q0 q1 q2 q3 hdd hrn
      rw [Nat.add_zero] at q0
      have HRV := Lib.hid hr
      have i1 : (0 : Int) ≤ (q : Int) := by omega
      have i2 : (q : Int) < (n : Int) := by omega
      have hnm := nm_eq17 r.nm nm
      clear hbl hc hrest hr
      cases hb0 : decide (r.nm = nm)
      · rw [hb0] at hnm
        have HNX : Hid (decide ((R q).nm = nm) = false) := Lib.hid (by rw [HRV.out]; exact hb0)
        clear hb0 hdd
        go_wp2
        exact ⟨⟨q + 1, by omega, by go_num, trivial, Lib.hid fun j hj => by
          by_cases e : j = q
          · subst e; exact HNX.out
          · exact HI.out j (by omega)⟩, by simp [intOf]; omega⟩
      · rw [hb0] at hnm
        have hdd := hdd hb0
        clear hb0
        by_cases h0 : r.n = 0
        · have hem : r.val.L.isEmpty = true := by simp [RL.val, h0]
          rw [hem] at hdd
          obtain ⟨e1, e2⟩ := Prod.mk.inj (show (r.k, r.u) = (D1, D2) from hdd)
          rw [e1] at q1
          rw [e2] at q2
          have g1 : ((r.n : Int) == 0) = true := by rw [h0]; rfl
          clear hdd hem h0 e1 e2
          go_wp2_with (refine wpList_store_row (by rfl) 36 _ _ (by rfl) (B + 1) #[.int .i64 D1, .int .i64 D2] (by rfl) (by rfl) _ _ HZ.out (show _ = some 2 from infoAct9) (by rfl) (by simp [Value.oneCell']) ?_)
          exact bodyPost_ret (results_cell_row Tryz.results36 _ _ (B + 1) _ #[.int .i64 D1, .int .i64 D2] (0, 0) _ (by rfl) (setRow_heap _ _ _ _ _ _ HZ.out) Tryz.underlying36 (by rfl) (show _ = some 2 from infoAct9)) rfl ⟨rfl, by rw [HBS.out]; exact below_setRow HB0.out (by omega) _⟩
        · have hem : r.val.L.isEmpty = false := by simp [RL.val, h0]
          rw [hem] at hdd
          obtain ⟨e1, e2⟩ := Prod.mk.inj (show (k, u) = (D1, D2) from hdd)
          rw [e1] at p0
          rw [e2] at p1
          have g1 : ((r.n : Int) == 0) = false := by simpa using h0
          clear hdd hem h0 e1 e2
          go_wp2_with (refine wpList_store_row (by rfl) 36 _ _ (by rfl) (B + 1) #[.int .i64 D1, .int .i64 D2] (by rfl) (by rfl) _ _ HZ.out (show _ = some 2 from infoAct9) (by rfl) (by simp [Value.oneCell']) ?_)
          exact bodyPost_ret (results_cell_row Tryz.results36 _ _ (B + 1) _ #[.int .i64 D1, .int .i64 D2] (0, 0) _ (by rfl) (setRow_heap _ _ _ _ _ _ HZ.out) Tryz.underlying36 (by rfl) (show _ = some 2 from infoAct9)) rfl ⟨rfl, by rw [HBS.out]; exact below_setRow HB0.out (by omega) _⟩
    · obtain rfl : q = n := by omega
      obtain ⟨e1, e2⟩ := HNO.out HI.out
      rw [e1] at p0
      rw [e2] at p1
      clear e1 e2
      go_wp2_with (refine wpList_store_row (by rfl) 36 _ _ (by rfl) (B + 1) #[.int .i64 D1, .int .i64 D2] (by rfl) (by rfl) _ _ HZ.out (show _ = some 2 from infoAct9) (by rfl) (by simp [Value.oneCell']) ?_)
      exact bodyPost_ret (results_cell_row Tryz.results36 _ _ (B + 1) _ #[.int .i64 D1, .int .i64 D2] (0, 0) _ (by rfl) (setRow_heap _ _ _ _ _ _ HZ.out) Tryz.underlying36 (by rfl) (show _ = some 2 from infoAct9)) rfl ⟨rfl, by rw [HBS.out]; exact below_setRow HB0.out (by omega) _⟩
end Go.Proofs.YtcmdmnnkbliggaaGreatDoor
