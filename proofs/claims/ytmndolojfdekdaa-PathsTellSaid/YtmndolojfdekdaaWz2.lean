/-
  Layer 27: the document's own paths. (strainerref27.From) Made by gen_wyn.py.
-/
import Derived.Test.YtmndolojfdekdaaWz1
import Derived.Deep.RegionHeld3
import Derived.Test.YtmndolojfdekdaaKr
import Derived.Laws.StructEq
import Derived.Deep.QuietTactic
import Derived.BigQuiet
namespace Go.Proofs.Ytmndolojfdekdaa
open Go.RowKit Go.Shelf
set_option linter.unusedVariables false

theorem infoRT : (Try.prog.info? 108).map (fun i => (i.zero, i.size, i.bytes)) = some (some (.agg #[.int .i64 0, .int .u32 0, .int .i64 0, .int .u32 0, .bool false]), 5, 32) := by kernel_rfl
theorem infoRP : (Try.prog.info? 59).map (fun i => (i.zero, i.size, i.bytes)) = some (some (.agg #[.slice none 0 0, .int .i64 0, .int .u32 0]), 3, 40) := by kernel_rfl
/-- A row of paths of the call's own, whose tests lie apart from it. -/
structure RPs (base : Nat) (T : Option Addr) (w : World) (A : Option Addr) (c : Nat) (L : List PV) (S : Nat → Option Addr × Nat) : Prop where
  own : OwnC w base 59 3 A L.length c (pvcell (fun i => L[i]!) S)
  cl : ∀ i, i < L.length → Cel w w.heap.size 5 (S i).1 (L[i]!).ts.length (S i).2 (tscell fun j => (L[i]!).ts[j]!)
  ap : ∀ i, i < L.length → ∀ b, some b = obk (S i).1 → (some b = obk T ∨ base ≤ b) ∧ b < w.heap.size ∧ some b ≠ obk A
theorem RPs.lower {base base' : Nat} {T : Option Addr} {w : World} {A : Option Addr} {c : Nat} {L : List PV} {S : Nat → Option Addr × Nat} (h : RPs base T w A c L S) (hb : base' ≤ base) : RPs base' T w A c L S :=
  ⟨h.own.lower hb, h.cl, fun i hi b e => ⟨(h.ap i hi b e).1.imp id (Nat.le_trans hb), (h.ap i hi b e).2⟩⟩
theorem RPs.keep {base : Nat} {T : Option Addr} {w w' : World} {A : Option Addr} {c : Nat} {L : List PV} {S : Nat → Option Addr × Nat} (h : RPs base T w A c L S) (hB : Below w.heap.size w w') : RPs base T w' A c L S :=
  ⟨h.own.kept fun b e => hB.block b (own_lt h.own e).2.1, fun i hi => ((h.cl i hi).below hB).more hB.size, fun i hi b e => ⟨(h.ap i hi b e).1, Nat.lt_of_lt_of_le (h.ap i hi b e).2.1 hB.size, (h.ap i hi b e).2.2⟩⟩
theorem RPs.pths {base : Nat} {T : Option Addr} {w : World} {A : Option Addr} {c : Nat} {L : List PV} {S : Nat → Option Addr × Nat} (h : RPs base T w A c L S) (hb : base ≤ w.heap.size) : Pths w A c L S := ⟨h.own.cel, h.cl⟩
theorem RPs.one (w : World) (ts : List TV) (s k : Nat) (T : Option Addr) (cT : Nat) (hT : Cel w w.heap.size 5 T ts.length cT (tscell fun j => ts[j]!)) (hTb : ∀ b, some b = obk T → b < w.heap.size) :
    RPs w.heap.size T (w.alloc (.cells #[.slice T ts.length cT, .int .i64 ((s : Int) + 1), .int .u32 (k : Int)] 59)) (some ⟨w.heap.size, 0, none⟩) 1 [⟨ts, s + 1, k⟩] (fun _ => (T, cT)) := by
  refine ⟨⟨by simp, .inr ⟨w.heap.size, 1, _, rfl, Nat.le_refl _, heap_alloc_last w _, Nat.le_refl _, by decide, rfl, ?_⟩⟩, fun i hi => ?_, fun i hi b e => ⟨.inl e, ?_, ?_⟩⟩
  · show (List.range 3).map (fun i => (#[Value.slice T ts.length cT, .int .i64 ((s : Int) + 1), .int .u32 (k : Int)] : Array Value).toList[i]!) = _
    have e : ((s + 1 : Nat) : Int) = (s : Int) + 1 := by omega
    refine List.map_congr_left fun i hi => ?_
    have hi' : i < 3 := List.mem_range.1 hi
    match i, hi' with
    | 0, _ => rfl
    | 1, _ => show Value.int .i64 ((s : Int) + 1) = .int .i64 ((s + 1 : Nat) : Int); rw [e]
    | 2, _ => rfl
  · have : i = 0 := by simp at hi; omega
    subst this
    exact (hT.below ((Below.refl _ _).alloc (Nat.le_refl _) _)).more (by simp)
  · have := hTb b e
    simp
    omega
  · intro e2
    have e2 : b = w.heap.size := by injection e2
    have := hTb b e
    omega
/-- Two rows of paths, the one appended to the other. -/
def cat2 (n : Nat) (S1 S2 : Nat → Option Addr × Nat) (i : Nat) : Option Addr × Nat := if i < n then S1 i else S2 (i - n)
theorem pv_cat (L1 L2 : List PV) (S1 S2 : Nat → Option Addr × Nat) (i : Nat) (hi : i < (L1.length + L2.length) * 3) :
    catC (L1.length * 3) (pvcell (fun i => L1[i]!) S1) (pvcell (fun i => L2[i]!) S2) i = pvcell (fun i => (L1 ++ L2)[i]!) (cat2 L1.length S1 S2) i := by
  have hq : i / 3 < (L1 ++ L2).length := by rw [List.length_append]; omega
  unfold catC
  split
  · have h1 : i / 3 < L1.length := by omega
    have e : (L1 ++ L2)[i / 3]! = L1[i / 3]! := by rw [getElem!_pos (L1 ++ L2) _ hq, getElem!_pos L1 _ h1, List.getElem_append_left h1]
    unfold pvcell cat2
    rw [if_pos h1]
    simp only [e]
  · have h1 : ¬ i / 3 < L1.length := by omega
    have h2 : i / 3 - L1.length < L2.length := by rw [List.length_append] at hq; omega
    have e : (L1 ++ L2)[i / 3]! = L2[i / 3 - L1.length]! := by rw [getElem!_pos (L1 ++ L2) _ hq, getElem!_pos L2 _ h2, List.getElem_append_right (by omega)]
    unfold pvcell cat2
    rw [if_neg h1, show (i - L1.length * 3) % 3 = i % 3 by omega, show (i - L1.length * 3) / 3 = i / 3 - L1.length by omega]
    simp only [e]
theorem RPs.join {base0 B1 B2 : Nat} {T1 T2 T A1 A2 A' : Option Addr} {w w6 : World} {c1 c2 c' : Nat} {L1 L2 : List PV} {S1 S2 : Nat → Option Addr × Nat} (h1 : RPs B1 T1 w A1 c1 L1 S1) (hA1 : ∀ b, some b = obk A1 → b < B2) (h2 : RPs B2 T2 w A2 c2 L2 S2)
    (hT1 : ∀ b, some b = obk T1 → base0 ≤ b) (hT2 : ∀ b, some b = obk T2 → base0 ≤ b ∧ b < B1) (hB1 : base0 ≤ B1) (hB2 : base0 ≤ B2)
    (hown : OwnC w6 B1 59 3 A' (L1 ++ L2).length c' (pvcell (fun i => (L1 ++ L2)[i]!) (cat2 L1.length S1 S2))) (hg : w.grownBy w6 (obk A1)) (hat : obk A' = obk A1 ∨ obk A' = some w.heap.size) : RPs base0 T w6 A' c' (L1 ++ L2) (cat2 L1.length S1 S2) := by
  have hS1 : ∀ i, i < L1.length → ∀ b, some b = obk (S1 i).1 → base0 ≤ b ∧ b < w.heap.size ∧ some b ≠ obk A1 := fun i hi b e => by
    obtain ⟨a, a2, a3⟩ := h1.ap i hi b e
    exact ⟨a.elim (hT1 b) (Nat.le_trans hB1), a2, a3⟩
  have hS2 : ∀ i, i < L2.length → ∀ b, some b = obk (S2 i).1 → base0 ≤ b ∧ b < w.heap.size ∧ some b ≠ obk A1 := fun i hi b e => by
    obtain ⟨a, a2, a3⟩ := h2.ap i hi b e
    refine ⟨a.elim (fun e => (hT2 b e).1) (Nat.le_trans hB2), a2, fun e3 => ?_⟩
    have h3 := hA1 b e3
    have h4 := (own_lt h1.own e3).1
    rcases a with a | a
    · have := (hT2 b a).2; omega
    · omega
  have hS : ∀ i, i < (L1 ++ L2).length → ∀ b, some b = obk (cat2 L1.length S1 S2 i).1 → base0 ≤ b ∧ b < w.heap.size ∧ some b ≠ obk A1 := fun i hi b e => by
    unfold cat2 at e
    by_cases hl : i < L1.length
    · rw [if_pos hl] at e; exact hS1 i hl b e
    · rw [if_neg hl] at e; exact hS2 _ (by rw [List.length_append] at hi; omega) b e
  refine ⟨hown.lower hB1, fun i hi => ?_, fun i hi b e => ⟨.inr (hS i hi b e).1, Nat.lt_of_lt_of_le (hS i hi b e).2.1 hg.size, fun e2 => ?_⟩⟩
  · have hk : Cel w w.heap.size 5 (cat2 L1.length S1 S2 i).1 ((L1 ++ L2)[i]!).ts.length (cat2 L1.length S1 S2 i).2 (tscell fun j => ((L1 ++ L2)[i]!).ts[j]!) := by
      by_cases hl : i < L1.length
      · have e : (L1 ++ L2)[i]! = L1[i]! := by rw [getElem!_pos (L1 ++ L2) _ hi, getElem!_pos L1 _ hl, List.getElem_append_left hl]
        unfold cat2
        rw [if_pos hl]
        simp only [e]
        exact h1.cl i hl
      · have h2' : i - L1.length < L2.length := by rw [List.length_append] at hi; omega
        have e : (L1 ++ L2)[i]! = L2[i - L1.length]! := by rw [getElem!_pos (L1 ++ L2) _ hi, getElem!_pos L2 _ h2', List.getElem_append_right (by omega)]
        unfold cat2
        rw [if_neg hl]
        simp only [e]
        exact h2.cl _ h2'
    exact hk.kept hg.size fun b e => hg.block b (hS i hi b e).2.1 (hS i hi b e).2.2
  · have h3 := hS i hi b e
    rcases hat with hat | hat
    · rw [hat] at e2; exact h3.2.2 e2
    · rw [hat] at e2
      have e3 : b = w.heap.size := by injection e2
      omega
/-- What From tells. -/
def FromI (g : Nat → IV) (n : Nat) (A : Option Addr) (c : Nat) (m : Nat) : Prop := ∀ (i p q : Nat) (ts : List TV) (s : Nat) (w : World) (T : Option Addr) (cT : Nat), i < n → n - i ≤ m → p < 4294967296 → q < 4294967296 → s + m ≤ 100000 → ts.length + m ≤ 100000 → (pF g m i p q ts s).length ≤ 5000 →
  Ins w w.heap.size A n c g → Cel w w.heap.size 5 T ts.length cT (tscell fun j => ts[j]!) → (∀ b, some b = obk T → b < w.heap.size) →
  Calls Try.prog 25 #[.slice A n c, .int .i64 i, .int .i64 p, .int .u32 q, .slice T ts.length cT, .int .i64 s] w fun e w' => ∃ A' c' S', e = .returned (.slice A' (pF g m i p q ts s).length c') ∧ RPs w.heap.size T w' A' c' (pF g m i p q ts s) S' ∧ Below w.heap.size w w'
theorem lit0 (w : World) (E : TypeId) (z : Nat) (F : Nat → Value) (hz : 0 < z) : OwnC (w.alloc (.cells #[] E)) w.heap.size E z (some ⟨w.heap.size, 0, none⟩) 0 0 F := by
  have := World.ownsRow_lit (base := w.heap.size) (e := E) (size := z) w #[] 0 (Nat.le_refl _) (by decide) (by simp)
  unfold OwnC
  simpa using this
theorem ts_cat (ts : List TV) (x : TV) : ∀ i, i < (ts.length + 1) * 5 → catC (ts.length * 5) (tscell fun j => ts[j]!) (tscell fun _ => x) i = tscell (fun j => (ts ++ [x])[j]!) i := fun i hi => by
  have h := tscell_cat (fun j => (ts ++ [x])[j]!) ts.length x (by show (ts ++ [x])[ts.length]! = x; rw [getElem!_pos _ _ (by simp)]; simp) i hi
  rw [← h]
  unfold catC
  split
  · have h1 : i / 5 < ts.length := by omega
    unfold tscell
    have e : (ts ++ [x])[i / 5]! = ts[i / 5]! := by rw [getElem!_pos (ts ++ [x]) _ (by rw [List.length_append]; omega), getElem!_pos ts _ h1, List.getElem_append_left h1]
    simp only [e]
  · rfl
set_option maxRecDepth 100000 in
set_option maxHeartbeats 8000000 in
theorem from_ret (g : Nat → IV) (n : Nat) (A : Option Addr) (c : Nat) (hF : Fmd g n) (hk : ∀ i, i < n → okI (g i) = true) (m : Nat) (i p q : Nat) (ts : List TV) (s : Nat) (w : World) (T : Option Addr) (cT : Nat) (hi : i < n) (hm : n - i ≤ m + 1) (hp : p < 4294967296) (hq : q < 4294967296) (hs : s + (m + 1) ≤ 100000) (hts : ts.length + (m + 1) ≤ 100000) (hL : (pF g (m + 1) i p q ts s).length ≤ 5000) (hIns : Ins w w.heap.size A n c g) (hT : Cel w w.heap.size 5 T ts.length cT (tscell fun j => ts[j]!)) (hTb : ∀ b, some b = obk T → b < w.heap.size) (HKD : kd (g i) = 14) :
    Calls Try.prog 25 #[.slice A n c, .int .i64 i, .int .i64 p, .int .u32 q, .slice T ts.length cT, .int .i64 s] w fun e w' => ∃ A' c' S', e = .returned (.slice A' (pF g (m + 1) i p q ts s).length c') ∧ RPs w.heap.size T w' A' c' (pF g (m + 1) i p q ts s) S' ∧ Below w.heap.size w w' := by
  have HNX : nexts (g i) i = [] := nx_ret HKD i
  have HPF : pF g (m + 1) i p q ts s = [⟨ts, s + 1, (g i).k⟩] := by
    show (if kd (g i) = 14 then _ else _) = _
    rw [if_pos HKD]
  have hle := hF.le
  obtain ⟨v, hgv⟩ : ∃ v, g i = v := ⟨_, rfl⟩
  have hvo : v.ok := by rw [← hgv]; exact hIns.2 i hi
  obtain ⟨b, off, rfl, hb, hc⟩ := hIns.at_ (by omega)
  obtain ⟨q0, q1, q2, q3⟩ := hc i hi
  rw [hgv] at q0 q1 q2 q3 HKD HNX HPF
  have HOF : Hid (∀ W, Calls Try.prog 41 #[.int .u16 v.c] W fun e w' => e = .returned (.tuple #[.int .i64 14, .bool (xx v)]) ∧ Below W.heap.size W w') := Lib.hid fun W => by
    have h := refOf_v v hvo W
    rw [HKD] at h
    exact h
  have HNXT : Hid (∀ W, Below w.heap.size w W → Calls Try.prog 42 #[.slice (some ⟨b, off, none⟩) n c, .int .i64 i] W fun e w' => ∃ A' m, e = .returned (.slice A' m m) ∧ I64s w' W.heap.size A' m [] ∧ Below W.heap.size W w') := Lib.hid fun W hW => by
    have h := refNext_any (some ⟨b, off, none⟩) n c g W ((hIns.below hW).more hW.size) i hi (by omega)
    rw [hgv, HNX] at h
    exact h
  have HINS := Lib.hid hIns
  have HT := Lib.hid hT
  have HTB := Lib.hid hTb
  have hvk : v.k < 4294967296 := hvo.2.2.2
  have i1 : (0 : Int) ≤ (i : Int) := by omega
  have i2 : (i : Int) < (n : Int) := by omega
  obtain ⟨X, hX⟩ : ∃ X, xx v = X := ⟨_, rfl⟩
  rw [hX] at HOF
  rw [HPF] at hL ⊢
  clear hIns hT hTb hc hvo hX HKD HNX HPF
  go_enter Try.func25, Try.ntmps25
  go_wp2_with (first
    | (go_at_call 41; refine (HOF.out _).mono ?_; rintro e w1 ⟨rfl, hB1⟩; have q3' := (hB1.cell (p := ⟨b, off + i * 4 + 3, none⟩) hb).trans q3; have HB1 := Lib.hid hB1; clear hB1)
    | (go_at_call 42; refine (HNXT.out _ HB1.out).mono ?_; rintro e w2 ⟨A2, m2, rfl, hI2, hB2⟩; have HB2 := Lib.hid (HB1.out.trans (hB2.mono HB1.out.size)); have HS2 := Lib.hid hB2.size; clear hI2; clear hB2)
    | fail)
  go_ret
  refine ⟨_, _, _, rfl, (RPs.one w2 ts s v.k T cT (HT.out.below HB2.out |>.more HB2.out.size) (fun b e => Nat.lt_of_lt_of_le (HTB.out b e) HB2.out.size)).lower HB2.out.size, HB2.out.alloc HB2.out.size _⟩
set_option maxRecDepth 100000 in
set_option maxHeartbeats 8000000 in
theorem from_load (g : Nat → IV) (n : Nat) (A : Option Addr) (c : Nat) (hF : Fmd g n) (hk : ∀ i, i < n → okI (g i) = true) (m : Nat) (HIH : FromI g n A c m) (i p q : Nat) (ts : List TV) (s : Nat) (w : World) (T : Option Addr) (cT : Nat) (hi : i < n) (hm : n - i ≤ m + 1) (hp : p < 4294967296) (hq : q < 4294967296) (hs : s + (m + 1) ≤ 100000) (hts : ts.length + (m + 1) ≤ 100000) (hL : (pF g (m + 1) i p q ts s).length ≤ 5000) (hIns : Ins w w.heap.size A n c g) (hT : Cel w w.heap.size 5 T ts.length cT (tscell fun j => ts[j]!)) (hTb : ∀ b, some b = obk T → b < w.heap.size) (HKD : kd (g i) = 1) :
    Calls Try.prog 25 #[.slice A n c, .int .i64 i, .int .i64 p, .int .u32 q, .slice T ts.length cT, .int .i64 s] w fun e w' => ∃ A' c' S', e = .returned (.slice A' (pF g (m + 1) i p q ts s).length c') ∧ RPs w.heap.size T w' A' c' (pF g (m + 1) i p q ts s) S' ∧ Below w.heap.size w w' := by
  have HNX : nexts (g i) i = [i + 1] := nx_on (by rw [HKD]; decide) (by rw [HKD]; decide) (by rw [HKD]; rfl) (by rw [HKD]; decide) i
  have HPF : pF g (m + 1) i p q ts s = pF g m (i + 1) (g i).k 4294967295 ts (s + 1) := by
    show (if kd (g i) = 14 then _ else if brK (kd (g i)) = true then _ else if kd (g i) = 13 then _ else if kd (g i) = 1 then _ else _) = _
    rw [HKD]
    rfl
  have hto : i + 1 < n := next_lt hF hi (by rw [HNX]; simp)
  have hle := hF.le
  obtain ⟨v, hgv⟩ : ∃ v, g i = v := ⟨_, rfl⟩
  have hvo : v.ok := by rw [← hgv]; exact hIns.2 i hi
  obtain ⟨b, off, rfl, hb, hc⟩ := hIns.at_ (by omega)
  obtain ⟨q0, q1, q2, q3⟩ := hc i hi
  rw [hgv] at q0 q1 q2 q3 HKD HNX HPF
  have HOF : Hid (∀ W, Calls Try.prog 41 #[.int .u16 v.c] W fun e w' => e = .returned (.tuple #[.int .i64 1, .bool (xx v)]) ∧ Below W.heap.size W w') := Lib.hid fun W => by
    have h := refOf_v v hvo W
    rw [HKD] at h
    exact h
  have HNXT : Hid (∀ W, Below w.heap.size w W → Calls Try.prog 42 #[.slice (some ⟨b, off, none⟩) n c, .int .i64 i] W fun e w' => ∃ A' m, e = .returned (.slice A' m m) ∧ I64s w' W.heap.size A' m [i + 1] ∧ Below W.heap.size W w') := Lib.hid fun W hW => by
    have h := refNext_any (some ⟨b, off, none⟩) n c g W ((hIns.below hW).more hW.size) i hi (by omega)
    rw [hgv, HNX] at h
    exact h
  have HINS := Lib.hid hIns
  have HT := Lib.hid hT
  have HTB := Lib.hid hTb
  have hvk : v.k < 4294967296 := hvo.2.2.2
  have i1 : (0 : Int) ≤ (i : Int) := by omega
  have i2 : (i : Int) < (n : Int) := by omega
  obtain ⟨X, hX⟩ : ∃ X, xx v = X := ⟨_, rfl⟩
  rw [hX] at HOF
  rw [HPF] at hL ⊢
  try rw [hgv] at hto
  have HC : Hid (∀ W, Below w.heap.size w W → Calls Try.prog 25 #[.slice (some ⟨b, off, none⟩) n c, .int .i64 ((i + 1 : Nat) : Int), .int .i64 ((v.k : Nat) : Int), .int .u32 4294967295, .slice T ts.length cT, .int .i64 ((s : Int) + 1)] W fun e w' => ∃ A' c' S', e = .returned (.slice A' (pF g m (i + 1) v.k 4294967295 ts (s + 1)).length c') ∧ RPs W.heap.size T w' A' c' (pF g m (i + 1) v.k 4294967295 ts (s + 1)) S' ∧ Below W.heap.size W w') := Lib.hid fun W hW => by
    have h := HIH (i + 1) (v.k) (4294967295) ts (s + 1) W T cT hto (by omega) (by first | omega | exact hvk) (by first | omega | decide | exact Nat.lt_of_le_of_lt Nat.and_le_left hq) (by omega) (by omega) hL ((hIns.below hW).more hW.size) ((hT.below hW).more hW.size) (fun b e => Nat.lt_of_lt_of_le (hTb b e) hW.size)
    have e : ((s + 1 : Nat) : Int) = (s : Int) + 1 := by omega
    rw [e] at h
    exact h
  generalize pF g m (i + 1) v.k 4294967295 ts (s + 1) = LL at *
  obtain ⟨ll, hll⟩ : ∃ z, LL.length = z := ⟨_, rfl⟩
  rw [hll] at HC ⊢
  obtain ⟨t0, ht0⟩ : ∃ z, i + 1 = z := ⟨_, rfl⟩
  rw [ht0] at HC HNXT
  have htn : t0 < n := by omega
  clear hIns hT hTb hc hvo hX HKD HNX HPF hL hto
  go_enter Try.func25, Try.ntmps25
  go_wp2_with (first
    | (go_at_call 41; refine (HOF.out _).mono ?_; rintro e w1 ⟨rfl, hB1⟩; have q3' := (hB1.cell (p := ⟨b, off + i * 4 + 3, none⟩) hb).trans q3; have HB1 := Lib.hid hB1; clear hB1)
    | (go_at_call 42; refine (HNXT.out _ HB1.out).mono ?_; rintro e w2 ⟨A2, m2, rfl, hI2, hB2⟩; have HB2 := Lib.hid (HB1.out.trans (hB2.mono HB1.out.size)); have HS2 := Lib.hid hB2.size; have hm2 : m2 = 1 := hI2.1; subst hm2; obtain ⟨b2, off2, rfl, hb2, hcc⟩ := hI2.2.1.at_ (by decide); have u0 : w2.cell? ⟨b2, off2, none⟩ = some (.int .i64 (t0 : Nat)) := hcc 0 (by decide); clear hcc hI2; clear hB2)
    | (go_at_call 25; refine (HC.out _ HB2.out).mono ?_; rintro e w3 ⟨A3, c3, S3, rfl, hR3, hB3⟩; have HR3 := Lib.hid (hR3.lower HB2.out.size); have HB3 := Lib.hid (HB2.out.trans (hB3.mono HB2.out.size)); clear hR3 hB3))
  go_ret
  exact ⟨_, _, _, rfl, HR3.out, HB3.out⟩
set_option maxRecDepth 100000 in
set_option maxHeartbeats 8000000 in
theorem from_and (g : Nat → IV) (n : Nat) (A : Option Addr) (c : Nat) (hF : Fmd g n) (hk : ∀ i, i < n → okI (g i) = true) (m : Nat) (HIH : FromI g n A c m) (i p q : Nat) (ts : List TV) (s : Nat) (w : World) (T : Option Addr) (cT : Nat) (hi : i < n) (hm : n - i ≤ m + 1) (hp : p < 4294967296) (hq : q < 4294967296) (hs : s + (m + 1) ≤ 100000) (hts : ts.length + (m + 1) ≤ 100000) (hL : (pF g (m + 1) i p q ts s).length ≤ 5000) (hIns : Ins w w.heap.size A n c g) (hT : Cel w w.heap.size 5 T ts.length cT (tscell fun j => ts[j]!)) (hTb : ∀ b, some b = obk T → b < w.heap.size) (HKD : kd (g i) = 21) :
    Calls Try.prog 25 #[.slice A n c, .int .i64 i, .int .i64 p, .int .u32 q, .slice T ts.length cT, .int .i64 s] w fun e w' => ∃ A' c' S', e = .returned (.slice A' (pF g (m + 1) i p q ts s).length c') ∧ RPs w.heap.size T w' A' c' (pF g (m + 1) i p q ts s) S' ∧ Below w.heap.size w w' := by
  have HNX : nexts (g i) i = [i + 1] := nx_on (by rw [HKD]; decide) (by rw [HKD]; decide) (by rw [HKD]; rfl) (by rw [HKD]; decide) i
  have HPF : pF g (m + 1) i p q ts s = pF g m (i + 1) p (q &&& (g i).k) ts (s + 1) := by
    show (if kd (g i) = 14 then _ else if brK (kd (g i)) = true then _ else if kd (g i) = 13 then _ else if kd (g i) = 1 then _ else _) = _
    rw [HKD]
    rfl
  have hto : i + 1 < n := next_lt hF hi (by rw [HNX]; simp)
  have hle := hF.le
  obtain ⟨v, hgv⟩ : ∃ v, g i = v := ⟨_, rfl⟩
  have hvo : v.ok := by rw [← hgv]; exact hIns.2 i hi
  obtain ⟨b, off, rfl, hb, hc⟩ := hIns.at_ (by omega)
  obtain ⟨q0, q1, q2, q3⟩ := hc i hi
  rw [hgv] at q0 q1 q2 q3 HKD HNX HPF
  have HOF : Hid (∀ W, Calls Try.prog 41 #[.int .u16 v.c] W fun e w' => e = .returned (.tuple #[.int .i64 21, .bool (xx v)]) ∧ Below W.heap.size W w') := Lib.hid fun W => by
    have h := refOf_v v hvo W
    rw [HKD] at h
    exact h
  have HNXT : Hid (∀ W, Below w.heap.size w W → Calls Try.prog 42 #[.slice (some ⟨b, off, none⟩) n c, .int .i64 i] W fun e w' => ∃ A' m, e = .returned (.slice A' m m) ∧ I64s w' W.heap.size A' m [i + 1] ∧ Below W.heap.size W w') := Lib.hid fun W hW => by
    have h := refNext_any (some ⟨b, off, none⟩) n c g W ((hIns.below hW).more hW.size) i hi (by omega)
    rw [hgv, HNX] at h
    exact h
  have HINS := Lib.hid hIns
  have HT := Lib.hid hT
  have HTB := Lib.hid hTb
  have hvk : v.k < 4294967296 := hvo.2.2.2
  have i1 : (0 : Int) ≤ (i : Int) := by omega
  have i2 : (i : Int) < (n : Int) := by omega
  obtain ⟨X, hX⟩ : ∃ X, xx v = X := ⟨_, rfl⟩
  rw [hX] at HOF
  rw [HPF] at hL ⊢
  try rw [hgv] at hto
  have HC : Hid (∀ W, Below w.heap.size w W → Calls Try.prog 25 #[.slice (some ⟨b, off, none⟩) n c, .int .i64 ((i + 1 : Nat) : Int), .int .i64 (p : Int), .int .u32 ((q &&& v.k : Nat) : Int), .slice T ts.length cT, .int .i64 ((s : Int) + 1)] W fun e w' => ∃ A' c' S', e = .returned (.slice A' (pF g m (i + 1) p (q &&& v.k) ts (s + 1)).length c') ∧ RPs W.heap.size T w' A' c' (pF g m (i + 1) p (q &&& v.k) ts (s + 1)) S' ∧ Below W.heap.size W w') := Lib.hid fun W hW => by
    have h := HIH (i + 1) (p) ((q &&& v.k)) ts (s + 1) W T cT hto (by omega) (by first | omega | exact hvk) (by first | omega | decide | exact Nat.lt_of_le_of_lt Nat.and_le_left hq) (by omega) (by omega) hL ((hIns.below hW).more hW.size) ((hT.below hW).more hW.size) (fun b e => Nat.lt_of_lt_of_le (hTb b e) hW.size)
    have e : ((s + 1 : Nat) : Int) = (s : Int) + 1 := by omega
    rw [e] at h
    exact h
  have hand : bits .and .u32 (q : Int) (v.k : Int) = ((q &&& v.k : Nat) : Int) := u32_and_nat q v.k hq hvk
  obtain ⟨qk, hqk⟩ : ∃ z, q &&& v.k = z := ⟨_, rfl⟩
  rw [hqk] at hand HC hL ⊢
  generalize pF g m (i + 1) p qk ts (s + 1) = LL at *
  obtain ⟨ll, hll⟩ : ∃ z, LL.length = z := ⟨_, rfl⟩
  rw [hll] at HC ⊢
  obtain ⟨t0, ht0⟩ : ∃ z, i + 1 = z := ⟨_, rfl⟩
  rw [ht0] at HC HNXT
  have htn : t0 < n := by omega
  clear hIns hT hTb hc hvo hX HKD HNX HPF hL hto
  go_enter Try.func25, Try.ntmps25
  go_wp2_with (first
    | (go_at_call 41; refine (HOF.out _).mono ?_; rintro e w1 ⟨rfl, hB1⟩; have q3' := (hB1.cell (p := ⟨b, off + i * 4 + 3, none⟩) hb).trans q3; have HB1 := Lib.hid hB1; clear hB1)
    | (go_at_call 42; refine (HNXT.out _ HB1.out).mono ?_; rintro e w2 ⟨A2, m2, rfl, hI2, hB2⟩; have HB2 := Lib.hid (HB1.out.trans (hB2.mono HB1.out.size)); have HS2 := Lib.hid hB2.size; have hm2 : m2 = 1 := hI2.1; subst hm2; obtain ⟨b2, off2, rfl, hb2, hcc⟩ := hI2.2.1.at_ (by decide); have u0 : w2.cell? ⟨b2, off2, none⟩ = some (.int .i64 (t0 : Nat)) := hcc 0 (by decide); clear hcc hI2; clear hB2)
    | (go_at_call 25; refine (HC.out _ HB2.out).mono ?_; rintro e w3 ⟨A3, c3, S3, rfl, hR3, hB3⟩; have HR3 := Lib.hid (hR3.lower HB2.out.size); have HB3 := Lib.hid (HB2.out.trans (hB3.mono HB2.out.size)); clear hR3 hB3))
  go_ret
  exact ⟨_, _, _, rfl, HR3.out, HB3.out⟩
set_option maxRecDepth 100000 in
set_option maxHeartbeats 8000000 in
theorem from_ja (g : Nat → IV) (n : Nat) (A : Option Addr) (c : Nat) (hF : Fmd g n) (hk : ∀ i, i < n → okI (g i) = true) (m : Nat) (HIH : FromI g n A c m) (i p q : Nat) (ts : List TV) (s : Nat) (w : World) (T : Option Addr) (cT : Nat) (hi : i < n) (hm : n - i ≤ m + 1) (hp : p < 4294967296) (hq : q < 4294967296) (hs : s + (m + 1) ≤ 100000) (hts : ts.length + (m + 1) ≤ 100000) (hL : (pF g (m + 1) i p q ts s).length ≤ 5000) (hIns : Ins w w.heap.size A n c g) (hT : Cel w w.heap.size 5 T ts.length cT (tscell fun j => ts[j]!)) (hTb : ∀ b, some b = obk T → b < w.heap.size) (HKD : kd (g i) = 13) :
    Calls Try.prog 25 #[.slice A n c, .int .i64 i, .int .i64 p, .int .u32 q, .slice T ts.length cT, .int .i64 s] w fun e w' => ∃ A' c' S', e = .returned (.slice A' (pF g (m + 1) i p q ts s).length c') ∧ RPs w.heap.size T w' A' c' (pF g (m + 1) i p q ts s) S' ∧ Below w.heap.size w w' := by
  have HNX : nexts (g i) i = [i + 1 + (g i).k] := nx_ja HKD i
  have HPF : pF g (m + 1) i p q ts s = pF g m (i + 1 + (g i).k) p q ts (s + 1) := by
    show (if kd (g i) = 14 then _ else if brK (kd (g i)) = true then _ else if kd (g i) = 13 then _ else if kd (g i) = 1 then _ else _) = _
    rw [HKD]
    rfl
  have hto : i + 1 + (g i).k < n := next_lt hF hi (by rw [HNX]; simp)
  have hle := hF.le
  obtain ⟨v, hgv⟩ : ∃ v, g i = v := ⟨_, rfl⟩
  have hvo : v.ok := by rw [← hgv]; exact hIns.2 i hi
  obtain ⟨b, off, rfl, hb, hc⟩ := hIns.at_ (by omega)
  obtain ⟨q0, q1, q2, q3⟩ := hc i hi
  rw [hgv] at q0 q1 q2 q3 HKD HNX HPF
  have HOF : Hid (∀ W, Calls Try.prog 41 #[.int .u16 v.c] W fun e w' => e = .returned (.tuple #[.int .i64 13, .bool (xx v)]) ∧ Below W.heap.size W w') := Lib.hid fun W => by
    have h := refOf_v v hvo W
    rw [HKD] at h
    exact h
  have HNXT : Hid (∀ W, Below w.heap.size w W → Calls Try.prog 42 #[.slice (some ⟨b, off, none⟩) n c, .int .i64 i] W fun e w' => ∃ A' m, e = .returned (.slice A' m m) ∧ I64s w' W.heap.size A' m [i + 1 + v.k] ∧ Below W.heap.size W w') := Lib.hid fun W hW => by
    have h := refNext_any (some ⟨b, off, none⟩) n c g W ((hIns.below hW).more hW.size) i hi (by omega)
    rw [hgv, HNX] at h
    exact h
  have HINS := Lib.hid hIns
  have HT := Lib.hid hT
  have HTB := Lib.hid hTb
  have hvk : v.k < 4294967296 := hvo.2.2.2
  have i1 : (0 : Int) ≤ (i : Int) := by omega
  have i2 : (i : Int) < (n : Int) := by omega
  obtain ⟨X, hX⟩ : ∃ X, xx v = X := ⟨_, rfl⟩
  rw [hX] at HOF
  rw [HPF] at hL ⊢
  try rw [hgv] at hto
  have HC : Hid (∀ W, Below w.heap.size w W → Calls Try.prog 25 #[.slice (some ⟨b, off, none⟩) n c, .int .i64 ((i + 1 + v.k : Nat) : Int), .int .i64 (p : Int), .int .u32 (q : Int), .slice T ts.length cT, .int .i64 ((s : Int) + 1)] W fun e w' => ∃ A' c' S', e = .returned (.slice A' (pF g m (i + 1 + v.k) p q ts (s + 1)).length c') ∧ RPs W.heap.size T w' A' c' (pF g m (i + 1 + v.k) p q ts (s + 1)) S' ∧ Below W.heap.size W w') := Lib.hid fun W hW => by
    have h := HIH (i + 1 + v.k) (p) (q) ts (s + 1) W T cT hto (by omega) (by first | omega | exact hvk) (by first | omega | decide | exact Nat.lt_of_le_of_lt Nat.and_le_left hq) (by omega) (by omega) hL ((hIns.below hW).more hW.size) ((hT.below hW).more hW.size) (fun b e => Nat.lt_of_lt_of_le (hTb b e) hW.size)
    have e : ((s + 1 : Nat) : Int) = (s : Int) + 1 := by omega
    rw [e] at h
    exact h
  generalize pF g m (i + 1 + v.k) p q ts (s + 1) = LL at *
  obtain ⟨ll, hll⟩ : ∃ z, LL.length = z := ⟨_, rfl⟩
  rw [hll] at HC ⊢
  obtain ⟨t0, ht0⟩ : ∃ z, i + 1 + v.k = z := ⟨_, rfl⟩
  rw [ht0] at HC HNXT
  have htn : t0 < n := by omega
  clear hIns hT hTb hc hvo hX HKD HNX HPF hL hto
  go_enter Try.func25, Try.ntmps25
  go_wp2_with (first
    | (go_at_call 41; refine (HOF.out _).mono ?_; rintro e w1 ⟨rfl, hB1⟩; have q3' := (hB1.cell (p := ⟨b, off + i * 4 + 3, none⟩) hb).trans q3; have HB1 := Lib.hid hB1; clear hB1)
    | (go_at_call 42; refine (HNXT.out _ HB1.out).mono ?_; rintro e w2 ⟨A2, m2, rfl, hI2, hB2⟩; have HB2 := Lib.hid (HB1.out.trans (hB2.mono HB1.out.size)); have HS2 := Lib.hid hB2.size; have hm2 : m2 = 1 := hI2.1; subst hm2; obtain ⟨b2, off2, rfl, hb2, hcc⟩ := hI2.2.1.at_ (by decide); have u0 : w2.cell? ⟨b2, off2, none⟩ = some (.int .i64 (t0 : Nat)) := hcc 0 (by decide); clear hcc hI2; clear hB2)
    | (go_at_call 25; refine (HC.out _ HB2.out).mono ?_; rintro e w3 ⟨A3, c3, S3, rfl, hR3, hB3⟩; have HR3 := Lib.hid (hR3.lower HB2.out.size); have HB3 := Lib.hid (HB2.out.trans (hB3.mono HB2.out.size)); clear hR3 hB3))
  go_ret
  exact ⟨_, _, _, rfl, HR3.out, HB3.out⟩
set_option maxRecDepth 100000 in
set_option maxHeartbeats 16000000 in
theorem from_br (g : Nat → IV) (n : Nat) (A : Option Addr) (c : Nat) (hF : Fmd g n) (hk : ∀ i, i < n → okI (g i) = true) (m : Nat) (HIH : FromI g n A c m) (i p q : Nat) (ts : List TV) (s : Nat) (w : World) (T : Option Addr) (cT : Nat) (hi : i < n) (hm : n - i ≤ m + 1) (hp : p < 4294967296) (hq : q < 4294967296) (hs : s + (m + 1) ≤ 100000) (hts : ts.length + (m + 1) ≤ 100000) (hL : (pF g (m + 1) i p q ts s).length ≤ 5000) (hIns : Ins w w.heap.size A n c g) (hT : Cel w w.heap.size 5 T ts.length cT (tscell fun j => ts[j]!)) (hTb : ∀ b, some b = obk T → b < w.heap.size) (hbr : brK (kd (g i)) = true) :
    Calls Try.prog 25 #[.slice A n c, .int .i64 i, .int .i64 p, .int .u32 q, .slice T ts.length cT, .int .i64 s] w fun e w' => ∃ A' c' S', e = .returned (.slice A' (pF g (m + 1) i p q ts s).length c') ∧ RPs w.heap.size T w' A' c' (pF g (m + 1) i p q ts s) S' ∧ Below w.heap.size w w' := by
  have HNX : nexts (g i) i = [i + 1 + (g i).t, i + 1 + (g i).f] := nx_br hbr i
  have HPF : pF g (m + 1) i p q ts s = pF g m (i + 1 + (g i).t) p q (ts ++ [⟨(p : Int), q, kd (g i), (g i).k, true⟩]) (s + 1) ++ pF g m (i + 1 + (g i).f) p q (ts ++ [⟨(p : Int), q, kd (g i), (g i).k, false⟩]) (s + 1) := by
    obtain ⟨a, _⟩ := brK_ne hbr
    show (if kd (g i) = 14 then _ else _) = _
    rw [if_neg a, if_pos hbr]
  have htoHY : i + 1 + (g i).t < n := next_lt hF hi (by rw [HNX]; simp)
  have htoHN : i + 1 + (g i).f < n := next_lt hF hi (by rw [HNX]; simp)
  obtain ⟨Kv, HKD⟩ : ∃ z, kd (g i) = z := ⟨_, rfl⟩
  rw [HKD] at hbr HPF
  obtain ⟨k14, k15, k13, k1, k21⟩ := brK_ne hbr
  have n14 : (Kv == 14) = false := by simpa using k14
  have n1 : (Kv == 1) = false := by simpa using k1
  have n21 : (Kv == 21) = false := by simpa using k21
  have n25 : Kv ≥ 25 := by
    unfold brK at hbr
    simp only [Bool.or_eq_true, beq_iff_eq] at hbr
    omega
  have n25' : (25 : Int) ≤ Kv := n25
  have hle := hF.le
  obtain ⟨v, hgv⟩ : ∃ v, g i = v := ⟨_, rfl⟩
  have hvo : v.ok := by rw [← hgv]; exact hIns.2 i hi
  obtain ⟨b, off, rfl, hb, hc⟩ := hIns.at_ (by omega)
  obtain ⟨q0, q1, q2, q3⟩ := hc i hi
  rw [hgv] at q0 q1 q2 q3 HKD HNX HPF
  have HOF : Hid (∀ W, Calls Try.prog 41 #[.int .u16 v.c] W fun e w' => e = .returned (.tuple #[.int .i64 Kv, .bool (xx v)]) ∧ Below W.heap.size W w') := Lib.hid fun W => by
    have h := refOf_v v hvo W
    rw [HKD] at h
    exact h
  have HNXT : Hid (∀ W, Below w.heap.size w W → Calls Try.prog 42 #[.slice (some ⟨b, off, none⟩) n c, .int .i64 i] W fun e w' => ∃ A' m, e = .returned (.slice A' m m) ∧ I64s w' W.heap.size A' m [i + 1 + v.t, i + 1 + v.f] ∧ Below W.heap.size W w') := Lib.hid fun W hW => by
    have h := refNext_any (some ⟨b, off, none⟩) n c g W ((hIns.below hW).more hW.size) i hi (by omega)
    rw [hgv, HNX] at h
    exact h
  have HINS := Lib.hid hIns
  have HT := Lib.hid hT
  have HTB := Lib.hid hTb
  have hvk : v.k < 4294967296 := hvo.2.2.2
  have i1 : (0 : Int) ≤ (i : Int) := by omega
  have i2 : (i : Int) < (n : Int) := by omega
  obtain ⟨X, hX⟩ : ∃ X, xx v = X := ⟨_, rfl⟩
  rw [hX] at HOF
  rw [HPF] at hL ⊢
  rw [hgv] at htoHY htoHN
  have HY : Hid (∀ W Tb cTb, Below w.heap.size w W → Cel W W.heap.size 5 Tb (ts.length + 1) cTb (tscell fun j => (ts ++ [⟨(p : Int), q, Kv, v.k, true⟩])[j]!) → (∀ b, some b = obk Tb → b < W.heap.size) → Calls Try.prog 25 #[.slice (some ⟨b, off, none⟩) n c, .int .i64 ((i + 1 + v.t : Nat) : Int), .int .i64 (p : Int), .int .u32 (q : Int), .slice Tb ((ts.length + 1 : Nat)) cTb, .int .i64 ((s : Int) + 1)] W fun e w' => ∃ A' c' S', e = .returned (.slice A' (pF g m (i + 1 + v.t) p q (ts ++ [⟨(p : Int), q, Kv, v.k, true⟩]) (s + 1)).length c') ∧ RPs W.heap.size Tb w' A' c' (pF g m (i + 1 + v.t) p q (ts ++ [⟨(p : Int), q, Kv, v.k, true⟩]) (s + 1)) S' ∧ Below W.heap.size W w') := Lib.hid fun W Tb cTb hW hTW hTb => by
    have hl : (ts ++ [(⟨(p : Int), q, Kv, v.k, true⟩ : TV)]).length = ts.length + 1 := by simp
    have h := HIH (i + 1 + v.t) p q (ts ++ [⟨(p : Int), q, Kv, v.k, true⟩]) (s + 1) W Tb cTb htoHY (by omega) hp hq (by omega) (by rw [hl]; omega) (by rw [List.length_append] at hL; omega) ((hIns.below hW).more hW.size) (by rw [hl]; exact hTW) hTb
    have e : ((s + 1 : Nat) : Int) = (s : Int) + 1 := by omega
    rw [e, hl] at h
    exact h
  generalize pF g m (i + 1 + v.t) p q (ts ++ [⟨(p : Int), q, Kv, v.k, true⟩]) (s + 1) = LHY at *
  have HN : Hid (∀ W Tb cTb, Below w.heap.size w W → Cel W W.heap.size 5 Tb (ts.length + 1) cTb (tscell fun j => (ts ++ [⟨(p : Int), q, Kv, v.k, false⟩])[j]!) → (∀ b, some b = obk Tb → b < W.heap.size) → Calls Try.prog 25 #[.slice (some ⟨b, off, none⟩) n c, .int .i64 ((i + 1 + v.f : Nat) : Int), .int .i64 (p : Int), .int .u32 (q : Int), .slice Tb ((ts.length + 1 : Nat)) cTb, .int .i64 ((s : Int) + 1)] W fun e w' => ∃ A' c' S', e = .returned (.slice A' (pF g m (i + 1 + v.f) p q (ts ++ [⟨(p : Int), q, Kv, v.k, false⟩]) (s + 1)).length c') ∧ RPs W.heap.size Tb w' A' c' (pF g m (i + 1 + v.f) p q (ts ++ [⟨(p : Int), q, Kv, v.k, false⟩]) (s + 1)) S' ∧ Below W.heap.size W w') := Lib.hid fun W Tb cTb hW hTW hTb => by
    have hl : (ts ++ [(⟨(p : Int), q, Kv, v.k, false⟩ : TV)]).length = ts.length + 1 := by simp
    have h := HIH (i + 1 + v.f) p q (ts ++ [⟨(p : Int), q, Kv, v.k, false⟩]) (s + 1) W Tb cTb htoHN (by omega) hp hq (by omega) (by rw [hl]; omega) (by rw [List.length_append] at hL; omega) ((hIns.below hW).more hW.size) (by rw [hl]; exact hTW) hTb
    have e : ((s + 1 : Nat) : Int) = (s : Int) + 1 := by omega
    rw [e, hl] at h
    exact h
  generalize pF g m (i + 1 + v.f) p q (ts ++ [⟨(p : Int), q, Kv, v.k, false⟩]) (s + 1) = LHN at *
  obtain ⟨t0, ht0⟩ : ∃ z, i + 1 + v.t = z := ⟨_, rfl⟩
  obtain ⟨t1, ht1⟩ : ∃ z, i + 1 + v.f = z := ⟨_, rfl⟩
  rw [ht0] at HY HNXT
  rw [ht1] at HN HNXT
  have hle2 : LHY.length + LHN.length ≤ 5000 := by rw [List.length_append] at hL; exact hL
  have HTSL := Lib.hid hts
  have HTC : Hid (∀ W, Below w.heap.size w W → Cel W W.heap.size 5 T ts.length cT (tscell fun j => ts[j]!)) := Lib.hid fun W hW => (hT.below hW).more hW.size
  obtain ⟨tl, htl⟩ : ∃ z, ts.length = z := ⟨_, rfl⟩
  rw [htl] at HTC HY HN hts ⊢
  have hbK : brK Kv = true := hbr
  clear hIns hT hTb hc hvo hX HKD HNX HPF hL htoHY htoHN k14 k15 k13 k1 k21 hbr
  go_enter Try.func25, Try.ntmps25
  go_wp2_with (first
    | (go_at_call 41; refine (HOF.out _).mono ?_; rintro e w1 ⟨rfl, hB1⟩; have q3' := (hB1.cell (p := ⟨b, off + i * 4 + 3, none⟩) hb).trans q3; have HB1 := Lib.hid hB1; clear hB1)
    | (go_at_call 42; refine (HNXT.out _ HB1.out).mono ?_; rintro e w2 ⟨A2, m2, rfl, hI2, hB2⟩; have HB2 := Lib.hid (HB1.out.trans (hB2.mono HB1.out.size)); have HS2 := Lib.hid hB2.size; have hm2 : m2 = 2 := hI2.1; subst hm2; obtain ⟨b2, off2, rfl, hb2, hcc⟩ := hI2.2.1.at_ (by decide); have u0 : w2.cell? ⟨b2, off2, none⟩ = some (.int .i64 (t0 : Nat)) := hcc 0 (by decide); have u1 : w2.cell? ⟨b2, off2 + 1, none⟩ = some (.int .i64 (t1 : Nat)) := hcc 1 (by decide); have hown2 := lit0 w2 108 5 (tscell fun j => ts[j]!) (by decide); have hT2 := HTC.out _ (HB2.out.alloc HB2.out.size (.cells #[] 108)); clear hcc hI2; clear hB2)
    | (at_builtin; go_must (first
      | (refine app_cells _ rfl _ _ _ 108 rfl Try.underlying57 infoRT rfl (by decide) rfl hown2 rfl hT2 (fun i _ => tscell_one _ i) (by unfold maxLen; omega) (by omega) (by simp) tl (by omega) (tscell fun j => ts[j]!) (fun i _ => by unfold catC; rw [if_neg (by omega)]; simp) ?_; rintro A3 c3 w3 hown3 hB3; have hD3 := ((Below.refl w2.heap.size w2).alloc (Nat.le_refl _) _).trans hB3; have HB3 := Lib.hid (HB2.out.trans (hD3.mono HB2.out.size)); clear hown2 hT2)
      | (refine app_cells _ rfl _ _ _ 108 rfl Try.underlying57 infoRT rfl (by decide) rfl (hown3.alloc _) rfl (one_test w3 ⟨(p : Int), q, Kv, v.k, true⟩ _) (fun i _ => tscell_one _ i) (by unfold maxLen; omega) (by omega) (by have := hB3.size; simp at this; simp; omega) (tl + 1) rfl (tscell fun j => (ts ++ [⟨(p : Int), q, Kv, v.k, true⟩])[j]!) (by rw [← htl]; exact ts_cat ts _) ?_; rintro A4 c4 w4 hown4 hB4; have HO4 := Lib.hid hown4; have hD4 := (hD3.alloc hD3.size _).trans hB4; have HD4 := Lib.hid hD4; have HB4 := Lib.hid (HB2.out.trans (hD4.mono HB2.out.size)); have hown4x := hown4; clear hown4; have hown4 := lit0 w4 108 5 (tscell fun j => ts[j]!) (by decide); have hT4 := HTC.out _ (HB4.out.alloc HB4.out.size (.cells #[] 108)); clear hown3 hB3 hB4 hD3 hD4)
      | (refine app_cells _ rfl _ _ _ 108 rfl Try.underlying57 infoRT rfl (by decide) rfl hown4 rfl hT4 (fun i _ => tscell_one _ i) (by unfold maxLen; omega) (by omega) (by simp) tl (by omega) (tscell fun j => ts[j]!) (fun i _ => by unfold catC; rw [if_neg (by omega)]; simp) ?_; rintro A5 c5 w5 hown5 hB5; have hD5 := ((Below.refl w4.heap.size w4).alloc (Nat.le_refl _) _).trans hB5; have HB5 := Lib.hid (HB4.out.trans (hD5.mono HB4.out.size)); clear hown4 hT4)
      | (refine app_cells _ rfl _ _ _ 108 rfl Try.underlying57 infoRT rfl (by decide) rfl (hown5.alloc _) rfl (one_test w5 ⟨(p : Int), q, Kv, v.k, false⟩ _) (fun i _ => tscell_one _ i) (by unfold maxLen; omega) (by omega) (by have := hB5.size; simp at this; simp; omega) (tl + 1) rfl (tscell fun j => (ts ++ [⟨(p : Int), q, Kv, v.k, false⟩])[j]!) (by rw [← htl]; exact ts_cat ts _) ?_; rintro A6 c6 w6 hown6 hB6; have HO6 := Lib.hid hown6; have hD6 := (hD5.alloc hD5.size _).trans hB6; have HD6 := Lib.hid hD6; have HB6 := Lib.hid (HB4.out.trans (hD6.mono HB4.out.size)); have u06 := (hD6.cell (p := ⟨b2, off2, none⟩) (Nat.lt_of_lt_of_le hb2 HD4.out.size)).trans ((HD4.out.cell (p := ⟨b2, off2, none⟩) hb2).trans u0); have u16 := (hD6.cell (p := ⟨b2, off2 + 1, none⟩) (Nat.lt_of_lt_of_le hb2 HD4.out.size)).trans ((HD4.out.cell (p := ⟨b2, off2 + 1, none⟩) hb2).trans u1); clear u0 u1; have HX6 := Lib.hid hown6; clear hown6; clear hown5 hB5 hB6 hD5 hD6))))
  have hb26 : b2 < w6.heap.size := Nat.lt_of_lt_of_le hb2 (Nat.le_trans HD4.out.size HD6.out.size)
  have h24 := HD4.out.size
  have h46 := HD6.out.size
  have h02 := HB2.out.size
  have HM : Hid (∀ W, Below w6.heap.size w6 W → W.cell? ⟨b2, off2, none⟩ = some (.int .i64 (t0 : Nat)) ∧ W.cell? ⟨b2, off2 + 1, none⟩ = some (.int .i64 (t1 : Nat))) := Lib.hid fun W hW => ⟨(hW.cell (p := ⟨b2, off2, none⟩) hb26).trans u06, (hW.cell (p := ⟨b2, off2 + 1, none⟩) hb26).trans u16⟩
  have hA4 : ∀ b, some b = obk A4 → w2.heap.size ≤ b ∧ b < w4.heap.size := fun b e => ⟨(own_lt hown4x e).1, (own_lt hown4x e).2.1⟩
  have hA6 : ∀ b, some b = obk A6 → w4.heap.size ≤ b ∧ b < w6.heap.size := fun b e => ⟨(own_lt HX6.out e).1, (own_lt HX6.out e).2.1⟩
  have HYC : Hid (∀ W, Below w6.heap.size w6 W → Calls Try.prog 25 #[.slice (some ⟨b, off, none⟩) n c, .int .i64 ((t0 : Nat) : Int), .int .i64 (p : Int), .int .u32 (q : Int), .slice A4 ((tl + 1 : Nat)) c4, .int .i64 ((s : Int) + 1)] W fun e w' => ∃ A' c' S', e = .returned (.slice A' LHY.length c') ∧ RPs W.heap.size A4 w' A' c' LHY S' ∧ Below W.heap.size W w') := Lib.hid fun W hW =>
    HY.out W A4 c4 (HB6.out.trans (hW.mono HB6.out.size)) ((((hown4x.cel).below (HD6.out)).more HD6.out.size |>.below hW).more hW.size) (fun b e => by have := (hA4 b e).2; have := hW.size; omega)
  have HNC : Hid (∀ W, Below w6.heap.size w6 W → Calls Try.prog 25 #[.slice (some ⟨b, off, none⟩) n c, .int .i64 ((t1 : Nat) : Int), .int .i64 (p : Int), .int .u32 (q : Int), .slice A6 ((tl + 1 : Nat)) c6, .int .i64 ((s : Int) + 1)] W fun e w' => ∃ A' c' S', e = .returned (.slice A' LHN.length c') ∧ RPs W.heap.size A6 w' A' c' LHN S' ∧ Below W.heap.size W w') := Lib.hid fun W hW =>
    HN.out W A6 c6 (HB6.out.trans (hW.mono HB6.out.size)) (((HX6.out.cel).below hW).more hW.size) (fun b e => by have := (hA6 b e).2; have := hW.size; omega)
  have HA4 := Lib.hid hA4
  have HA6 := Lib.hid hA6
  clear hown4x hA4 hA6 HY HN HTC HOF HNXT HINS HT HTB q0 q1 q2 q3 q3' hgv HTSL
  have hws : IntKind.i64.wrap ((s : Int) + 1) = (s : Int) + 1 := by rw [IntKind.wrap_i64]; omega
  refine wp_region_E (S := fun V => Below w6.heap.size w6 V) 20 (by kernel_rfl) ?_
  have hHeld : Below w6.heap.size w6 w6.drew := (Below.refl _ _).drew
  refine wpAnyE_take (i := 0) (oi := ({ dst := some 96, op := Op.move (Operand.tmp 0), type := 22, pos := "ref.go:79", after := #[], guard := none } : Oper)) (v := ?vf0x1) rfl (by kernel_rfl) (by decide) (by kernel_rfl) (fun _ _ _ h => h) (by rfl) ?hf0x1 hHeld ?rf0x1
  case hf0x1 =>
    intro V hV
    skip
    go_simp
    all_goals with_reducible rfl
  try simp only [Act.put, List.setIfInBounds_toArray, List.set_cons_zero, List.set_cons_succ]
  refine wpAnyE_take (i := 1) (oi := ({ dst := some 97, op := Op.move (Operand.tmp 16), type := 32, pos := "ref.go:79", after := #[], guard := none } : Oper)) (v := ?vf1x2) rfl (by kernel_rfl) (by decide) (by kernel_rfl) (fun _ _ _ h => h) (by rfl) ?hf1x2 hHeld ?rf1x2
  case hf1x2 =>
    intro V hV
    skip
    go_simp
    all_goals with_reducible rfl
  try simp only [Act.put, List.setIfInBounds_toArray, List.set_cons_zero, List.set_cons_succ]
  refine wpAnyE_take (i := 2) (oi := ({ dst := some 98, op := Op.indexAddr 32 (Operand.tmp 97) (Operand.const (Value.int IntKind.i64 0)), type := 0, pos := "ref.go:79", after := #[{ on := 1, ground := Ground.data }], guard := none } : Oper)) (v := ?vf2x3) rfl (by kernel_rfl) (by decide) (by kernel_rfl) (fun _ _ _ h => h) (by rfl) ?hf2x3 hHeld ?rf2x3
  case hf2x3 =>
    intro V hV
    skip
    go_simp
    all_goals with_reducible rfl
  try simp only [Act.put, List.setIfInBounds_toArray, List.set_cons_zero, List.set_cons_succ]
  refine wpAnyE_take (i := 3) (oi := ({ dst := some 99, op := Op.load 3 (Operand.tmp 98), type := 3, pos := "ref.go:79", after := #[{ on := 2, ground := Ground.data }], guard := none } : Oper)) (v := ?vf3x4) rfl (by kernel_rfl) (by decide) (by kernel_rfl) (fun _ _ _ h => h) (by rfl) ?hf3x4 hHeld ?rf3x4
  case hf3x4 =>
    intro V hV
    obtain ⟨s0, s1⟩ := HM.out V hV
    go_simp
    all_goals with_reducible rfl
  try simp only [Act.put, List.setIfInBounds_toArray, List.set_cons_zero, List.set_cons_succ]
  refine wpAnyE_take (i := 4) (oi := ({ dst := some 100, op := Op.move (Operand.tmp 2), type := 3, pos := "ref.go:79", after := #[], guard := none } : Oper)) (v := ?vf4x5) rfl (by kernel_rfl) (by decide) (by kernel_rfl) (fun _ _ _ h => h) (by rfl) ?hf4x5 hHeld ?rf4x5
  case hf4x5 =>
    intro V hV
    skip
    go_simp
    all_goals with_reducible rfl
  try simp only [Act.put, List.setIfInBounds_toArray, List.set_cons_zero, List.set_cons_succ]
  refine wpAnyE_take (i := 5) (oi := ({ dst := some 101, op := Op.move (Operand.tmp 3), type := 43, pos := "ref.go:79", after := #[], guard := none } : Oper)) (v := ?vf5x6) rfl (by kernel_rfl) (by decide) (by kernel_rfl) (fun _ _ _ h => h) (by rfl) ?hf5x6 hHeld ?rf5x6
  case hf5x6 =>
    intro V hV
    skip
    go_simp
    all_goals with_reducible rfl
  try simp only [Act.put, List.setIfInBounds_toArray, List.set_cons_zero, List.set_cons_succ]
  refine wpAnyE_take (i := 6) (oi := ({ dst := some 102, op := Op.move (Operand.tmp 17), type := 57, pos := "ref.go:79", after := #[], guard := none } : Oper)) (v := ?vf6x7) rfl (by kernel_rfl) (by decide) (by kernel_rfl) (fun _ _ _ h => h) (by rfl) ?hf6x7 hHeld ?rf6x7
  case hf6x7 =>
    intro V hV
    skip
    go_simp
    all_goals with_reducible rfl
  try simp only [Act.put, List.setIfInBounds_toArray, List.set_cons_zero, List.set_cons_succ]
  refine wpAnyE_take (i := 7) (oi := ({ dst := some 103, op := Op.move (Operand.tmp 5), type := 3, pos := "ref.go:79", after := #[], guard := none } : Oper)) (v := ?vf7x8) rfl (by kernel_rfl) (by decide) (by kernel_rfl) (fun _ _ _ h => h) (by rfl) ?hf7x8 hHeld ?rf7x8
  case hf7x8 =>
    intro V hV
    skip
    go_simp
    all_goals with_reducible rfl
  try simp only [Act.put, List.setIfInBounds_toArray, List.set_cons_zero, List.set_cons_succ]
  refine wpAnyE_take (i := 8) (oi := ({ dst := some 104, op := Op.binOp BinOp.add 3 (Operand.tmp 103) (Operand.const (Value.int IntKind.i64 1)) 3, type := 3, pos := "ref.go:79", after := #[{ on := 7, ground := Ground.data }], guard := none } : Oper)) (v := ?vf8x9) rfl (by kernel_rfl) (by decide) (by kernel_rfl) (fun _ _ _ h => h) (by rfl) ?hf8x9 hHeld ?rf8x9
  case hf8x9 =>
    intro V hV
    skip
    go_simp
    all_goals with_reducible rfl
  try simp only [Act.put, List.setIfInBounds_toArray, List.set_cons_zero, List.set_cons_succ]
  refine wpAnyE_take (i := 10) (oi := ({ dst := some 106, op := Op.move (Operand.tmp 0), type := 22, pos := "ref.go:79", after := #[], guard := none } : Oper)) (v := ?vf10x10) rfl (by kernel_rfl) (by decide) (by kernel_rfl) (fun _ _ _ h => h) (by rfl) ?hf10x10 hHeld ?rf10x10
  case hf10x10 =>
    intro V hV
    skip
    go_simp
    all_goals with_reducible rfl
  try simp only [Act.put, List.setIfInBounds_toArray, List.set_cons_zero, List.set_cons_succ]
  refine wpAnyE_take (i := 11) (oi := ({ dst := some 107, op := Op.move (Operand.tmp 16), type := 32, pos := "ref.go:79", after := #[], guard := none } : Oper)) (v := ?vf11x11) rfl (by kernel_rfl) (by decide) (by kernel_rfl) (fun _ _ _ h => h) (by rfl) ?hf11x11 hHeld ?rf11x11
  case hf11x11 =>
    intro V hV
    skip
    go_simp
    all_goals with_reducible rfl
  try simp only [Act.put, List.setIfInBounds_toArray, List.set_cons_zero, List.set_cons_succ]
  refine wpAnyE_take (i := 12) (oi := ({ dst := some 108, op := Op.indexAddr 32 (Operand.tmp 107) (Operand.const (Value.int IntKind.i64 1)), type := 0, pos := "ref.go:79", after := #[{ on := 11, ground := Ground.data }], guard := none } : Oper)) (v := ?vf12x12) rfl (by kernel_rfl) (by decide) (by kernel_rfl) (fun _ _ _ h => h) (by rfl) ?hf12x12 hHeld ?rf12x12
  case hf12x12 =>
    intro V hV
    skip
    go_simp
    all_goals with_reducible rfl
  try simp only [Act.put, List.setIfInBounds_toArray, List.set_cons_zero, List.set_cons_succ]
  refine wpAnyE_take (i := 13) (oi := ({ dst := some 109, op := Op.load 3 (Operand.tmp 108), type := 3, pos := "ref.go:79", after := #[{ on := 12, ground := Ground.data }], guard := none } : Oper)) (v := ?vf13x13) rfl (by kernel_rfl) (by decide) (by kernel_rfl) (fun _ _ _ h => h) (by rfl) ?hf13x13 hHeld ?rf13x13
  case hf13x13 =>
    intro V hV
    obtain ⟨s0, s1⟩ := HM.out V hV
    go_simp
    all_goals with_reducible rfl
  try simp only [Act.put, List.setIfInBounds_toArray, List.set_cons_zero, List.set_cons_succ]
  refine wpAnyE_take (i := 14) (oi := ({ dst := some 110, op := Op.move (Operand.tmp 2), type := 3, pos := "ref.go:79", after := #[], guard := none } : Oper)) (v := ?vf14x14) rfl (by kernel_rfl) (by decide) (by kernel_rfl) (fun _ _ _ h => h) (by rfl) ?hf14x14 hHeld ?rf14x14
  case hf14x14 =>
    intro V hV
    skip
    go_simp
    all_goals with_reducible rfl
  try simp only [Act.put, List.setIfInBounds_toArray, List.set_cons_zero, List.set_cons_succ]
  refine wpAnyE_take (i := 15) (oi := ({ dst := some 111, op := Op.move (Operand.tmp 3), type := 43, pos := "ref.go:79", after := #[], guard := none } : Oper)) (v := ?vf15x15) rfl (by kernel_rfl) (by decide) (by kernel_rfl) (fun _ _ _ h => h) (by rfl) ?hf15x15 hHeld ?rf15x15
  case hf15x15 =>
    intro V hV
    skip
    go_simp
    all_goals with_reducible rfl
  try simp only [Act.put, List.setIfInBounds_toArray, List.set_cons_zero, List.set_cons_succ]
  refine wpAnyE_take (i := 16) (oi := ({ dst := some 112, op := Op.move (Operand.tmp 18), type := 57, pos := "ref.go:79", after := #[], guard := none } : Oper)) (v := ?vf16x16) rfl (by kernel_rfl) (by decide) (by kernel_rfl) (fun _ _ _ h => h) (by rfl) ?hf16x16 hHeld ?rf16x16
  case hf16x16 =>
    intro V hV
    skip
    go_simp
    all_goals with_reducible rfl
  try simp only [Act.put, List.setIfInBounds_toArray, List.set_cons_zero, List.set_cons_succ]
  refine wpAnyE_take (i := 17) (oi := ({ dst := some 113, op := Op.move (Operand.tmp 5), type := 3, pos := "ref.go:79", after := #[], guard := none } : Oper)) (v := ?vf17x17) rfl (by kernel_rfl) (by decide) (by kernel_rfl) (fun _ _ _ h => h) (by rfl) ?hf17x17 hHeld ?rf17x17
  case hf17x17 =>
    intro V hV
    skip
    go_simp
    all_goals with_reducible rfl
  try simp only [Act.put, List.setIfInBounds_toArray, List.set_cons_zero, List.set_cons_succ]
  refine wpAnyE_take (i := 18) (oi := ({ dst := some 114, op := Op.binOp BinOp.add 3 (Operand.tmp 113) (Operand.const (Value.int IntKind.i64 1)) 3, type := 3, pos := "ref.go:79", after := #[{ on := 17, ground := Ground.data }], guard := none } : Oper)) (v := ?vf18x18) rfl (by kernel_rfl) (by decide) (by kernel_rfl) (fun _ _ _ h => h) (by rfl) ?hf18x18 hHeld ?rf18x18
  case hf18x18 =>
    intro V hV
    skip
    go_simp
    all_goals with_reducible rfl
  try simp only [Act.put, List.setIfInBounds_toArray, List.set_cons_zero, List.set_cons_succ]
  refine wpAnyE_ready (rs := [9]) (by kernel_rfl) (by simp) ?_
  refine (AllE.cons (o := ({ dst := some 105, op := Op.call { callee := Callee.value (Operand.func 25), args := #[Operand.tmp 96, Operand.tmp 99, Operand.tmp 100, Operand.tmp 101, Operand.tmp 102, Operand.tmp 104], argTypes := #[22, 3, 3, 43, 57, 3] }, type := 51, pos := "ref.go:79", after := #[{ on := 0, ground := Ground.data }, { on := 3, ground := Ground.data }, { on := 4, ground := Ground.data }, { on := 5, ground := Ground.data }, { on := 6, ground := Ground.data }, { on := 8, ground := Ground.data }], guard := none } : Oper)) rfl (by decide) (fun K hK => ?_) AllE.nil)
  go_simp

  refine (HYC.out _ hHeld).mono ?_
  rintro e w7 ⟨A7, c7, S7, rfl, hR7, hB7⟩
  have HK7 : Below w6.heap.size w6 w7 := hHeld.trans (hB7.mono hHeld.size)
  refine hK.out _ _ ?kf9x19 (fun hHeld2 => ?_)
  case kf9x19 => exact HK7
  clear hK K
  try simp only [Act.put, List.setIfInBounds_toArray, List.set_cons_zero, List.set_cons_succ]
  replace hHeld := hHeld2
  clear hHeld2
  refine wpAnyE_ready (rs := [19]) (by kernel_rfl) (by simp) ?_
  refine (AllE.cons (o := ({ dst := some 115, op := Op.call { callee := Callee.value (Operand.func 25), args := #[Operand.tmp 106, Operand.tmp 109, Operand.tmp 110, Operand.tmp 111, Operand.tmp 112, Operand.tmp 114], argTypes := #[22, 3, 3, 43, 57, 3] }, type := 51, pos := "ref.go:79", after := #[{ on := 10, ground := Ground.data }, { on := 13, ground := Ground.data }, { on := 14, ground := Ground.data }, { on := 15, ground := Ground.data }, { on := 16, ground := Ground.data }, { on := 18, ground := Ground.data }, { on := 9, ground := Ground.chain }], guard := none } : Oper)) rfl (by decide) (fun K hK => ?_) AllE.nil)
  go_simp

  refine (HNC.out _ hHeld).mono ?_
  rintro e w8 ⟨A8, c8, S8, rfl, hR8, hB8⟩
  have HK8 : Below w6.heap.size w6 w8 := hHeld.trans (hB8.mono hHeld.size)
  refine hK.out _ _ ?kf19x20 (fun hHeld2 => ?_)
  case kf19x20 => exact HK8
  clear hK K
  try simp only [Act.put, List.setIfInBounds_toArray, List.set_cons_zero, List.set_cons_succ]
  replace hHeld := hHeld2
  clear hHeld2
  refine wpAnyE_late (j := 20) (o := ({ dst := some 116, op := Op.call { callee := Callee.builtin Builtin.append, args := #[Operand.tmp 105, Operand.tmp 115], argTypes := #[51, 51] }, type := 51, pos := "ref.go:79", after := #[{ on := 9, ground := Ground.data }, { on := 19, ground := Ground.data }, { on := 19, ground := Ground.chain }], guard := none } : Oper)) (by kernel_rfl) (by decide) rfl (fun K hK => ?_)
  refine step_cellsA (by rfl) _ _ _ 59 (by rfl) Try.underlying51 infoRP (by rfl) (by decide) (by rfl) (hR7.keep hB8).own (by rfl) hR8.own.cel (fun i _ => pvcell_one _ _ i) (by unfold maxLen; omega) (by omega) (HK8.size) (LHY ++ LHN).length (by simp) (pvcell (fun i => (LHY ++ LHN)[i]!) (cat2 LHY.length S7 S8)) (fun i hi => pv_cat LHY LHN S7 S8 i (by rw [List.length_append] at hi; exact hi)) ?_
  rintro A9 c9 w9 hown9 hg9 hat9
  rw [own_obk] at hg9
  rw [own_obk, own_obk] at hat9
  have hR9 := RPs.join (base0 := w2.heap.size) (T := T) (hR7.keep hB8) (fun b e => (own_lt hR7.own e).2.1) hR8 (fun b e => (HA4.out b e).1) (fun b e => ⟨by have := (HA6.out b e).1; omega, (HA6.out b e).2⟩) (by show w2.heap.size ≤ w6.heap.size; omega) (by have := HK7.size; omega) hown9 hg9 hat9
  have hB9 : Below w6.heap.size w6 w9 := HK8.grown hg9 HK8.size (fun k e => (own_lt hR7.own e.symm).1)
  refine hK.out _ _ ?_
  clear hK K
  try simp only [Act.put, List.setIfInBounds_toArray, List.set_cons_zero, List.set_cons_succ]
  refine wpAnyE_late (j := 21) (o := ({ dst := some 12, op := Op.assign (Operand.tmp 116), type := 51, pos := "ref.go:79", after := #[{ on := 20, ground := Ground.data }, { on := 20, ground := Ground.chain }, { on := 0, ground := Ground.phase }, { on := 1, ground := Ground.phase }, { on := 2, ground := Ground.phase }, { on := 3, ground := Ground.phase }, { on := 4, ground := Ground.phase }, { on := 5, ground := Ground.phase }, { on := 6, ground := Ground.phase }, { on := 7, ground := Ground.phase }, { on := 8, ground := Ground.phase }, { on := 9, ground := Ground.phase }, { on := 10, ground := Ground.phase }, { on := 11, ground := Ground.phase }, { on := 12, ground := Ground.phase }, { on := 13, ground := Ground.phase }, { on := 14, ground := Ground.phase }, { on := 15, ground := Ground.phase }, { on := 16, ground := Ground.phase }, { on := 17, ground := Ground.phase }, { on := 18, ground := Ground.phase }, { on := 19, ground := Ground.phase }, { on := 20, ground := Ground.phase }], guard := none } : Oper)) (by kernel_rfl) (by decide) rfl (fun K hK => ?_)
  go_simp
  refine hK.out _ _ ?_
  clear hK K
  try simp only [Act.put, List.setIfInBounds_toArray, List.set_cons_zero, List.set_cons_succ]
  refine wpAnyE_done (by kernel_rfl) ?_ _
  go_wp2
  go_ret
  exact ⟨_, _, _, by rw [List.length_append]; rfl, hR9.lower HB2.out.size, HB6.out.trans (hB9.mono HB6.out.size)⟩
theorem from_all (g : Nat → IV) (n : Nat) (A : Option Addr) (c : Nat) (hF : Fmd g n) (hk : ∀ i, i < n → okI (g i) = true) : ∀ m, FromI g n A c m
  | 0 => fun i p q ts s w T cT hi hm => by omega
  | m + 1 => fun i p q ts s w T cT hi hm hp hq hs hts hL hIns hT hTb => by
    have ih := from_all g n A c hF hk m
    have hoi := hk i hi
    by_cases h14 : kd (g i) = 14
    · exact from_ret g n A c hF hk m i p q ts s w T cT hi hm hp hq hs hts hL hIns hT hTb h14
    · by_cases hbr : brK (kd (g i)) = true
      · exact from_br g n A c hF hk m ih i p q ts s w T cT hi hm hp hq hs hts hL hIns hT hTb hbr
      · by_cases h13 : kd (g i) = 13
        · exact from_ja g n A c hF hk m ih i p q ts s w T cT hi hm hp hq hs hts hL hIns hT hTb h13
        · by_cases h1 : kd (g i) = 1
          · exact from_load g n A c hF hk m ih i p q ts s w T cT hi hm hp hq hs hts hL hIns hT hTb h1
          · have h21 : kd (g i) = 21 := by
              unfold okI mayS at hoi
              simp [h14, hbr, h13, h1] at hoi
              exact hoi.2
            exact from_and g n A c hF hk m ih i p q ts s w T cT hi hm hp hq hs hts hL hIns hT hTb h21
end Go.Proofs.Ytmndolojfdekdaa

/-
  Layer 27: the document's own Plain. Made by gen_wyo.py.
-/
namespace Go.Proofs.Ytmndolojfdekdaa
open Go.RowKit Go.Shelf
set_option linter.unusedVariables false

theorem okI_no {v : IV} (h : okI v = false) : xx v = true ∨ (xx v = false ∧ kd v ≠ 1 ∧ kd v ≠ 13 ∧ kd v ≠ 14 ∧ kd v ≠ 21 ∧ kd v < 25) := by
  have h28 : kd v ≤ 28 := (ofF_range _).2
  cases hx : xx v
  · right
    unfold okI mayS brK at h
    rw [hx] at h
    simp at h
    refine ⟨rfl, ?_⟩
    omega
  · exact .inl rfl
theorem okI_yes {v : IV} (h : okI v = true) : xx v = false ∧ (kd v = 1 ∨ kd v = 13 ∨ kd v = 14 ∨ kd v = 21 ∨ brK (kd v) = true) := by
  unfold okI mayS at h
  simp only [Bool.and_eq_true, Bool.or_eq_true, beq_iff_eq, Bool.not_eq_true'] at h
  refine ⟨h.1, ?_⟩
  rcases h.2 with (((h | h) | h) | h) | h
  · exact .inl h
  · exact .inr (.inr (.inr (.inl h)))
  · exact .inr (.inl h)
  · exact .inr (.inr (.inl h))
  · exact .inr (.inr (.inr (.inr h)))
theorem lodS_nil {g : Nat → IV} {k : Nat} (h : nexts (g k) k = []) : lodS g (k + 1) = lodS g k := by
  funext j
  show (lodS g k j || (lodS g k k && !(kd (g k) == 1) && (nexts (g k) k).contains j)) = _
  rw [h]
  simp
theorem plainB_bad {g : Nat → IV} {n k : Nat} (hk : k < n) (h : lodBad g k = true) : plainB g n = false := by
  unfold plainB
  rw [loadB_no hk h]
  simp
theorem plainB_err {g : Nat → IV} {n : Nat} (h : (checkF g n).2 ≠ 0) : plainB g n = false := by
  unfold plainB
  rw [decide_eq_false h]
  rfl
set_option maxRecDepth 100000 in
set_option maxHeartbeats 16000000 in
theorem rplain_any (A : Option Addr) (n c : Nat) (g : Nat → IV) (w : World) (hr : Ins w w.heap.size A n c g) (hn : n ≤ 4096) :
    Calls Try.prog 21 #[.slice A n c] w fun e w' => e = .returned (.bool (plainB g n)) ∧ Below w.heap.size w w' := by
  have hc := refCheck_any A n c g w hr hn
  obtain ⟨y0, hy0⟩ : ∃ y, (checkF g n).1 = y := ⟨_, rfl⟩
  obtain ⟨y, hy⟩ : ∃ y, (checkF g n).2 = y := ⟨_, rfl⟩
  rw [hy0, hy] at hc
  have HC := Lib.hid hc
  have HI := Lib.hid hr
  clear hc hr hy0
  by_cases he : y = 0
  · subst he
    obtain ⟨f0, f1, f2, f3⟩ := checkF_facts hy
    have HF : Hid (Fmd g n) := Lib.hid ⟨f0, f1, f2, f3⟩
    have HPO : Hid ((∀ i, i < n → okI (g i) = true) → plainB g n = loadB g n) := Lib.hid (plainB_of hy)
    have hmk := mk_bols n hn
    have hn0 : (0 : Int) < (n : Int) := by omega
    have i0 : (0 : Int) ≤ 0 := Int.le_refl _
    clear f1 f2 f3 hy
    go_enter Try.func21, Try.ntmps21
    go_wp2_with (go_at_call 12
                 refine HC.out.mono ?_
                 rintro e w1 ⟨rfl, hB1⟩
                 have hr0 : RowC (w1.alloc (.cells (bolRow n fun _ => false) 4)) w1.heap.size (bolRow n fun _ => false) 4 := RowC.new _ _ _ _ rfl
                 have p0 := hr0.cell 0 _ (bolRow_at n _ 0 f0)
                 have ff0 := hr0.frozen 0
                 have HB1 := Lib.hid hB1
                 clear hr0 hB1)
    clear hmk
    go_loopw [6] (fun i wr => ∃ k : Nat, k ≤ n ∧ i = .int .i64 k ∧ Below w.heap.size w wr ∧ Hid (RowC wr w1.heap.size (bolRow n (lodS g k)) 4) ∧ Hid (∀ j, j < k → okI (g j) = true) ∧ Hid (∀ j, j < k → lodBad g j = false))
      (fun i _ => n - (intOf i).toNat)
    case atStart => exact ⟨0, Nat.zero_le _, rfl, HB1.out.alloc HB1.out.size _, Lib.hid (by
        have e : (fun i => if i = 0 then true else (fun _ => false) i) = lodS g 0 := by
          funext i
          show (if i = 0 then true else false) = (i == 0)
          by_cases h : i = 0 <;> simp [h]
        rw [bolRow_set, e]
        exact RowC.new _ _ _ _ rfl), Lib.hid fun j hj => by omega, Lib.hid fun j hj => by omega⟩
    case round =>
      clear p0 ff0
      obtain ⟨k, hk, rfl, hB, HR, HNO, HNB⟩ := hrel
      have HB := Lib.hid hB
      by_cases hlt : k < n
      · obtain ⟨b, o, rfl, hbl, hcc⟩ := (HI.out.below hB).at_ (by omega)
        obtain ⟨q0, q1, q2, q3⟩ := hcc k hlt
        obtain ⟨v, hv⟩ : ∃ v, g k = v := ⟨_, rfl⟩
        rw [hv] at q0 q1 q2 q3
        have hbl : b < wr.heap.size := Nat.lt_of_lt_of_le hbl hB.size
        have hok : v.ok := by rw [← hv]; exact HI.out.2 k hlt
        have hvk : v.k < 4294967296 := hok.2.2.2
        have i1 : (0 : Int) ≤ (k : Int) := by omega
        have i2 : (k : Int) < (n : Int) := by omega
        have HOF : Hid (∀ W, Calls Try.prog 41 #[.int .u16 v.c] W fun e w' => e = .returned (.tuple #[.int .i64 (kd v), .bool (xx v)]) ∧ Below W.heap.size W w') := Lib.hid (refOf_v v hok)
        have HLB : Hid (lodBad g k = (lodS g k k && (kd v == 21 || brK (kd v)))) := Lib.hid (by rw [← hv]; rfl)
        have HLS : Hid ((lodS g k k && !(kd v == 1)) = false → lodS g (k + 1) = lodS g k) := Lib.hid fun h => lodS_same (by rw [hv]; exact h)
        have HLN : Hid (∀ j, lodS g (k + 1) j = (lodS g k j || (lodS g k k && !(kd v == 1) && (nexts v k).contains j))) := Lib.hid fun j => by rw [← hv]; rfl
        have HPL : Hid (lodBad g k = true → plainB g n = false) := Lib.hid (plainB_bad hlt)
        have HPK : Hid (okI v = false → plainB g n = false) := Lib.hid fun h => plainB_kind hlt (by rw [hv]; exact h)
        have HNX : Hid (∀ to ∈ nexts v k, to < n) := Lib.hid fun to h => next_lt HF.out hlt (by rw [hv]; exact h)
        have HLZ' : Hid (nexts v k = [] → lodS g (k + 1) = lodS g k) := Lib.hid fun h => lodS_nil (by rw [hv]; exact h)
        have HOV : Hid (okI (g k) = okI v) := Lib.hid (by rw [hv])
        obtain ⟨S, hS⟩ : ∃ S, lodS g k = S := ⟨_, rfl⟩
        rw [hS] at HR HLB HLS HLN HLZ'
        have HR0 := Lib.hid (HR.out.cell k _ (bolRow_at n S k hlt))
        clear hcc hB hok
        by_cases hoi : okI v = true
        · have HOKV : okI (g k) = true := by rw [HOV.out]; exact hoi
          obtain ⟨hx, hK⟩ := okI_yes hoi
          rw [hx] at HOF
          rcases hK with hK | hK | hK | hK | hK
          · rw [hK] at HOF HLB HLS HLN
            clear hK hoi hx hv hS HLZ' HPK HNX HLN
            cases hSk : S k
            · rw [hSk] at HLB HR0
              as_aux_lemma =>
                go_wp2_with (go_at_call 41; refine (HOF.out _).mono ?_; rintro e w2 ⟨rfl, hB2⟩; have s0 := (HR.out.below hB2 HR.out.lt).cell k _ (bolRow_at n S k hlt); have q3' := (hB2.cell (p := ⟨b, o + k * 4 + 3, none⟩) hbl).trans q3; have HB2 := Lib.hid (HB.out.trans (hB2.mono HB.out.size)); have HR2 := Lib.hid (HR.out.below hB2 HR.out.lt); skip; clear hB2)
                exact ⟨⟨k + 1, by omega, by go_num, HB2.out, by rw [HLS.out (by rw [hSk]; rfl)]; exact HR2, Lib.hid fun j hj => by
                  by_cases e : j = k
                  · subst e; exact HOKV
                  · exact HNO.out j (by omega), Lib.hid fun j hj => by
                  by_cases e : j = k
                  · subst e; rw [HLB.out]; rfl
                  · exact HNB.out j (by omega)⟩, by simp [intOf]; omega⟩
            · rw [hSk] at HLB HR0
              as_aux_lemma =>
                go_wp2_with (go_at_call 41; refine (HOF.out _).mono ?_; rintro e w2 ⟨rfl, hB2⟩; have s0 := (HR.out.below hB2 HR.out.lt).cell k _ (bolRow_at n S k hlt); have q3' := (hB2.cell (p := ⟨b, o + k * 4 + 3, none⟩) hbl).trans q3; have HB2 := Lib.hid (HB.out.trans (hB2.mono HB.out.size)); have HR2 := Lib.hid (HR.out.below hB2 HR.out.lt); skip; clear hB2)
                exact ⟨⟨k + 1, by omega, by go_num, HB2.out, by rw [HLS.out (by rw [hSk]; rfl)]; exact HR2, Lib.hid fun j hj => by
                  by_cases e : j = k
                  · subst e; exact HOKV
                  · exact HNO.out j (by omega), Lib.hid fun j hj => by
                  by_cases e : j = k
                  · subst e; rw [HLB.out]; rfl
                  · exact HNB.out j (by omega)⟩, by simp [intOf]; omega⟩
          · have hnx := nx_ja hK k
            have hto := HNX.out (k + 1 + v.k) (by rw [hnx]; simp)
            rw [hnx] at HLN
            rw [hK] at HOF HLB HLS HLN
            obtain ⟨to, hte⟩ : ∃ t, k + 1 + v.k = t := ⟨_, rfl⟩
            rw [hte] at hto HLN
            have tadd : (k : Int) + 1 + (v.k : Int) = (to : Int) := by omega
            have t0 : (0 : Int) ≤ (to : Int) := by omega
            have t1 : (to : Int) < (n : Int) := by omega
            clear hK hoi hx hv hS HLZ' HPK HNX hnx
            cases hSk : S k
            · rw [hSk] at HLB HR0
              as_aux_lemma =>
                go_wp2_with (go_at_call 41; refine (HOF.out _).mono ?_; rintro e w2 ⟨rfl, hB2⟩; have s0 := (HR.out.below hB2 HR.out.lt).cell k _ (bolRow_at n S k hlt); have q3' := (hB2.cell (p := ⟨b, o + k * 4 + 3, none⟩) hbl).trans q3; have HB2 := Lib.hid (HB.out.trans (hB2.mono HB.out.size)); have HR2 := Lib.hid (HR.out.below hB2 HR.out.lt); skip; clear hB2)
                exact ⟨⟨k + 1, by omega, by go_num, HB2.out, by rw [HLS.out (by rw [hSk]; rfl)]; exact HR2, Lib.hid fun j hj => by
                  by_cases e : j = k
                  · subst e; exact HOKV
                  · exact HNO.out j (by omega), Lib.hid fun j hj => by
                  by_cases e : j = k
                  · subst e; rw [HLB.out]; rfl
                  · exact HNB.out j (by omega)⟩, by simp [intOf]; omega⟩
            · rw [hSk] at HLB HLN HR0
              as_aux_lemma =>
                go_wp2_with (go_at_call 41; refine (HOF.out _).mono ?_; rintro e w2 ⟨rfl, hB2⟩; have s0 := (HR.out.below hB2 HR.out.lt).cell k _ (bolRow_at n S k hlt); have q3' := (hB2.cell (p := ⟨b, o + k * 4 + 3, none⟩) hbl).trans q3; have HB2 := Lib.hid (HB.out.trans (hB2.mono HB.out.size)); have HR2 := Lib.hid (HR.out.below hB2 HR.out.lt); have f0 := HR2.out.frozen to; have e0 := HR2.out.cell to _ (bolRow_at n S to hto); clear hB2)
                exact ⟨⟨k + 1, by omega, by go_num, HB2.out.setCell (p := ⟨w1.heap.size, to, none⟩) HB1.out.size _, Lib.hid (by
                  have h := HR2.out.set to (.bool true)
                  rw [bolRow_set] at h
                  have e : (fun i => if i = to then true else S i) = lodS g (k + 1) := by
                    funext j
                    rw [HLN.out]
                    by_cases hj : j = to
                    · subst hj; simp
                    · simp [hj]
                  rw [e] at h
                  exact h), Lib.hid fun j hj => by
                  by_cases e : j = k
                  · subst e; exact HOKV
                  · exact HNO.out j (by omega), Lib.hid fun j hj => by
                  by_cases e : j = k
                  · subst e; rw [HLB.out]; rfl
                  · exact HNB.out j (by omega)⟩, by simp [intOf]; omega⟩
          · have hnx := nx_ret hK k
            have HLZ : Hid (lodS g (k + 1) = S) := Lib.hid (HLZ'.out hnx)
            rw [hK] at HOF HLB HLS HLN
            clear hK hoi hx hv hS HLZ' HPK HNX hnx HLN
            cases hSk : S k
            · rw [hSk] at HLB HR0
              as_aux_lemma =>
                go_wp2_with (go_at_call 41; refine (HOF.out _).mono ?_; rintro e w2 ⟨rfl, hB2⟩; have s0 := (HR.out.below hB2 HR.out.lt).cell k _ (bolRow_at n S k hlt); have q3' := (hB2.cell (p := ⟨b, o + k * 4 + 3, none⟩) hbl).trans q3; have HB2 := Lib.hid (HB.out.trans (hB2.mono HB.out.size)); have HR2 := Lib.hid (HR.out.below hB2 HR.out.lt); skip; clear hB2)
                exact ⟨⟨k + 1, by omega, by go_num, HB2.out, by rw [HLS.out (by rw [hSk]; rfl)]; exact HR2, Lib.hid fun j hj => by
                  by_cases e : j = k
                  · subst e; exact HOKV
                  · exact HNO.out j (by omega), Lib.hid fun j hj => by
                  by_cases e : j = k
                  · subst e; rw [HLB.out]; rfl
                  · exact HNB.out j (by omega)⟩, by simp [intOf]; omega⟩
            · rw [hSk] at HLB HR0
              as_aux_lemma =>
                go_wp2_with (go_at_call 41; refine (HOF.out _).mono ?_; rintro e w2 ⟨rfl, hB2⟩; have s0 := (HR.out.below hB2 HR.out.lt).cell k _ (bolRow_at n S k hlt); have q3' := (hB2.cell (p := ⟨b, o + k * 4 + 3, none⟩) hbl).trans q3; have HB2 := Lib.hid (HB.out.trans (hB2.mono HB.out.size)); have HR2 := Lib.hid (HR.out.below hB2 HR.out.lt); skip; clear hB2)
                exact ⟨⟨k + 1, by omega, by go_num, HB2.out, by rw [HLZ.out]; exact HR2, Lib.hid fun j hj => by
                  by_cases e : j = k
                  · subst e; exact HOKV
                  · exact HNO.out j (by omega), Lib.hid fun j hj => by
                  by_cases e : j = k
                  · subst e; rw [HLB.out]; rfl
                  · exact HNB.out j (by omega)⟩, by simp [intOf]; omega⟩
          · rw [hK] at HOF HLB HLS HLN
            clear hK hoi hx hv hS HLZ' HPK HNX HLN
            cases hSk : S k
            · rw [hSk] at HLB HR0
              as_aux_lemma =>
                go_wp2_with (go_at_call 41; refine (HOF.out _).mono ?_; rintro e w2 ⟨rfl, hB2⟩; have s0 := (HR.out.below hB2 HR.out.lt).cell k _ (bolRow_at n S k hlt); have q3' := (hB2.cell (p := ⟨b, o + k * 4 + 3, none⟩) hbl).trans q3; have HB2 := Lib.hid (HB.out.trans (hB2.mono HB.out.size)); have HR2 := Lib.hid (HR.out.below hB2 HR.out.lt); skip; clear hB2)
                exact ⟨⟨k + 1, by omega, by go_num, HB2.out, by rw [HLS.out (by rw [hSk]; rfl)]; exact HR2, Lib.hid fun j hj => by
                  by_cases e : j = k
                  · subst e; exact HOKV
                  · exact HNO.out j (by omega), Lib.hid fun j hj => by
                  by_cases e : j = k
                  · subst e; rw [HLB.out]; rfl
                  · exact HNB.out j (by omega)⟩, by simp [intOf]; omega⟩
            · rw [hSk] at HLB HR0
              as_aux_lemma =>
                go_wp2_with (go_at_call 41; refine (HOF.out _).mono ?_; rintro e w2 ⟨rfl, hB2⟩; have s0 := (HR.out.below hB2 HR.out.lt).cell k _ (bolRow_at n S k hlt); have q3' := (hB2.cell (p := ⟨b, o + k * 4 + 3, none⟩) hbl).trans q3; have HB2 := Lib.hid (HB.out.trans (hB2.mono HB.out.size)); have HR2 := Lib.hid (HR.out.below hB2 HR.out.lt); skip; clear hB2)
                go_ret
                exact ⟨by rw [HPL.out (by rw [HLB.out]; rfl)]; rfl, HB2.out⟩
          · obtain ⟨e14, e15, e13, e1, e21⟩ := brK_ne hK
            have e25 : kd v ≥ 25 := by
              unfold brK at hK
              simp only [Bool.or_eq_true, beq_iff_eq] at hK
              omega
            rw [hK] at HLB
            obtain ⟨K, hKe⟩ : ∃ K, kd v = K := ⟨_, rfl⟩
            rw [hKe] at e14 e13 e1 e21 e25 HOF HLB HLS
            rw [Bool.or_true] at HLB
            clear hK hKe hoi hx hv hS HLZ' HPK HNX HLN e15
            have b1 : (K != 1) = true := by simp [e1]
            have b13 : (K != 13) = true := by simp [e13]
            have b14 : (K != 14) = true := by simp [e14]
            have b21 : (K != 21) = true := by simp [e21]
            have c21 : (K == 21) = false := by simp [e21]
            have c13 : (K == 13) = false := by simp [e13]
            have c25 : ¬ K < 25 := by omega
            have c25' : K ≥ 25 := by omega
            have c25'' : (25 : Int) ≤ K := by omega
            cases hSk : S k
            · rw [hSk] at HLB HR0
              as_aux_lemma =>
                go_wp2_with (go_at_call 41; refine (HOF.out _).mono ?_; rintro e w2 ⟨rfl, hB2⟩; have s0 := (HR.out.below hB2 HR.out.lt).cell k _ (bolRow_at n S k hlt); have q3' := (hB2.cell (p := ⟨b, o + k * 4 + 3, none⟩) hbl).trans q3; have HB2 := Lib.hid (HB.out.trans (hB2.mono HB.out.size)); have HR2 := Lib.hid (HR.out.below hB2 HR.out.lt); skip; clear hB2)
                exact ⟨⟨k + 1, by omega, by go_num, HB2.out, by rw [HLS.out (by rw [hSk]; rfl)]; exact HR2, Lib.hid fun j hj => by
                  by_cases e : j = k
                  · subst e; exact HOKV
                  · exact HNO.out j (by omega), Lib.hid fun j hj => by
                  by_cases e : j = k
                  · subst e; rw [HLB.out]; rfl
                  · exact HNB.out j (by omega)⟩, by simp [intOf]; omega⟩
            · rw [hSk] at HLB HR0
              as_aux_lemma =>
                go_wp2_with (go_at_call 41; refine (HOF.out _).mono ?_; rintro e w2 ⟨rfl, hB2⟩; have s0 := (HR.out.below hB2 HR.out.lt).cell k _ (bolRow_at n S k hlt); have q3' := (hB2.cell (p := ⟨b, o + k * 4 + 3, none⟩) hbl).trans q3; have HB2 := Lib.hid (HB.out.trans (hB2.mono HB.out.size)); have HR2 := Lib.hid (HR.out.below hB2 HR.out.lt); skip; clear hB2)
                go_ret
                exact ⟨by rw [HPL.out (by rw [HLB.out]; rfl)]; rfl, HB2.out⟩
        · have hoi' : okI v = false := by simpa using hoi
          have HZ := Lib.hid (HPK.out hoi')
          rcases okI_no hoi' with hx | ⟨hx, e1, e13, e14, e21, e25⟩
          · rw [hx] at HOF
            generalize kd v = K at *
            clear hoi hoi' hx HOV HPK HLS HLN HLB hv
            go_wp2_with (go_at_call 41; refine (HOF.out _).mono ?_; rintro e w2 ⟨rfl, hB2⟩; have HB2 := Lib.hid (HB.out.trans (hB2.mono HB.out.size)); clear hB2)
            go_ret
            exact ⟨by rw [HZ.out]; rfl, HB2.out⟩
          · rw [hx] at HOF
            generalize kd v = K at *
            have b1 : (K != 1) = true := by simp [e1]
            have b13 : (K != 13) = true := by simp [e13]
            have b14 : (K != 14) = true := by simp [e14]
            have b21 : (K != 21) = true := by simp [e21]
            clear hoi hoi' hx HOV HPK HLS HLN HLB hv
            go_wp2_with (go_at_call 41; refine (HOF.out _).mono ?_; rintro e w2 ⟨rfl, hB2⟩; have HB2 := Lib.hid (HB.out.trans (hB2.mono HB.out.size)); clear hB2)
            go_ret
            exact ⟨by rw [HZ.out]; rfl, HB2.out⟩
      · obtain rfl : k = n := by omega
        have HZ : Hid (plainB g k = true) := Lib.hid (by rw [HPO.out HNO.out, loadB_yes HNB.out])
        clear hB
        go_wp2
        go_ret
        exact ⟨by rw [HZ.out]; rfl, HB.out⟩
  · have HZ : Hid (plainB g n = false) := Lib.hid (plainB_err (by rw [hy]; exact he))
    have hyz : ((y : Int) != 0) = true := by simp; omega
    clear hy he
    go_enter Try.func21, Try.ntmps21
    go_wp2_with (go_at_call 12; refine HC.out.mono ?_; rintro e w1 ⟨rfl, hB1⟩; have HB1 := Lib.hid hB1; clear hB1)
    go_ret
    exact ⟨by rw [HZ.out]; rfl, HB1.out⟩
end Go.Proofs.Ytmndolojfdekdaa

/-
  Layer 27: how many ways the document counts. (strainerref27.Many) Made by gen_wyp.py.
-/
namespace Go.Proofs.Ytmndolojfdekdaa
open Go.RowKit Go.Shelf
set_option linter.unusedVariables false

def accM (F : Nat → Nat) (l : List Nat) (b : Nat) : Nat := l.foldl (fun a t => min (a + F t) 5000) b
theorem accM_snoc (F : Nat → Nat) (l : List Nat) (b to : Nat) : accM F (l ++ [to]) b = min (accM F l b + F to) 5000 := by simp [accM]
theorem accM_le (F : Nat → Nat) : ∀ (l : List Nat) (b : Nat), b ≤ 5000 → accM F l b ≤ 5000
  | [], _, h => h
  | x :: l, _, h => accM_le F l _ (Nat.min_le_right _ _)
theorem many_step {g : Nat → IV} {n : Nat} (F : Fmd g n) (hk : ∀ i, i < n → okI (g i) = true) {y : Nat} (hy : y < n) {M : Nat → Nat} (hM : ∀ t, y < t → t < n → M t = min (pN g n t) 5000) :
    accM M (nexts (g y) y) (if nexts (g y) y = [] then 1 else 0) = min (pN g n y) 5000 := by
  rw [pN_eq F hk hy]
  have hnx : ∀ to ∈ nexts (g y) y, M to = min (pN g n to) 5000 := fun to ht => hM to (next_gt ht) (next_lt F hy ht)
  by_cases h1 : kd (g y) = 14
  · rw [if_pos h1, nx_ret h1]; rfl
  rw [if_neg h1]
  by_cases h2 : brK (kd (g y)) = true
  · have e := nx_br h2 y
    rw [if_pos h2, e, if_neg (by simp)]
    simp only [accM, List.foldl_cons, List.foldl_nil]
    rw [hnx _ (by rw [e]; simp), hnx _ (by rw [e]; simp)]
    omega
  rw [if_neg h2]
  by_cases h3 : kd (g y) = 13
  · have e := nx_ja h3 y
    rw [if_pos h3, e, if_neg (by simp)]
    simp only [accM, List.foldl_cons, List.foldl_nil]
    rw [hnx _ (by rw [e]; simp)]
    omega
  rw [if_neg h3]
  have e := nx_on h1 (okI_15 (hk y hy)) (by simpa using h2) h3 y
  rw [e, if_neg (by simp)]
  simp only [accM, List.foldl_cons, List.foldl_nil]
  rw [hnx _ (by rw [e]; simp)]
  omega
/-- What was counted, from a place on. -/
def manF (g : Nat → IV) (n r : Nat) (i : Nat) : Nat := if r ≤ i then min (pN g n i) 5000 else 0
set_option maxRecDepth 100000 in
set_option maxHeartbeats 16000000 in
theorem many_any (A : Option Addr) (n c : Nat) (g : Nat → IV) (w : World) (hr : Ins w w.heap.size A n c g) (hp : plainB g n = true) :
    Calls Try.prog 24 #[.slice A n c] w fun e w' => (∃ B, e = .returned (.slice (some ⟨B, 0, none⟩) n n) ∧ w'.cell? ⟨B, 0, none⟩ = some (.int .i64 ((min (pN g n 0) 5000 : Nat) : Int))) ∧ Below w.heap.size w w' := by
  obtain ⟨hF, hk, _⟩ := plainB_facts hp
  have hn := hF.le
  have hn0 := hF.pos
  have HI := Lib.hid hr
  have hmk := mk_ints n hn
  obtain ⟨B, hB⟩ : ∃ B, w.heap.size = B := ⟨_, rfl⟩
  have HR0 : Hid (RowC (w.alloc (.cells (intRow n fun _ => 0) 3)) B (intRow n (manF g n n)) 3) := Lib.hid (by
    have e : intRow n (manF g n n) = intRow n fun _ => 0 := by
      unfold intRow
      congr 1
      refine List.map_congr_left fun i hi => ?_
      have := List.mem_range.1 hi
      unfold manF
      rw [if_neg (by omega)]
    rw [e]
    exact RowC.new _ _ _ _ hB.symm)
  have HB0 : Hid (Below w.heap.size w (w.alloc (.cells (intRow n fun _ => 0) 3))) := Lib.hid ((Below.refl _ _).alloc (Nat.le_refl _) _)
  have HST : Hid (∀ y, y < n → ∀ M : Nat → Nat, (∀ t, y < t → t < n → M t = min (pN g n t) 5000) → accM M (nexts (g y) y) (if nexts (g y) y = [] then 1 else 0) = min (pN g n y) 5000) := Lib.hid fun y hy M hM => many_step hF hk hy hM
  have HF := Lib.hid hF
  have n1 : (0 : Int) ≤ (n : Int) - 1 := by omega
  clear hr hp hF hk
  go_enter Try.func24, Try.ntmps24
  go_wp2
  try rw [hB]
  clear hmk
  go_loopw [4] (fun i wr => ∃ r : Nat, r ≤ n ∧ i = .int .i64 ((r : Int) - 1) ∧ Hid (Below w.heap.size w wr) ∧ Hid (RowC wr B (intRow n (manF g n r)) 3))
    (fun i _ => (intOf i + 1).toNat)
  case atStart => exact ⟨n, Nat.le_refl _, by first | rfl | (congr 1; omega), HB0, HR0⟩
  case round =>
    clear HB0 HR0
    obtain ⟨r, hrn, rfl, HB, HR⟩ := hrel
    by_cases hlt : 0 < r
    · obtain ⟨y, rfl⟩ : ∃ y, r = y + 1 := ⟨r - 1, by omega⟩
      have ey : ((y + 1 : Nat) : Int) - 1 = (y : Int) := by omega
      rw [ey]
      have hyn : y < n := hrn
      have i1 : (0 : Int) ≤ (y : Int) := by omega
      have i2 : (y : Int) < (n : Int) := by omega
      have i3 : (y : Int) ≥ 0 := by omega
      have HNX := Lib.hid (refNext_any A n c g wr ((HI.out.below HB.out).more HB.out.size) y hyn hn)
      have HFN : Hid (∀ t, y < t → t < n → manF g n (y + 1) t = min (pN g n t) 5000) := Lib.hid fun t h1 h2 => by unfold manF; rw [if_pos (by omega)]
      have HF0 : Hid (manF g n (y + 1) y = 0) := Lib.hid (by unfold manF; rw [if_neg (by omega)])
      have HFS : Hid (∀ z, z = min (pN g n y) 5000 → ∀ i, (if i = y then z else manF g n (y + 1) i) = manF g n y i) := Lib.hid fun z hz i => by
        subst hz
        unfold manF
        by_cases h : i = y
        · subst h; rw [if_pos rfl, if_pos (Nat.le_refl _)]
        · rw [if_neg h]
          by_cases h2 : y + 1 ≤ i
          · rw [if_pos h2, if_pos (by omega)]
          · rw [if_neg h2, if_neg (by omega)]
      have HLT : Hid (∀ to ∈ nexts (g y) y, y < to ∧ to < n) := Lib.hid fun to ht => ⟨next_gt ht, next_lt HF.out hyn ht⟩
      have HSTy := Lib.hid (HST.out y hyn _ HFN.out)
      have HMle : Hid (∀ t, manF g n (y + 1) t ≤ 5000) := Lib.hid fun t => by unfold manF; split <;> omega
      obtain ⟨M, hM⟩ : ∃ M, manF g n (y + 1) = M := ⟨_, rfl⟩
      rw [hM] at HR HFN HF0 HFS HSTy HMle
      have HMW := Lib.hid hM
      clear hM
      go_wp2_with fail
      refine HNX.out.mono ?_
      rintro e w4 ⟨lA, m, rfl, ⟨hml, hcel, hblk⟩, hB4⟩
      obtain ⟨ll, hll⟩ : ∃ ll, nexts (g y) y = ll := ⟨_, rfl⟩
      rw [hll] at hml hcel HLT HSTy
      have HML := Lib.hid hml
      have HCEL := Lib.hid hcel
      have HBLK := Lib.hid hblk
      have HB4 := Lib.hid (HB.out.trans (hB4.mono HB.out.size))
      have HR4 := Lib.hid (HR.out.below hB4 HR.out.lt)
      have hBlt : B < wr.heap.size := HR.out.lt
      have HLEN : Hid (ll = [] ↔ m = 0) := Lib.hid (by rw [hml]; exact List.length_eq_zero_iff.symm)
      clear hml hcel hblk hB4 HNX HR HMW hll
      by_cases hm0 : m = 0
      · have hl0 := HLEN.out.2 hm0
        subst hm0
        have f0 := HR4.out.frozen y
        have e0 := HR4.out.cell y _ (intRow_at n M y hyn)
        have HRZ : Hid (RowC (w4.setCell ⟨B, y, none⟩ (.int .i64 1)) B (intRow n (manF g n y)) 3) := Lib.hid (by
          have h := HR4.out.set y (.int .i64 ((1 : Nat) : Int))
          rw [intRow_set] at h
          have e : (fun i => if i = y then 1 else M i) = manF g n y := funext (HFS.out 1 (by rw [← HSTy.out, hl0]; rfl))
          rw [e] at h
          exact h)
        have HBZ := Lib.hid (HB4.out.setCell (p := ⟨B, y, none⟩) (by show w.heap.size ≤ B; omega) (.int .i64 1))
        go_wp2
        go_loopw [6] (fun i w5 => i = .int .i64 0 ∧ w5 = w4.setCell ⟨B, y, none⟩ (.int .i64 1)) (fun i _ => 0)
        case atStart => exact ⟨rfl, rfl⟩
        case round =>
          obtain ⟨rfl, rfl⟩ := hrel
          have j1 : ¬ ((0 : Int) < ((0 : Nat) : Int)) := by omega
          clear e0 f0
          go_wp2
          exact ⟨⟨y, by omega, by first | rfl | go_num, HBZ, HRZ⟩, by simp [intOf] <;> omega⟩
      · have hl0 : ¬ ll = [] := fun h => hm0 (HLEN.out.1 h)
        have j0 : ¬ ((m : Int) = 0) := by omega
        have j0' : ((m : Int) == 0) = false := by simp; omega
        rw [if_neg hl0] at HSTy
        go_wp2
        go_loopw [6] (fun i w5 => ∃ q : Nat, q ≤ m ∧ i = .int .i64 q ∧ But B w4 w5 ∧ Hid (RowC w5 B (intRow n fun j => if j = y then accM M (ll.take q) 0 else M j) 3))
          (fun i _ => m - (intOf i).toNat)
        case atStart => exact ⟨0, Nat.zero_le _, rfl, But.refl _ _, Lib.hid (by
            have e : (fun j => if j = y then accM M (ll.take 0) 0 else M j) = M := by
              funext j
              by_cases h : j = y
              · subst h; rw [if_pos rfl]; exact HF0.out.symm
              · rw [if_neg h]
            rw [e]
            exact HR4.out)⟩
        case round =>
          obtain ⟨q, hq, rfl, hBu, HR5⟩ := hrel
          have HBU := Lib.hid hBu
          obtain ⟨_, hm2⟩ := HCEL.out.le
          unfold maxLen at hm2
          by_cases hq2 : q < m
          · obtain ⟨lb, lo, rfl, hlb, hlc⟩ := HCEL.out.at_ (by omega)
            have hne : lb ≠ B := by
              have h1 := HBLK.out _ rfl
              simp at h1
              omega
            have hc3 := (hBu.cell (p := ⟨lb, lo + q, none⟩) hlb hne).trans (hlc q (by omega))
            have HTK : Hid (ll.take (q + 1) = ll.take q ++ [ll.getD q 0]) := Lib.hid (by
              have := HML.out
              rw [List.take_add_one, List.getD_eq_getElem?_getD, List.getElem?_eq_getElem (by omega)]; rfl)
            have hto := HLT.out (ll.getD q 0) (by
              have := HML.out
              rw [List.getD_eq_getElem?_getD, List.getElem?_eq_getElem (by omega)]; exact List.getElem_mem _)
            generalize ll.getD q 0 = to at *
            obtain ⟨hto1, hto2⟩ := hto
            obtain ⟨bq, hbq⟩ : ∃ b, accM M (ll.take q) 0 = b := ⟨_, rfl⟩
            have hb9 : bq ≤ 5000 := by rw [← hbq]; exact accM_le _ _ _ (by omega)
            have hs9 := HMle.out to
            have HBQ : Hid (accM M (ll.take (q + 1)) 0 = min (bq + M to) 5000) := Lib.hid (by rw [HTK.out, accM_snoc, hbq])
            rw [hbq] at HR5
            have e0 := HR5.out.cell y _ (intRow_at n _ y hyn)
            have e1 := HR5.out.cell to _ (intRow_at n _ to hto2)
            rw [if_pos rfl] at e0
            rw [if_neg (by omega)] at e1
            have f0 := HR5.out.frozen y
            have i4 : (0 : Int) ≤ (q : Int) := by omega
            have i5 : (q : Int) < (m : Int) := by omega
            have i6 : (0 : Int) ≤ (to : Int) := by omega
            have i7 : (to : Int) < (n : Int) := by omega
            obtain ⟨st, hst⟩ : ∃ z, M to = z := ⟨_, rfl⟩
            rw [hst] at e1 hs9 HBQ
            clear hlc hBu hne hbq hst
            go_wp2
            have hwm : IntKind.i64.wrap ((bq : Int) + (st : Int)) = (bq : Int) + (st : Int) := IntWalk.i64_in _ (by omega)
            have hHeld : (fun V : World => V.cell? ⟨B, y, none⟩ = some (.int .i64 (bq : Nat)) ∧ V.cell? ⟨lb, lo + q, none⟩ = some (.int .i64 (to : Nat)) ∧ V.cell? ⟨B, to, none⟩ = some (.int .i64 (st : Nat))) wr.drew := ⟨e0, hc3, e1⟩
            have f0d : wr.drew.frozen? ⟨B, y, none⟩ = false := f0
            have e0d : wr.drew.cell? ⟨B, y, none⟩ = some (.int .i64 (bq : Nat)) := e0
            refine wp_region_E (S := fun V => V.cell? ⟨B, y, none⟩ = some (.int .i64 (bq : Nat)) ∧ V.cell? ⟨lb, lo + q, none⟩ = some (.int .i64 (to : Nat)) ∧ V.cell? ⟨B, to, none⟩ = some (.int .i64 (st : Nat))) 16 (by kernel_rfl) ?_
            refine wpAnyE_take (i := 0) (oi := ({ dst := some 32, op := Op.move (Operand.tmp 3), type := 32, pos := "ref.go:58", after := #[], guard := none } : Oper)) (v := ?vf0x1) rfl (by kernel_rfl) (by decide) (by kernel_rfl) (fun _ _ _ h => h) (by rfl) ?hf0x1 hHeld ?rf0x1
            case hf0x1 =>
              intro V hV
              obtain ⟨s0, s1, s2⟩ := hV
              go_simp
              all_goals with_reducible rfl
            try simp only [Act.put, List.setIfInBounds_toArray, List.set_cons_zero, List.set_cons_succ]
            refine wpAnyE_take (i := 1) (oi := ({ dst := some 33, op := Op.move (Operand.tmp 4), type := 3, pos := "ref.go:58", after := #[], guard := none } : Oper)) (v := ?vf1x2) rfl (by kernel_rfl) (by decide) (by kernel_rfl) (fun _ _ _ h => h) (by rfl) ?hf1x2 hHeld ?rf1x2
            case hf1x2 =>
              intro V hV
              obtain ⟨s0, s1, s2⟩ := hV
              go_simp
              all_goals with_reducible rfl
            try simp only [Act.put, List.setIfInBounds_toArray, List.set_cons_zero, List.set_cons_succ]
            refine wpAnyE_take (i := 2) (oi := ({ dst := some 34, op := Op.move (Operand.tmp 3), type := 32, pos := "ref.go:58", after := #[], guard := none } : Oper)) (v := ?vf2x3) rfl (by kernel_rfl) (by decide) (by kernel_rfl) (fun _ _ _ h => h) (by rfl) ?hf2x3 hHeld ?rf2x3
            case hf2x3 =>
              intro V hV
              obtain ⟨s0, s1, s2⟩ := hV
              go_simp
              all_goals with_reducible rfl
            try simp only [Act.put, List.setIfInBounds_toArray, List.set_cons_zero, List.set_cons_succ]
            refine wpAnyE_take (i := 3) (oi := ({ dst := some 35, op := Op.move (Operand.tmp 4), type := 3, pos := "ref.go:58", after := #[], guard := none } : Oper)) (v := ?vf3x4) rfl (by kernel_rfl) (by decide) (by kernel_rfl) (fun _ _ _ h => h) (by rfl) ?hf3x4 hHeld ?rf3x4
            case hf3x4 =>
              intro V hV
              obtain ⟨s0, s1, s2⟩ := hV
              go_simp
              all_goals with_reducible rfl
            try simp only [Act.put, List.setIfInBounds_toArray, List.set_cons_zero, List.set_cons_succ]
            refine wpAnyE_take (i := 4) (oi := ({ dst := some 36, op := Op.indexAddr 32 (Operand.tmp 34) (Operand.tmp 35), type := 0, pos := "ref.go:58", after := #[{ on := 2, ground := Ground.data }, { on := 3, ground := Ground.data }], guard := none } : Oper)) (v := ?vf4x5) rfl (by kernel_rfl) (by decide) (by kernel_rfl) (fun _ _ _ h => h) (by rfl) ?hf4x5 hHeld ?rf4x5
            case hf4x5 =>
              intro V hV
              obtain ⟨s0, s1, s2⟩ := hV
              go_simp
              all_goals with_reducible rfl
            try simp only [Act.put, List.setIfInBounds_toArray, List.set_cons_zero, List.set_cons_succ]
            refine wpAnyE_take (i := 5) (oi := ({ dst := some 37, op := Op.load 3 (Operand.tmp 36), type := 3, pos := "ref.go:58", after := #[{ on := 4, ground := Ground.data }], guard := none } : Oper)) (v := ?vf5x6) rfl (by kernel_rfl) (by decide) (by kernel_rfl) (fun _ _ _ h => h) (by rfl) ?hf5x6 hHeld ?rf5x6
            case hf5x6 =>
              intro V hV
              obtain ⟨s0, s1, s2⟩ := hV
              go_simp
              all_goals with_reducible rfl
            try simp only [Act.put, List.setIfInBounds_toArray, List.set_cons_zero, List.set_cons_succ]
            refine wpAnyE_take (i := 6) (oi := ({ dst := some 38, op := Op.move (Operand.tmp 3), type := 32, pos := "ref.go:58", after := #[], guard := none } : Oper)) (v := ?vf6x7) rfl (by kernel_rfl) (by decide) (by kernel_rfl) (fun _ _ _ h => h) (by rfl) ?hf6x7 hHeld ?rf6x7
            case hf6x7 =>
              intro V hV
              obtain ⟨s0, s1, s2⟩ := hV
              go_simp
              all_goals with_reducible rfl
            try simp only [Act.put, List.setIfInBounds_toArray, List.set_cons_zero, List.set_cons_succ]
            refine wpAnyE_take (i := 7) (oi := ({ dst := some 39, op := Op.move (Operand.tmp 5), type := 32, pos := "ref.go:58", after := #[], guard := none } : Oper)) (v := ?vf7x8) rfl (by kernel_rfl) (by decide) (by kernel_rfl) (fun _ _ _ h => h) (by rfl) ?hf7x8 hHeld ?rf7x8
            case hf7x8 =>
              intro V hV
              obtain ⟨s0, s1, s2⟩ := hV
              go_simp
              all_goals with_reducible rfl
            try simp only [Act.put, List.setIfInBounds_toArray, List.set_cons_zero, List.set_cons_succ]
            refine wpAnyE_take (i := 8) (oi := ({ dst := some 40, op := Op.move (Operand.tmp 6), type := 3, pos := "ref.go:58", after := #[], guard := none } : Oper)) (v := ?vf8x9) rfl (by kernel_rfl) (by decide) (by kernel_rfl) (fun _ _ _ h => h) (by rfl) ?hf8x9 hHeld ?rf8x9
            case hf8x9 =>
              intro V hV
              obtain ⟨s0, s1, s2⟩ := hV
              go_simp
              all_goals with_reducible rfl
            try simp only [Act.put, List.setIfInBounds_toArray, List.set_cons_zero, List.set_cons_succ]
            refine wpAnyE_take (i := 9) (oi := ({ dst := some 41, op := Op.indexAddr 32 (Operand.tmp 39) (Operand.tmp 40), type := 0, pos := "ref.go:58", after := #[{ on := 7, ground := Ground.data }, { on := 8, ground := Ground.data }], guard := none } : Oper)) (v := ?vf9x10) rfl (by kernel_rfl) (by decide) (by kernel_rfl) (fun _ _ _ h => h) (by rfl) ?hf9x10 hHeld ?rf9x10
            case hf9x10 =>
              intro V hV
              obtain ⟨s0, s1, s2⟩ := hV
              go_simp
              all_goals with_reducible rfl
            try simp only [Act.put, List.setIfInBounds_toArray, List.set_cons_zero, List.set_cons_succ]
            refine wpAnyE_take (i := 10) (oi := ({ dst := some 42, op := Op.load 3 (Operand.tmp 41), type := 3, pos := "ref.go:58", after := #[{ on := 9, ground := Ground.data }], guard := none } : Oper)) (v := ?vf10x11) rfl (by kernel_rfl) (by decide) (by kernel_rfl) (fun _ _ _ h => h) (by rfl) ?hf10x11 hHeld ?rf10x11
            case hf10x11 =>
              intro V hV
              obtain ⟨s0, s1, s2⟩ := hV
              go_simp
              all_goals with_reducible rfl
            try simp only [Act.put, List.setIfInBounds_toArray, List.set_cons_zero, List.set_cons_succ]
            refine wpAnyE_take (i := 11) (oi := ({ dst := some 43, op := Op.indexAddr 32 (Operand.tmp 38) (Operand.tmp 42), type := 0, pos := "ref.go:58", after := #[{ on := 6, ground := Ground.data }, { on := 10, ground := Ground.data }], guard := none } : Oper)) (v := ?vf11x12) rfl (by kernel_rfl) (by decide) (by kernel_rfl) (fun _ _ _ h => h) (by rfl) ?hf11x12 hHeld ?rf11x12
            case hf11x12 =>
              intro V hV
              obtain ⟨s0, s1, s2⟩ := hV
              go_simp
              all_goals with_reducible rfl
            try simp only [Act.put, List.setIfInBounds_toArray, List.set_cons_zero, List.set_cons_succ]
            refine wpAnyE_take (i := 12) (oi := ({ dst := some 44, op := Op.load 3 (Operand.tmp 43), type := 3, pos := "ref.go:58", after := #[{ on := 11, ground := Ground.data }], guard := none } : Oper)) (v := ?vf12x13) rfl (by kernel_rfl) (by decide) (by kernel_rfl) (fun _ _ _ h => h) (by rfl) ?hf12x13 hHeld ?rf12x13
            case hf12x13 =>
              intro V hV
              obtain ⟨s0, s1, s2⟩ := hV
              go_simp
              all_goals with_reducible rfl
            try simp only [Act.put, List.setIfInBounds_toArray, List.set_cons_zero, List.set_cons_succ]
            refine wpAnyE_take (i := 13) (oi := ({ dst := some 45, op := Op.binOp BinOp.add 3 (Operand.tmp 37) (Operand.tmp 44) 3, type := 3, pos := "ref.go:58", after := #[{ on := 5, ground := Ground.data }, { on := 12, ground := Ground.data }], guard := none } : Oper)) (v := ?vf13x14) rfl (by kernel_rfl) (by decide) (by kernel_rfl) (fun _ _ _ h => h) (by rfl) ?hf13x14 hHeld ?rf13x14
            case hf13x14 =>
              intro V hV
              obtain ⟨s0, s1, s2⟩ := hV
              go_simp
              all_goals with_reducible rfl
            try simp only [Act.put, List.setIfInBounds_toArray, List.set_cons_zero, List.set_cons_succ]
            refine wpAnyE_take (i := 14) (oi := ({ dst := some 46, op := Op.call { callee := Callee.builtin Builtin.min, args := #[Operand.tmp 45, Operand.const (Value.int IntKind.i64 5000)], argTypes := #[3, 3] }, type := 3, pos := "ref.go:58", after := #[{ on := 13, ground := Ground.data }], guard := none } : Oper)) (v := .int .i64 ((min (bq + st) 5000 : Nat) : Int)) rfl (by kernel_rfl) (by decide) (by kernel_rfl) (fun _ _ _ h => h) (by rfl) ?hf14x15 hHeld ?rf14x15
            case hf14x15 =>
              intro V hV
              obtain ⟨s0, s1, s2⟩ := hV
              go_simp
              (try rw [hwm])
              by_cases h9 : bq + st ≤ 5000
              · rw [Nat.min_eq_left h9, if_neg (by omega)]; omega
              · rw [Nat.min_eq_right (by omega), if_pos (by omega)]; rfl
            try simp only [Act.put, List.setIfInBounds_toArray, List.set_cons_zero, List.set_cons_succ]
            refine wpAnyE_take (i := 15) (oi := ({ dst := some 47, op := Op.indexAddr 32 (Operand.tmp 32) (Operand.tmp 33), type := 0, pos := "ref.go:58", after := #[{ on := 0, ground := Ground.data }, { on := 1, ground := Ground.data }, { on := 0, ground := Ground.phase }, { on := 1, ground := Ground.phase }, { on := 2, ground := Ground.phase }, { on := 3, ground := Ground.phase }, { on := 4, ground := Ground.phase }, { on := 5, ground := Ground.phase }, { on := 6, ground := Ground.phase }, { on := 7, ground := Ground.phase }, { on := 8, ground := Ground.phase }, { on := 9, ground := Ground.phase }, { on := 10, ground := Ground.phase }, { on := 11, ground := Ground.phase }, { on := 12, ground := Ground.phase }, { on := 13, ground := Ground.phase }, { on := 14, ground := Ground.phase }], guard := none } : Oper)) (v := ?vf15x16) rfl (by kernel_rfl) (by decide) (by kernel_rfl) (fun _ _ _ h => h) (by rfl) ?hf15x16 hHeld ?rf15x16
            case hf15x16 =>
              intro V hV
              obtain ⟨s0, s1, s2⟩ := hV
              go_simp
              all_goals with_reducible rfl
            try simp only [Act.put, List.setIfInBounds_toArray, List.set_cons_zero, List.set_cons_succ]
            refine wpAnyE_late (j := 16) (o := ({ dst := none, op := Op.store 3 (Operand.tmp 47) (Operand.tmp 46), type := 0, pos := "ref.go:58", after := #[{ on := 15, ground := Ground.data }, { on := 14, ground := Ground.data }, { on := 0, ground := Ground.phase }, { on := 1, ground := Ground.phase }, { on := 2, ground := Ground.phase }, { on := 3, ground := Ground.phase }, { on := 4, ground := Ground.phase }, { on := 5, ground := Ground.phase }, { on := 6, ground := Ground.phase }, { on := 7, ground := Ground.phase }, { on := 8, ground := Ground.phase }, { on := 9, ground := Ground.phase }, { on := 10, ground := Ground.phase }, { on := 11, ground := Ground.phase }, { on := 12, ground := Ground.phase }, { on := 13, ground := Ground.phase }, { on := 14, ground := Ground.phase }], guard := none } : Oper)) (by kernel_rfl) (by decide) rfl (fun K hK => ?_)
            go_simp
            refine hK.out _ _ ?_
            clear hK K
            try simp only [Act.put, List.setIfInBounds_toArray, List.set_cons_zero, List.set_cons_succ]
            refine wpAnyE_done (by kernel_rfl) ?_ _
            go_wp2
            exact ⟨⟨q + 1, by omega, by go_num, But.drew_ (HBU.out.set y _), Lib.hid (by
              have h := HR5.out.set y (.int .i64 ((min (bq + st) 5000 : Nat) : Int))
              rw [intRow_set] at h
              rw [HBQ.out]
              have e : (fun i => if i = y then min (bq + st) 5000 else if i = y then bq else M i) = fun i => if i = y then min (bq + st) 5000 else M i := by
                funext i
                by_cases hi : i = y
                · rw [if_pos hi, if_pos hi]
                · rw [if_neg hi, if_neg hi, if_neg hi]
              rw [e] at h
              exact h)⟩, by simp [intOf] <;> omega⟩
          · obtain rfl : q = m := by omega
            clear hBu
            have HRZ : Hid (RowC wr B (intRow n (manF g n y)) 3) := Lib.hid (by
              have h := HR5.out
              rw [List.take_of_length_le (by rw [HML.out]; exact Nat.le_refl _)] at h
              have e : (fun i => if i = y then accM M ll 0 else M i) = manF g n y := funext (HFS.out _ HSTy.out)
              rw [e] at h
              exact h)
            have HBZ := Lib.hid (HBU.out.below HB4.out HB4.out.size (show w.heap.size ≤ B by omega))
            go_wp2
            exact ⟨⟨y, by omega, by first | rfl | go_num, HBZ, HRZ⟩, by simp [intOf] <;> omega⟩
    · obtain rfl : r = 0 := by omega
      have e0 := HR.out.cell 0 _ (intRow_at n _ 0 hn0)
      have eM : manF g n 0 0 = min (pN g n 0) 5000 := by unfold manF; rw [if_pos (Nat.le_refl _)]
      rw [eM] at e0
      have i3 : ¬ ((((0 : Nat) : Int) - 1) ≥ 0) := by omega
      go_wp2
      go_ret
      exact ⟨⟨B, rfl, e0⟩, by have h := HB.out; first | exact h | (rw [hB] at h; exact h)⟩
end Go.Proofs.Ytmndolojfdekdaa

/-
  Layer 27: the laws' own same; paths.Plain.
-/
namespace Go.Proofs.Ytmndolojfdekdaa
open Go.RowKit Go.Shelf
set_option linter.unusedVariables false

set_option maxRecDepth 100000 in
set_option maxHeartbeats 8000000 in
theorem plain_any (A : Option Addr) (n c : Nat) (g : Nat → IV) (w : World) (hr : Ins w w.heap.size A n c g) :
    Calls Try.prog 22 #[.slice A n c] w fun e w' => e = .returned (.bool (plainB g n)) ∧ Below w.heap.size w w' := by
  have HP := Lib.hid (placesOf_any A n c g w hr)
  by_cases hp : plainB g n = true
  · have hn0 : (n : Int) > 0 := by have := (plainB_facts hp).1.pos; omega
    have hn0' : (0 : Int) < (n : Int) := hn0
    rw [hp]
    go_enter Try.func22, Try.ntmps22
    go_wp2_with fail
    refine HP.out.mono ?_
    rintro e w1 ⟨⟨hp0, _⟩ | ⟨_, pb, rfl, hO⟩, hB1⟩
    · rw [hp] at hp0; cases hp0
    have HB1 := Lib.hid hB1
    clear hB1 hO HP
    go_wp2
    go_ret
    refine ⟨?_, HB1.out⟩
    show Ending.returned (.bool (decide (0 < n))) = _
    rw [decide_eq_true (by omega)]
  · have hp' : plainB g n = false := by simpa using hp
    rw [hp']
    go_enter Try.func22, Try.ntmps22
    go_wp2_with fail
    refine HP.out.mono ?_
    rintro e w1 ⟨⟨_, rfl⟩ | ⟨hp1, _⟩, hB1⟩
    · have HB1 := Lib.hid hB1
      clear hB1 HP
      go_wp2
      go_ret
      exact ⟨rfl, HB1.out⟩
    · rw [hp'] at hp1; cases hp1
set_option maxRecDepth 100000 in
set_option maxHeartbeats 8000000 in
theorem same27_any (C1 C2 : Option Addr) (c1 c2 tl st vv : Nat) (G : Nat → TV) (w : World) (hl : tl ≤ 1000000) (h1 : Cel w w.heap.size 5 C1 tl c1 (tscell G)) (h2 : Cel w w.heap.size 5 C2 tl c2 (tscell G)) :
    Calls Try.prog 26 #[.agg #[.slice C1 tl c1, .int .i64 st, .int .u32 vv], .agg #[.slice C2 tl c2, .int .i64 st, .int .u32 vv]] w fun e w' => e = .returned (.bool true) ∧ Below w.heap.size w w' := by
  obtain ⟨W, hW⟩ : ∃ W, (w.alloc (.cells #[.slice C1 tl c1, .int .i64 st, .int .u32 vv] 56)).alloc (.cells #[.slice C2 tl c2, .int .i64 st, .int .u32 vv] 59) = W := ⟨_, rfl⟩
  have hb0 : Below w.heap.size w W := by rw [← hW]; exact ((Below.refl _ _).alloc (Nat.le_refl _) _).alloc (by simp) _
  have hr0 : RowC W w.heap.size #[.slice C1 tl c1, .int .i64 st, .int .u32 vv] 56 := by rw [← hW]; exact (RowC.new _ _ _ _ rfl).alloc _
  have hr1 : RowC W (w.heap.size + 1) #[.slice C2 tl c2, .int .i64 st, .int .u32 vv] 59 := by rw [← hW]; exact RowC.new _ _ _ _ (by simp)
  have d0 := hr0.cell 0 _ rfl
  have d1 := hr0.cell 1 _ rfl
  have d2 := hr0.cell 2 _ rfl
  have e0 := hr1.cell 0 _ rfl
  have e1 := hr1.cell 1 _ rfl
  have e2 := hr1.cell 2 _ rfl
  have H1 := Lib.hid ((h1.below hb0).more hb0.size)
  have H2 := Lib.hid ((h2.below hb0).more hb0.size)
  have HR0 := Lib.hid hr0
  have HR1 := Lib.hid hr1
  have HB0 := Lib.hid hb0
  have t1 : ((st : Int) != (st : Int)) = false := by simp
  have t2 : ((vv : Int) != (vv : Int)) = false := by simp
  have t3 : ((tl : Int) != (tl : Int)) = false := by simp
  have hsw : w.heap.size < W.heap.size := hr0.lt
  have hsw1 : w.heap.size + 1 < W.heap.size := hr1.lt
  clear hr0 hr1 hb0 h1 h2
  subst hW
  go_enter Try.func26, Try.ntmps26
  go_wp2
  generalize (w.alloc (.cells #[.slice C1 tl c1, .int .i64 st, .int .u32 vv] 56)).alloc (.cells #[.slice C2 tl c2, .int .i64 st, .int .u32 vv] 59) = W at *
  clear d0 d1 d2 e0 e1 e2
  go_loopw [5] (fun i wr => ∃ k : Nat, k ≤ tl ∧ i = .int .i64 k ∧ Hid (Below W.heap.size W wr)) (fun i _ => tl - (intOf i).toNat)
  case atStart => exact ⟨0, Nat.zero_le _, rfl, Lib.hid (Below.refl _ _)⟩
  case round =>
    obtain ⟨k, hk, rfl, HB⟩ := hrel
    have s0 := (HR0.out.below HB.out HR0.out.lt).cell 0 _ rfl
    have s1 := (HR1.out.below HB.out HR1.out.lt).cell 0 _ rfl
    by_cases hlt : k < tl
    · obtain ⟨x, hx⟩ : ∃ x, G k = x := ⟨_, rfl⟩
      obtain ⟨b, o, rfl, hbl, q0, q1, q2, q3, q4⟩ := ts_at (H1.out.below HB.out) hlt hx
      obtain ⟨b', o', rfl, hbl', r0, r1, r2, r3, r4⟩ := ts_at (H2.out.below HB.out) hlt hx
      obtain ⟨p, mm, dd, kk, s⟩ := x
      dsimp only at q0 q1 q2 q3 q4 r0 r1 r2 r3 r4
      have i1 : (0 : Int) ≤ (k : Int) := by omega
      have i2 : (k : Int) < (tl : Int) := by omega
      have hsr := HB.out.size
      have hba : Below wr.heap.size wr (wr.alloc (.cells #[.int .i64 p, .int .u32 mm, .int .i64 dd, .int .u32 kk, .bool s] 108)) := (Below.refl _ _).alloc (Nat.le_refl _) _
      have hrt : RowC (wr.alloc (.cells #[.int .i64 p, .int .u32 mm, .int .i64 dd, .int .u32 kk, .bool s] 108)) wr.heap.size #[.int .i64 p, .int .u32 mm, .int .i64 dd, .int .u32 kk, .bool s] 108 := RowC.new _ _ _ _ rfl
      have v0 := hrt.cell 0 _ rfl
      have v1 := hrt.cell 1 _ rfl
      have v2 := hrt.cell 2 _ rfl
      have v3 := hrt.cell 3 _ rfl
      have v4 := hrt.cell 4 _ rfl
      have z0 := (hba.cell (p := ⟨w.heap.size, 0, none⟩) (by dsimp only; omega)).trans s0
      have z1 := (hba.cell (p := ⟨b, o + k * 5, none⟩) (by dsimp only; omega)).trans q0
      have z2 := (hba.cell (p := ⟨b, o + k * 5 + 1, none⟩) (by dsimp only; omega)).trans q1
      have z3 := (hba.cell (p := ⟨b, o + k * 5 + 2, none⟩) (by dsimp only; omega)).trans q2
      have z4 := (hba.cell (p := ⟨b, o + k * 5 + 3, none⟩) (by dsimp only; omega)).trans q3
      have z5 := (hba.cell (p := ⟨b, o + k * 5 + 4, none⟩) (by dsimp only; omega)).trans q4
      have HBA := Lib.hid (HB.out.trans (hba.mono hsr))
      clear hrt hba hx
      go_wp2
      go_quiet (fail)
      go_wp2
      exact ⟨⟨k + 1, by omega, by go_num, Lib.hid (bdn HBA.out _)⟩, by simp [intOf]; omega⟩
    · obtain rfl : k = tl := by omega
      go_wp2
      go_ret
      exact ⟨rfl, HB0.out.trans (HB.out.mono HB0.out.size)⟩
end Go.Proofs.Ytmndolojfdekdaa
