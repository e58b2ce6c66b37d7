/-
  Layer 11's meet: a row's numbers put to those that were met.
-/
import Derived.Test.YtlpcallgkciklaaGreatDoorUc
import Derived.Test.YtlpcallgkciklaaGreatDoorSx
import Derived.Deep.CutRange
namespace Go.Proofs.YtlpcallgkciklaaGreatDoor
open Go.RowKit
set_option linter.unusedVariables false

/-- A world in which nothing but one block has changed. -/
def But1 (b : Nat) (w w' : World) : Prop := w.grownBy w' (some b)
theorem But1.of {b B : Nat} {w w' : World} (h : Below B w w') (hB : w.heap.size ≤ B) : But1 b w w' := ⟨h.os, h.tape, h.output, h.size, fun k hk _ => h.block k (by omega)⟩
theorem But1.trans {b : Nat} {w w' w2 : World} (h : But1 b w w') (h2 : But1 b w' w2) : But1 b w w2 := ⟨h2.os.trans h.os, h2.tape.trans h.tape, h2.output.trans h.output, Nat.le_trans h.size h2.size, fun k hk hn => (h2.block k (Nat.lt_of_lt_of_le hk h.size) hn).trans (h.block k hk hn)⟩
theorem But1.below {b : Nat} {w w' : World} (h : But1 b w w') (hb : b ≤ w.heap.size) : Below b w w' := ⟨h.os, h.tape, h.output, h.size, fun k hk => h.block k (by omega) (fun e => by cases e; omega)⟩
def NoneIn (L S : List (Int × Int)) : Prop := ∀ p ∈ L, p ∉ S
def SomeIn (L S : List (Int × Int)) : Prop := ∃ p ∈ L, p ∈ S
theorem plN_lt (r : SR) (k : Nat) : ∀ p ∈ plN r k, 0 ≤ p.1 ∧ p.1 < (k : Int) := by
  induction k with
  | zero => intro p h; simp [plN] at h
  | succ k ih =>
    intro p h
    rw [plN] at h
    rcases List.mem_append.1 h with h | h
    · have := ih p h; omega
    · split at h
      · simp at h
      · simp at h; subst h; simp; omega
theorem plN_pw (r : SR) (k : Nat) : (plN r k).Pairwise (fun p q => p.1 < q.1) := by
  induction k with
  | zero => simp [plN]
  | succ k ih =>
    rw [plN, List.pairwise_append]
    refine ⟨ih, by split <;> simp, fun p hp q hq => ?_⟩
    split at hq
    · simp at hq
    · simp at hq; subst hq; exact (plN_lt r k p hp).2
theorem plc_pw (r : SR) (hm : MxP r) : (plc r).Pairwise (fun p q => p.1 < q.1) := by
  rw [plc, List.pairwise_append]
  refine ⟨plN_pw r 5, by split <;> simp, fun p hp q hq => ?_⟩
  split at hq
  · simp at hq
  · simp at hq; subst hq
    have := (plN_lt r 5 p hp).2
    show p.1 < 5 + r.mx
    rcases hm with ⟨h, _⟩ | ⟨h | h, _⟩ <;> omega
theorem plc_new (r : SR) (hm : MxP r) (i : Nat) (p : Int × Int) (hp : (plc r)[i]? = some p) : p ∉ (plc r).take i := by
  intro h
  obtain ⟨j, hj, he⟩ := List.getElem_of_mem h
  rw [List.length_take] at hj
  have hji : j < i := by omega
  obtain ⟨hi, hpi⟩ := List.getElem?_eq_some_iff.1 hp
  have := List.pairwise_iff_getElem.1 (plc_pw r hm) j i (by omega) hi hji
  rw [List.getElem_take] at he
  rw [he, hpi] at this
  omega
theorem OwnC.of_block {w w' : World} {base z n c : Nat} {E : TypeId} {A : Option Addr} {F : Nat → Value} (h : OwnC w base E z A n c F) (hb : ∀ g, base ≤ g → g < w.heap.size → w'.heap[g]? = w.heap[g]?) : OwnC w' base E z A n c F := by
  obtain ⟨h1, h2⟩ := h
  refine ⟨h1, ?_⟩
  rcases h2 with h2 | ⟨g, cap, cur, e, hg, hh, hr⟩
  · exact .inl h2
  · exact .inr ⟨g, cap, cur, e, hg, (hb g hg (Array.getElem?_eq_some_iff.1 hh).1).trans hh, hr⟩
theorem IsSet.lt {w : World} {b : Nat} {S : List (Int × Int)} (h : IsSet w b S) : b < w.heap.size := by
  obtain ⟨es, c, hb, _⟩ := h
  exact (Array.getElem?_eq_some_iff.1 hb).1
theorem IsSet.of_block {w w' : World} {b : Nat} {S : List (Int × Int)} (h : IsSet w b S) (hb : w'.heap[b]? = w.heap[b]?) : IsSet w' b S := by
  obtain ⟨es, c, h1, h2⟩ := h
  exact ⟨es, c, hb.trans h1, h2⟩
set_option maxRecDepth 100000 in
set_option maxHeartbeats 8000000 in
theorem meet_any (r : SR) (hm : MxP r) (b : Nat) (S : List (Int × Int)) (w : World) (hs : IsSet w b S) :
    Calls Tryz.prog 82 #[.agg (srow r), .map (some b)] w fun e w' => ((NoneIn (plc r) S ∧ IsSet w' b (S ++ plc r) ∧ e = .returned (.bool true)) ∨ (SomeIn (plc r) S ∧ e = .returned (.bool false))) ∧ But1 b w w' := by
  have hblt := hs.lt
  obtain ⟨U, hU⟩ : ∃ U, w.alloc (.cells #[.string r.nm, .int .i64 r.n0, .int .i64 r.n1, .int .i64 r.n2, .int .i64 r.n3, .int .i64 r.n4, .int .i64 r.mx, .int .i64 r.sb] 83) = U := ⟨_, rfl⟩
  have ru : RowC U w.heap.size (srow r) 83 := by rw [← hU]; exact RowC.new _ _ _ _ rfl
  have hbU : Below w.heap.size w U := by rw [← hU]; exact (Below.refl _ _).alloc (Nat.le_refl _) _
  have hsU : IsSet U b S := hs.of_block (hbU.block b hblt)
  have HPL := Lib.hid (placed_any r hm U)
  have HSU := Lib.hid hsU
  have HBU := Lib.hid hbU
  have HU := Lib.hid hU
  have HM := Lib.hid hm
  have HBL := Lib.hid hblt
  have d0 := ru.cell 0 (.string r.nm) rfl
  have d1 := ru.cell 1 (.int .i64 r.n0) rfl
  have d2 := ru.cell 2 (.int .i64 r.n1) rfl
  have d3 := ru.cell 3 (.int .i64 r.n2) rfl
  have d4 := ru.cell 4 (.int .i64 r.n3) rfl
  have d5 := ru.cell 5 (.int .i64 r.n4) rfl
  have d6 := ru.cell 6 (.int .i64 r.mx) rfl
  have d7 := ru.cell 7 (.int .i64 r.sb) rfl
  clear hU hbU ru hs hsU hm hblt
  go_enter Tryz.func82, Tryz.ntmps82
  go_upto_region 1 with fail
  rw [HU.out]
  go_wp2_with fail
  refine HPL.out.mono ?_
  rintro e w1 ⟨A', c', rfl, hown, hB1⟩
  have hUl : w.heap.size ≤ U.heap.size := HBU.out.size
  have HS1 := Lib.hid (HSU.out.of_block (hB1.block b (Nat.lt_of_lt_of_le HBL.out hUl)))
  have HB1 : Hid (But1 b w w1) := Lib.hid ((But1.of HBU.out (Nat.le_refl _)).trans (But1.of hB1 (Nat.le_refl _)))
  have HOW := Lib.hid hown
  have HBS := Lib.hid hB1.size
  have HUL := Lib.hid (Nat.lt_of_lt_of_le HBL.out hUl)
  generalize U.heap.size = base at *
  have HNW := Lib.hid fun i p h => plc_new r HM.out i p h
  obtain ⟨L, hL⟩ : ∃ L, plc r = L := ⟨_, rfl⟩
  have hll : L.length ≤ 6 := by
    rw [← hL, plc, List.length_append]
    have := plN_len r 5
    split <;> simp <;> omega
  rw [hL] at HOW HNW ⊢
  have HLL := Lib.hid hL
  clear hown hB1 d0 d1 d2 d3 d4 d5 d6 d7 hL hUl HPL HSU
  go_wp2_with fail
  go_loopw [12] (fun s wr => ∃ i : Nat, i ≤ L.length ∧ s = .int .i64 i ∧ (∀ p ∈ L.take i, p ∉ S) ∧ IsSet wr b (S ++ L.take i) ∧ OwnC wr base 181 2 A' L.length c' (pcell L) ∧ base ≤ wr.heap.size ∧ But1 b w wr)
    (fun s _ => L.length - (intOf s).toNat)
  case atStart => exact ⟨0, Nat.zero_le _, rfl, fun p h => by simp at h, by simpa using HS1.out, HOW.out, HBS.out, HB1.out⟩
  case round =>
    clear HOW HS1 HB1 HBS
    obtain ⟨i, hi, rfl, hno, hset, hown, hbs, hB⟩ := hrel
    have HNO := Lib.hid hno
    have HB := Lib.hid hB
    have HBS := Lib.hid hbs
    by_cases hlt : i < L.length
    · obtain ⟨p, hp⟩ : ∃ p, L[i]? = some p := ⟨_, List.getElem?_eq_getElem hlt⟩
      have hnt := HNW.out i p hp
      have hgd : L.getD i (0, 0) = p := by rw [List.getD_eq_getElem?_getD, hp]; rfl
      have htk : L.take (i + 1) = L.take i ++ [p] := by rw [List.take_add_one, hp]; rfl
      have hmem : p ∈ L := List.mem_of_getElem? hp
      obtain ⟨g, rfl, hg, hgl, hcl⟩ := own_atz hown (by omega)
      have c0 : wr.cell? ⟨g, i * 2, none⟩ = some (.int .i64 p.1) := by
        rw [hcl (i * 2) (by omega), pcell, if_pos (by omega), show i * 2 / 2 = i by omega, hgd]
      have c1 : wr.cell? ⟨g, i * 2 + 1, none⟩ = some (.int .i64 p.2) := by
        rw [hcl (i * 2 + 1) (by omega), pcell, if_neg (by omega), show (i * 2 + 1) / 2 = i by omega, hgd]
      have r1 := RowC.new wr #[.int .i64 p.1, .int .i64 p.2] 181 _ rfl
      have hb1 : Below wr.heap.size wr (wr.alloc (.cells #[.int .i64 p.1, .int .i64 p.2] 181)) := (Below.refl _ _).alloc (Nat.le_refl _) _
      have hs1 : IsSet (wr.alloc (.cells #[.int .i64 p.1, .int .i64 p.2] 181)) b (S ++ L.take i) := hset.of_block (hb1.block b hset.lt)
      have hlk := hs1.look p
      have r2 := r1.alloc (.cells #[] 156)
      have hb2 : Below wr.heap.size wr ((wr.alloc (.cells #[.int .i64 p.1, .int .i64 p.2] 181)).alloc (.cells #[] 156)) := hb1.alloc hb1.size _
      have hs2 : IsSet ((wr.alloc (.cells #[.int .i64 p.1, .int .i64 p.2] 181)).alloc (.cells #[] 156)) b (S ++ L.take i) := hset.of_block (hb2.block b hset.lt)
      have HOW2 := Lib.hid (hown.below hb2 (Nat.le_refl _))
      have HB2 := Lib.hid (But1.trans hB (But1.of hb2 (Nat.le_refl _)))
      have x0 := r1.cell 0 (.int .i64 p.1) rfl
      have x1 := r1.cell 1 (.int .i64 p.2) rfl
      have z0 := r2.cell 0 (.int .i64 p.1) rfl
      have z1 := r2.cell 1 (.int .i64 p.2) rfl
      have e1 : (0 : Int) ≤ (i : Int) := by omega
      have e2 : (i : Int) < (L.length : Int) := by omega
      by_cases hin : p ∈ S
      · have hd : decide (p ∈ S ++ L.take i) = true := decide_eq_true (List.mem_append_left _ hin)
        rw [hd] at hlk
        have HE : Hid (SomeIn (plc r) S) := Lib.hid (by rw [HLL.out]; exact ⟨p, hmem, hin⟩)
        clear hp hnt hgd htk hmem hg hgl hcl r1 hb1 hs1 r2 hb2 hs2 hin hd hno hset hown hbs hB
        go_wp2
        go_ret
        exact ⟨.inr ⟨HE.out, rfl⟩, HB2.out⟩
      · have hni : p ∉ S ++ L.take i := fun h => (List.mem_append.1 h).elim hin hnt
        have hd : decide (p ∈ S ++ L.take i) = false := decide_eq_false hni
        rw [hd] at hlk
        obtain ⟨w3, hup, hs3, hg3⟩ := hs2.insert p hni
        have HS3 : Hid (IsSet w3 b (S ++ L.take (i + 1))) := Lib.hid (by rw [htk, ← List.append_assoc]; exact hs3)
        have HN3 : Hid (∀ q ∈ L.take (i + 1), q ∉ S) := Lib.hid (by
          rw [htk]
          intro q hq
          rcases List.mem_append.1 hq with h | h
          · exact HNO.out q h
          · simp at h; subst h; exact hin)
        have HOW3 : Hid (OwnC w3 base 181 2 (some ⟨g, 0, none⟩) L.length c' (pcell L)) := Lib.hid (HOW2.out.of_block fun k hk hkl => hg3.block k hkl (fun e => by cases e; have := HUL.out; omega))
        have HB3 : Hid (But1 b w w3) := Lib.hid (But1.trans HB2.out hg3)
        have HZ3 : Hid (base ≤ w3.heap.size) := Lib.hid (by have := hg3.size; have := hb2.size; omega)
        clear hp hnt hgd htk hmem hg hgl hcl r1 hb1 hs1 r2 hb2 hs2 hin hd hno hset hown hbs hB hni hs3 hg3
        go_wp2
        exact ⟨⟨i + 1, by omega, by go_num, HN3.out, HS3.out, HOW3.out, HZ3.out, HB3.out⟩, by simp [intOf]; omega⟩
    · obtain rfl : i = L.length := by omega
      have e2 : ¬ (L.length : Int) < (L.length : Int) := by omega
      rw [List.take_length] at hset hno
      have HS : Hid (IsSet wr b (S ++ plc r)) := Lib.hid (by rw [HLL.out]; exact hset)
      have HN : Hid (NoneIn (plc r) S) := Lib.hid (by rw [HLL.out]; exact hno)
      clear hset hno hown hbs hB HNO
      go_wp2
      go_ret
      exact ⟨.inl ⟨HN.out, HS.out, rfl⟩, HB.out⟩
end Go.Proofs.YtlpcallgkciklaaGreatDoor
