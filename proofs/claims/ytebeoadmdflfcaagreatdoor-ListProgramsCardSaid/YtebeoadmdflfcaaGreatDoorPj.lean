/-
  Words held against patterns: the contracts of marked, of the question whether a word fits, of slices.EqualFunc at it.
-/
import Derived.Test.YtebeoadmdflfcaaGreatDoorPi
import Derived.Test.YtebeoadmdflfcaaGreatDoorShb
namespace Go.Proofs.YtebeoadmdflfcaaGreatDoor
open Go.RowKit Go.Shelf
set_option linter.unusedVariables false

/-- The place of a pattern's mark. -/
def mkAt : List UInt8 → Option Nat
  | [] => none
  | b :: l => if isMk b = true then some 0 else (mkAt l).map (· + 1)
/-- What a word has in the place of its pattern's mark; does it look like the pattern? -/
def mrk (p w : List UInt8) : List UInt8 × Bool := match mkAt p with
  | none => ([], w == p)
  | some i => (Lib.trimSuffix (Lib.trimPrefix w (p.take i)) (p.drop (i + 1)), Lib.hasPrefix w (p.take i) && Lib.hasSuffix (Lib.trimPrefix w (p.take i)) (p.drop (i + 1)))
theorem mkAt_lt : ∀ {p : List UInt8} {i : Nat}, mkAt p = some i → i < p.length := by
  intro p
  induction p with
  | nil => intro i h; cases h
  | cons b l ih =>
    intro i h
    rw [mkAt] at h
    split at h
    · obtain rfl : 0 = i := by simpa using h
      simp
    · cases hl : mkAt l with
      | none => rw [hl] at h; cases h
      | some j =>
        rw [hl] at h
        obtain rfl : j + 1 = i := by simpa using h
        have := ih hl
        simp; omega
theorem indexAny_mk : ∀ p : List UInt8, Lib.indexAny p [67, 84, 70, 75] = outI (mkAt p) := by
  intro p
  induction p with
  | nil => rfl
  | cons b l ih =>
    rw [Lib.indexAny, mkAt, ih]
    have e : ([67, 84, 70, 75] : List UInt8).contains b = isMk b := by
      simp only [List.contains_cons, List.contains_nil, Bool.or_false, isMk]
      rw [Bool.or_assoc, Bool.or_assoc]
    rw [e]
    cases isMk b
    · simp only [Bool.false_eq_true, if_false]
      cases mkAt l with
      | none => rfl
      | some j =>
        have : ((j : Int) == -1) = false := beq_eq_false_iff_ne.2 (by omega)
        simp only [outI, Option.map_some, this, Bool.false_eq_true, if_false]
        omega
    · rfl
theorem below_iter (w : World) (s : ByteArray) (p : Nat) : Below w.heap.size w (w.iter s p) := by
  unfold World.iter
  exact (Below.refl _ _).alloc (Nat.le_refl _) _
theorem txt_extract (p : List UInt8) (a b : Nat) : (⟨p.toArray⟩ : ByteArray).extract a b = ⟨((p.drop a).take (b - a)).toArray⟩ := by
  apply ByteArray.ext
  rw [ByteArray.data_extract]
  apply Array.toList_inj.1
  simp
set_option maxRecDepth 100000 in
set_option maxHeartbeats 8000000 in
theorem marked_any (p : List UInt8) (hp : p.length ≤ 8) (ha : ∀ b ∈ p, b.toNat < 128) (s : List UInt8) (hs : s.length ≤ 100000) (w : World) :
    Calls Tryz.prog 51 #[.string ⟨p.toArray⟩, .string ⟨s.toArray⟩] w fun e w' => e = .returned (.tuple #[.string ⟨(mrk p s).1.toArray⟩, .bool (mrk p s).2]) ∧ Below w.heap.size w w' := by
  have hI := Tryz.strings_IndexAny_short ⟨p.toArray⟩ ⟨#[67, 84, 70, 75]⟩ w (by decide) (by rw [show (⟨p.toArray⟩ : ByteArray).size = p.toArray.size from rfl]; simpa using hp) (fun j b h => ha b (List.mem_of_getElem? h))
  rw [show (⟨p.toArray⟩ : ByteArray).data.toList = p from rfl, show (⟨#[67, 84, 70, 75]⟩ : ByteArray).data.toList = [67, 84, 70, 75] from rfl, indexAny_mk] at hI
  have hsz : (⟨p.toArray⟩ : ByteArray).size = p.length := by show p.toArray.size = _; simp
  unfold mrk
  cases hm : mkAt p with
  | none =>
    rw [hm] at hI
    have ho : outI none = -1 := rfl
    rw [ho] at hI
    obtain ⟨P, hP⟩ : ∃ P : ByteArray, (⟨p.toArray⟩ : ByteArray) = P := ⟨_, rfl⟩
    obtain ⟨S, hS⟩ : ∃ S : ByteArray, (⟨s.toArray⟩ : ByteArray) = S := ⟨_, rfl⟩
    have he : (S.toList == P.toList) = (s == p) := by rw [← hP, ← hS, Lib.toList_data, Lib.toList_data]
    rw [hP] at hI ⊢
    rw [hS]
    have HI := Lib.hid hI
    have HE := Lib.hid he
    clear hI he hP hS hm ha
    go_enter Tryz.func51, Tryz.ntmps51
    go_wp2_with fail
    refine HI.out.mono ?_
    rintro e w1 ⟨rfl, pos, rfl⟩
    go_wp2
    go_ret2
    exact ⟨by rw [← HE.out]; rfl, below_iter w P pos⟩
  | some i =>
    have hil := mkAt_lt hm
    rw [hm] at hI
    have ho : outI (some i) = (i : Int) := rfl
    rw [ho] at hI
    have h1 := fun W => Tryz.strings_CutPrefix ⟨s.toArray⟩ ⟨(p.take i).toArray⟩ W
    have h2 := fun W => Tryz.strings_CutSuffix ⟨(Lib.trimPrefix s (p.take i)).toArray⟩ ⟨(p.drop (i + 1)).toArray⟩ W (by
      have h3 : (Lib.trimPrefix s (p.take i)).length ≤ s.length := by unfold Lib.trimPrefix; split <;> simp
      show (Lib.trimPrefix s (p.take i)).toArray.size ≤ _
      simp
      omega)
    dsimp only at h1 h2
    have x1 : (⟨p.toArray⟩ : ByteArray).extract 0 i = ⟨(p.take i).toArray⟩ := by rw [txt_extract]; simp
    have x2 : (⟨p.toArray⟩ : ByteArray).extract (i + 1) p.length = ⟨(p.drop (i + 1)).toArray⟩ := by
      rw [txt_extract, List.take_of_length_le (by simp)]
    obtain ⟨P, hP⟩ : ∃ P : ByteArray, (⟨p.toArray⟩ : ByteArray) = P := ⟨_, rfl⟩
    obtain ⟨S, hS⟩ : ∃ S : ByteArray, (⟨s.toArray⟩ : ByteArray) = S := ⟨_, rfl⟩
    obtain ⟨Q1, hQ1⟩ : ∃ S : ByteArray, (⟨(p.take i).toArray⟩ : ByteArray) = S := ⟨_, rfl⟩
    obtain ⟨Q2, hQ2⟩ : ∃ S : ByteArray, (⟨(p.drop (i + 1)).toArray⟩ : ByteArray) = S := ⟨_, rfl⟩
    simp only []
    obtain ⟨t1, ht1⟩ : ∃ t, Lib.trimPrefix s (p.take i) = t := ⟨_, rfl⟩
    rw [ht1] at h1 h2 ⊢
    obtain ⟨b1, hb1⟩ : ∃ b, Lib.hasPrefix s (p.take i) = b := ⟨_, rfl⟩
    obtain ⟨b2, hb2⟩ : ∃ b, Lib.hasSuffix t1 (p.drop (i + 1)) = b := ⟨_, rfl⟩
    rw [hb1] at h1 ⊢
    rw [hb2] at h2 ⊢
    rw [hP] at hI x1 x2 hsz ⊢
    rw [hS] at h1 ⊢
    rw [hQ1] at h1 x1
    rw [hQ2] at h2 x2
    rw [← hsz] at x2
    have g0 : (0 : Int) ≤ (i : Int) := by omega
    have g1 : (i : Int) ≤ (P.size : Int) := by omega
    have g2 : ¬ (i : Int) < 0 := by omega
    have g3 : (0 : Int) ≤ (i : Int) + 1 := by omega
    have g4 : (i : Int) + 1 ≤ (P.size : Int) := by omega
    have HI := Lib.hid hI
    have H1 := Lib.hid h1
    have H2 := Lib.hid h2
    clear hI h1 h2 hP hS hQ1 hQ2 hm ha ht1 hb1 hb2 hsz
    go_enter Tryz.func51, Tryz.ntmps51
    go_wp2_with fail
    refine HI.out.mono ?_
    rintro e w1 ⟨rfl, pos, rfl⟩
    go_wp2_with fail
    refine (H1.out _).mono ?_
    rintro e w2 ⟨rfl, rfl⟩
    go_wp2_with fail
    refine (H2.out _).mono ?_
    rintro e w3 ⟨rfl, rfl⟩
    cases b1
    · go_wp2
      go_ret2
      exact ⟨rfl, below_iter w P pos⟩
    · go_wp2
      go_ret2
      exact ⟨by first | rfl | simp, below_iter w P pos⟩
set_option maxRecDepth 100000 in
set_option maxHeartbeats 4000000 in
/-- Does a word fit? -/
theorem fits1_any (p : List UInt8) (hp : p.length ≤ 8) (ha : ∀ b ∈ p, b.toNat < 128) (s : List UInt8) (hs : s.length ≤ 100000) (w : World) :
    Calls Tryz.prog 60 #[.string ⟨p.toArray⟩, .string ⟨s.toArray⟩] w fun e w' => e = .returned (.bool (mrk p s).2) ∧ Below w.heap.size w w' := by
  have HM := Lib.hid (marked_any p hp ha s hs w)
  obtain ⟨a, b, hab⟩ : ∃ a b, mrk p s = (a, b) := ⟨_, _, rfl⟩
  rw [hab] at HM ⊢
  simp only [] at HM ⊢
  clear hab
  go_enter Tryz.func60, Tryz.ntmps60
  go_wp2_with fail
  refine HM.out.mono ?_
  rintro e w1 ⟨rfl, hB1⟩
  go_wp2
  go_ret
  exact ⟨rfl, hB1⟩
/-- Words in memory. -/
def WdP (w : World) (b o n : Nat) (W : Nat → List UInt8) : Prop := ∀ i, i < n → w.cell? ⟨b, o + i, none⟩ = some (.string ⟨(W i).toArray⟩)
theorem WdP.below {w w' : World} {b o n : Nat} {W : Nat → List UInt8} (h : WdP w b o n W) (hb : Below w.heap.size w w') : WdP w' b o n W := fun i hi => by
  have h1 := h i hi
  exact (hb.cell (p := ⟨b, o + i, none⟩) (World.block_lt_of_cell? _ _ h1)).trans h1
def fitsN (P W : Nat → List UInt8) : Nat → Bool
  | 0 => true
  | q + 1 => fitsN P W q && (mrk (P q) (W q)).2
theorem fitsN_false {P W : Nat → List UInt8} {q : Nat} (h : fitsN P W q = false) : ∀ n, q ≤ n → fitsN P W n = false := by
  intro n
  induction n with
  | zero =>
    intro hq
    obtain rfl : q = 0 := by omega
    exact h
  | succ n ih =>
    intro hq
    rcases Nat.lt_or_ge n q with h1 | h1
    · obtain rfl : q = n + 1 := by omega
      exact h
    · rw [fitsN, ih h1]; rfl
set_option maxRecDepth 100000 in
set_option maxHeartbeats 8000000 in
theorem equal_any (T n1 c1 : Nat) (P : Nat → List UInt8) (hP : ∀ i, i < n1 → (P i).length ≤ 8 ∧ ∀ b ∈ P i, b.toNat < 128) (b o n2 c2 : Nat) (W : Nat → List UInt8) (hW : ∀ i, i < n2 → (W i).length ≤ 100000) (hn1 : n1 ≤ 1000000) (hn2 : n2 ≤ 1000000) (w : World) (h1 : WdP w T 0 n1 P) (h2 : WdP w b o n2 W) :
    Calls Tryz.prog 61 #[.slice (some ⟨T, 0, none⟩) n1 c1, .slice (some ⟨b, o, none⟩) n2 c2, .func (.func 60) #[] #[]] w fun e w' => e = .returned (.bool (decide (n1 = n2) && fitsN P W n1)) ∧ Below w.heap.size w w' := by
  have H1 := Lib.hid h1
  have H2 := Lib.hid h2
  have HP := Lib.hid hP
  have HWL := Lib.hid hW
  clear h1 h2 hP hW
  by_cases hn : n1 = n2
  · subst hn
    have t1 : ((n1 : Int) != (n1 : Int)) = false := by simp
    rw [decide_eq_true rfl, Bool.true_and]
    go_enter Tryz.func61, Tryz.ntmps61
    go_wp2_with fail
    go_loopw [17] (fun i wr => ∃ q : Nat, q ≤ n1 ∧ i = .int .i64 q ∧ Hid (fitsN P W q = true) ∧ Below w.heap.size w wr) (fun i _ => n1 - (intOf i).toNat)
    case atStart => exact ⟨0, by omega, rfl, Lib.hid rfl, Below.refl _ _⟩
    case round =>
      obtain ⟨q, hq, rfl, HQ, hB⟩ := hrel
      by_cases hlt : q < n1
      · have k1 := (H1.out.below hB) q hlt
        have k2 := (H2.out.below hB) q hlt
        rw [Nat.zero_add] at k1
        have HF := Lib.hid fun X => fits1_any (P q) (HP.out q hlt).1 (HP.out q hlt).2 (W q) (HWL.out q hlt) X
        have HS : Hid (fitsN P W (q + 1) = (mrk (P q) (W q)).2) := Lib.hid (by rw [fitsN, HQ.out, Bool.true_and])
        obtain ⟨S1, hS1⟩ : ∃ S : ByteArray, (⟨(P q).toArray⟩ : ByteArray) = S := ⟨_, rfl⟩
        obtain ⟨S2, hS2⟩ : ∃ S : ByteArray, (⟨(W q).toArray⟩ : ByteArray) = S := ⟨_, rfl⟩
        obtain ⟨m, hm⟩ : ∃ m, (mrk (P q) (W q)).2 = m := ⟨_, rfl⟩
        rw [hS1] at k1
        rw [hS2] at k2
        rw [hS1, hS2, hm] at HF
        rw [hm] at HS
        have g1 : (q : Int) < (n1 : Int) := by omega
        have g2 : (0 : Int) ≤ (q : Int) := by omega
        have HB := Lib.hid hB
        clear hS1 hS2 hm hB
        cases m
        · have HR : Hid (fitsN P W n1 = false) := Lib.hid (fitsN_false HS.out n1 (by omega))
          go_wp2_with (go_at_call 60; refine (HF.out _).mono ?_; rintro e w2 ⟨rfl, hB2⟩)
          go_ret
          exact ⟨by rw [HR.out]; rfl, HB.out.trans (hB2.mono HB.out.size)⟩
        · go_wp2_with (go_at_call 60; refine (HF.out _).mono ?_; rintro e w2 ⟨rfl, hB2⟩)
          exact ⟨⟨q + 1, by omega, by go_num, HS, HB.out.trans (hB2.mono HB.out.size)⟩, by simp [intOf]; omega⟩
      · obtain rfl : q = n1 := by omega
        have g1 : ¬ (q : Int) < (q : Int) := by omega
        go_wp2
        go_ret
        exact ⟨by rw [HQ.out]; rfl, hB⟩
  · have t1 : ((n1 : Int) != (n2 : Int)) = true := bne_iff_ne.2 (by omega)
    rw [decide_eq_false hn, Bool.false_and]
    clear hn
    go_enter Tryz.func61, Tryz.ntmps61
    go_wp2
    go_ret
    exact ⟨rfl, Below.refl _ _⟩
end Go.Proofs.YtebeoadmdflfcaaGreatDoor
