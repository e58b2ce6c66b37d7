/-
  The closure of instOf that reads the number in a mark's place.
-/
import Derived.Test.YtebeoadmdflfcaaGreatDoorPl
import Derived.Deep.RegionHeld3
namespace Go.Proofs.YtebeoadmdflfcaaGreatDoor
open Go.RowKit Go.Shelf
set_option linter.unusedVariables false

set_option maxHeartbeats 4000000 in
/-- The question for a mark. -/
theorem has1_any (m : UInt8) (p : List UInt8) (b : Nat) (w : World) (h : w.cell? ⟨b, 0, none⟩ = some (.string ⟨#[m]⟩)) :
    Calls Tryz.prog 50 #[.string ⟨p.toArray⟩, .pointer (some ⟨b, 0, none⟩)] w fun e w' => e = .returned (.bool (p.contains m)) ∧ w' = w := by
  have HC := Lib.hid (Tryz.strings_Contains_one ⟨p.toArray⟩ m w)
  rw [show (⟨p.toArray⟩ : ByteArray).data.toList = p from rfl, indexByte_has] at HC
  obtain ⟨q, hq⟩ : ∃ q, p.contains m = q := ⟨_, rfl⟩
  obtain ⟨M, hM⟩ : ∃ S : ByteArray, (⟨#[m]⟩ : ByteArray) = S := ⟨_, rfl⟩
  obtain ⟨S, hS⟩ : ∃ S : ByteArray, (⟨p.toArray⟩ : ByteArray) = S := ⟨_, rfl⟩
  rw [hq, hM, hS] at HC
  rw [hq, hS]
  rw [hM] at h
  clear hq hM hS
  go_enter Tryz.func50, Tryz.ntmps50
  go_wp2_with (go_at_call 40; refine HC.out.mono ?_; rintro e w2 ⟨rfl, rfl⟩)
  go_ret
  exact ⟨rfl, rfl⟩
/-- The first pattern that has a mark. -/
def fldAt (P : Nat → List UInt8) (m : UInt8) : Nat → Option Nat
  | 0 => none
  | q + 1 => match fldAt P m q with
    | some i => some i
    | none => if (P q).contains m = true then some q else none
theorem fldAt_lt {P : Nat → List UInt8} {m : UInt8} : ∀ {n i : Nat}, fldAt P m n = some i → i < n := by
  intro n
  induction n with
  | zero => intro i h; cases h
  | succ n ih =>
    intro i h
    rw [fldAt] at h
    cases hn : fldAt P m n with
    | some k =>
      rw [hn] at h
      obtain rfl : k = i := by simpa using h
      exact Nat.lt_succ_of_lt (ih hn)
    | none =>
      rw [hn] at h
      simp only at h
      split at h
      · obtain rfl : n = i := by simpa using h
        exact Nat.lt_succ_self _
      · cases h
theorem fldAt_on {P : Nat → List UInt8} {m : UInt8} {q : Nat} (hq : fldAt P m q = none) (hc : (P q).contains m = true) : ∀ n, q < n → fldAt P m n = some q := by
  intro n
  induction n with
  | zero => intro h; omega
  | succ n ih =>
    intro h
    rw [fldAt]
    rcases Nat.lt_succ_iff_lt_or_eq.1 h with h | rfl
    · rw [ih h]
    · rw [hq]; simp only; rw [if_pos hc]
set_option maxHeartbeats 4000000 in
set_option maxRecDepth 100000 in
theorem ixm_any (m : UInt8) (P : Nat → List UInt8) (n c b T : Nat) (hn : n ≤ 1000000) (w : World) (h : w.cell? ⟨b, 0, none⟩ = some (.string ⟨#[m]⟩)) (hT : WdP w T 0 n P) :
    Calls Tryz.prog 49 #[.slice (some ⟨T, 0, none⟩) n c, .func (.func 50) #[] #[.pointer (some ⟨b, 0, none⟩)]] w fun e w' => e = .returned (.int .i64 (outI (fldAt P m n))) ∧ w' = w := by
  have HC := Lib.hid h
  have HT := Lib.hid hT
  clear h hT
  go_enter Tryz.func49, Tryz.ntmps49
  go_wp2_with fail
  go_loopw [8] (fun i wr => ∃ q : Nat, q ≤ n ∧ i = .int .i64 q ∧ Hid (fldAt P m q = none) ∧ wr = w) (fun i _ => n - (intOf i).toNat)
  case atStart => exact ⟨0, by omega, rfl, Lib.hid rfl, rfl⟩
  case round =>
    obtain ⟨q, hq, rfl, HQ, rfl⟩ := hrel
    by_cases hlt : q < n
    · have k0 := HT.out q hlt
      rw [Nat.zero_add] at k0
      have HF := Lib.hid (has1_any m (P q) b wr HC.out)
      obtain ⟨p, hp⟩ : ∃ p : ByteArray, (⟨(P q).toArray⟩ : ByteArray) = p := ⟨_, rfl⟩
      obtain ⟨d, hd⟩ : ∃ d, (P q).contains m = d := ⟨_, rfl⟩
      have HD := Lib.hid hd
      rw [hp] at k0
      rw [hp, hd] at HF
      have g1 : (q : Int) < (n : Int) := by omega
      have g2 : (0 : Int) ≤ (q : Int) := by omega
      clear hp hd
      cases d
      · have HR : Hid (fldAt P m (q + 1) = none) := Lib.hid (by rw [fldAt, HQ.out]; simp only; rw [if_neg (by rw [HD.out]; decide)])
        go_wp2_with (go_at_call 50; refine HF.out.mono ?_; rintro e w2 ⟨rfl, rfl⟩)
        exact ⟨⟨q + 1, by omega, by go_num, HR, trivial⟩, by simp [intOf]; omega⟩
      · have HR : Hid (fldAt P m n = some q) := Lib.hid (fldAt_on HQ.out HD.out n hlt)
        go_wp2_with (go_at_call 50; refine HF.out.mono ?_; rintro e w2 ⟨rfl, rfl⟩)
        go_ret
        exact ⟨by rw [HR.out]; rfl, rfl⟩
    · obtain rfl : q = n := by omega
      have g1 : ¬ (q : Int) < (q : Int) := by omega
      go_wp2
      go_ret
      exact ⟨by rw [HQ.out]; rfl, rfl⟩
/-- The number in a mark's place. -/
def instN (P W : Nat → List UInt8) (n : Nat) (m : UInt8) (wd other : Nat) : Ending := match fldAt P m n with
  | none => .returned (.int .u32 other)
  | some i => numE wd (mrk (P i) (W i)).1
theorem mrk_len (p s : List UInt8) : (mrk p s).1.length ≤ s.length := by
  unfold mrk
  split
  · simp
  · simp only [Lib.trimSuffix, Lib.trimPrefix]
    split <;> split <;> simp <;> omega
set_option maxHeartbeats 8000000 in
set_option maxRecDepth 100000 in
theorem inst1_any (m : UInt8) (wd : Nat) (hw : Wd wd) (other : Nat) (P : Nat → List UInt8) (n c T bp : Nat) (hP : ∀ i, i < n → (P i).length ≤ 8 ∧ ∀ b ∈ P i, b.toNat < 128) (b o c2 bw : Nat) (W : Nat → List UInt8) (hW : ∀ i, i < n → (W i).length ≤ 100000) (hn : n ≤ 1000000)
    (w : World) (hp : w.cell? ⟨bp, 0, none⟩ = some (.slice (some ⟨T, 0, none⟩) n c)) (hwd : w.cell? ⟨bw, 0, none⟩ = some (.slice (some ⟨b, o, none⟩) n c2)) (h1 : WdP w T 0 n P) (h2 : WdP w b o n W) (he : EnvN w) :
    Calls Tryz.prog 48 #[.string ⟨#[m]⟩, .int .i64 wd, .int .u32 other, .pointer (some ⟨bp, 0, none⟩), .pointer (some ⟨bw, 0, none⟩)] w fun e w' => e = instN P W n m wd other ∧ Below w.heap.size w w' := by
  have hl1 : bp < w.heap.size := World.block_lt_of_cell? _ _ hp
  have hl2 : bw < w.heap.size := World.block_lt_of_cell? _ _ hwd
  obtain ⟨W0, hW0⟩ : ∃ X, w.alloc (.cells #[.string ⟨#[m]⟩] 9) = X := ⟨_, rfl⟩
  have hb0 : Below w.heap.size w W0 := by rw [← hW0]; exact (Below.refl _ _).alloc (Nat.le_refl _) _
  have r0 : RowC W0 w.heap.size #[.string ⟨#[m]⟩] 9 := by rw [← hW0]; exact RowC.new _ _ _ _ rfl
  have q1 := (hb0.cell (p := ⟨bp, 0, none⟩) hl1).trans hp
  have q2 := (hb0.cell (p := ⟨bw, 0, none⟩) hl2).trans hwd
  have s1 := h1.below hb0
  have s2 := h2.below hb0
  have HIX := Lib.hid (ixm_any m P n c w.heap.size T hn W0 (r0.cell 0 _ rfl) s1)
  have HB := Lib.hid hb0
  have HW := Lib.hid hW0
  unfold instN
  cases hf : fldAt P m n with
  | none =>
    rw [hf] at HIX
    have ho : outI none = -1 := rfl
    rw [ho] at HIX
    clear hf ho hb0 hW0 r0 hp hwd h1 h2 he s1 s2
    go_enter Tryz.func48, Tryz.ntmps48
    go_upto_region 1 with fail
    rw [HW.out]
    go_wp2_with fail
    refine HIX.out.mono ?_
    rintro e w1 ⟨rfl, rfl⟩
    go_wp2
    go_ret
    exact ⟨rfl, HB.out⟩
  | some i =>
    have hi := fldAt_lt hf
    rw [hf] at HIX
    have ho : outI (some i) = (i : Int) := rfl
    rw [ho] at HIX
    have k1 := s1 i hi
    have k2 := s2 i hi
    rw [Nat.zero_add] at k1
    have g1 : (i : Int) < (n : Int) := by omega
    have g2 : (0 : Int) ≤ (i : Int) := by omega
    have g3 : ¬ (i : Int) < 0 := by omega
    have HM := Lib.hid fun X => marked_any (P i) (hP i hi).1 (hP i hi).2 (W i) (hW i hi) X
    have hml := mrk_len (P i) (W i)
    have hwl := hW i hi
    have HN : Hid (∀ X, Below w.heap.size w X → Calls Tryz.prog 52 #[.string ⟨(mrk (P i) (W i)).1.toArray⟩, .int .i64 wd] X fun e w' => e = numE wd (mrk (P i) (W i)).1 ∧ Below X.heap.size X w') := Lib.hid fun X hX => numberOf_any wd hw _ (by omega) X (envN_on he hX (Nat.le_refl _))
    simp only []
    obtain ⟨E, hE⟩ : ∃ E, numE wd (mrk (P i) (W i)).1 = E := ⟨_, rfl⟩
    obtain ⟨D, hD⟩ : ∃ D : ByteArray, (⟨(mrk (P i) (W i)).1.toArray⟩ : ByteArray) = D := ⟨_, rfl⟩
    obtain ⟨d, hd⟩ : ∃ d, (mrk (P i) (W i)).2 = d := ⟨_, rfl⟩
    obtain ⟨S1, hS1⟩ : ∃ S : ByteArray, (⟨(P i).toArray⟩ : ByteArray) = S := ⟨_, rfl⟩
    obtain ⟨S2, hS2⟩ : ∃ S : ByteArray, (⟨(W i).toArray⟩ : ByteArray) = S := ⟨_, rfl⟩
    rw [hE, hD] at HN
    rw [hD, hd, hS1, hS2] at HM
    rw [hS1] at k1
    rw [hS2] at k2
    rw [hE]
    have HNE : Hid (E = badE ∨ ∃ u : Nat, E = .returned (.int .u32 u)) := Lib.hid (by
      rw [← hE]; unfold numE
      cases numW wd (mrk (P i) (W i)).1 with
      | none => exact .inl rfl
      | some u => exact .inr ⟨u, rfl⟩)
    clear hf ho hb0 hW0 r0 hp hwd h1 h2 he s1 s2 hml hwl hE hD hd hS1 hS2 hP hW
    have HS : Hid (∀ X, Below W0.heap.size W0 X → X.cell? ⟨bp, 0, none⟩ = some (.slice (some ⟨T, 0, none⟩) n c) ∧ X.cell? ⟨bw, 0, none⟩ = some (.slice (some ⟨b, o, none⟩) n c2) ∧ X.cell? ⟨T, i, none⟩ = some (.string S1) ∧ X.cell? ⟨b, o + i, none⟩ = some (.string S2)) := Lib.hid fun X hX => ⟨(hX.cell (World.block_lt_of_cell? _ _ q1)).trans q1, (hX.cell (World.block_lt_of_cell? _ _ q2)).trans q2, (hX.cell (World.block_lt_of_cell? _ _ k1)).trans k1, (hX.cell (World.block_lt_of_cell? _ _ k2)).trans k2⟩
    go_enter Tryz.func48, Tryz.ntmps48
    go_upto_region 1 with fail
    rw [HW.out]
    go_wp2_with fail
    refine HIX.out.mono ?_
    rintro e w1 ⟨rfl, rfl⟩
    go_wp2_with fail
    have hk0 : Below w1.heap.size w1 w1.drew := (Below.refl _ w1).drew
    clear q1 q2 k1 k2
    go_region_held3 (fun w' => w'.cell? ⟨bp, 0, none⟩ = some (.slice (some ⟨T, 0, none⟩) n c) ∧ w'.cell? ⟨bw, 0, none⟩ = some (.slice (some ⟨b, o, none⟩) n c2) ∧ w'.cell? ⟨T, i, none⟩ = some (.string S1) ∧ w'.cell? ⟨b, o + i, none⟩ = some (.string S2))
      (first | exact HS.out _ hk1 | exact HS.out _ hk0 | assumption | go_keep)
      (first
        | (go_at_call 51
           (with_reducible refine (HM.out _).mono ?_)
           rintro e w2 ⟨rfl, hB2⟩
           have hk1 := hk0.trans (hB2.mono hk0.size)))
    have HK := Lib.hid (HB.out.trans (hk1.mono HB.out.size))
    clear hk0 hB2 hk1
    go_wp2_with fail
    refine (HN.out _ HK.out).mono ?_
    rintro e w3 ⟨he, hB3⟩
    rcases HNE.out with h | ⟨u, h⟩
    · rw [h] at he
      subst he
      exact ⟨rfl, h.symm, HK.out.trans (hB3.mono HK.out.size)⟩
    · rw [h] at he
      subst he
      go_wp2
      go_ret
      exact ⟨h.symm, HK.out.trans (hB3.mono HK.out.size)⟩
/-- What the number is, if it is one. -/
def instO (P W : Nat → List UInt8) (n : Nat) (m : UInt8) (wd other : Nat) : Option Nat := match fldAt P m n with
  | none => some other
  | some i => numW wd (mrk (P i) (W i)).1
def endO : Option Nat → Ending
  | some u => .returned (.int .u32 u)
  | none => badE
theorem instN_eq (P W : Nat → List UInt8) (n : Nat) (m : UInt8) (wd other : Nat) : instN P W n m wd other = endO (instO P W n m wd other) := by
  unfold instN instO
  cases fldAt P m n with
  | none => rfl
  | some i => unfold numE endO; rfl
theorem numW_lt {wd : Nat} (hw : Wd wd) {l : List UInt8} {u : Nat} (h : numW wd l = some u) : u < 2 ^ wd := by
  unfold numW at h
  split at h
  · rename_i v hv
    split at h
    · obtain rfl : v = u := by simpa using h
      have := Lib.parseUintB_le hv
      rcases hw with rfl | rfl | rfl <;> simp <;> omega
    · cases h
  · cases h
theorem instO_lt {P W : Nat → List UInt8} {n : Nat} {m : UInt8} {wd other : Nat} (hw : Wd wd) (ho : other < 2 ^ wd) {u : Nat} (h : instO P W n m wd other = some u) : u < 2 ^ wd := by
  unfold instO at h
  split at h
  · obtain rfl : other = u := by simpa using h
    exact ho
  · exact numW_lt hw h
/-- An instruction, if all four numbers are. -/
def instQ (o1 o2 o3 o4 : Option Nat) : Ending := match o1, o2, o3, o4 with
  | some c, some t, some f, some k => .returned (.agg (instA c t f k))
  | _, _, _, _ => badE
def instE (j : Nat) (W : Nat → List UInt8) : Ending := instQ (instO (fldN j) W (flds j).length 67 16 (codeQ j)) (instO (fldN j) W (flds j).length 84 8 0) (instO (fldN j) W (flds j).length 70 8 0) (instO (fldN j) W (flds j).length 75 32 0)
theorem codeQ_lt : ∀ j, j < 42 → codeQ j < 65536 := by decide +kernel
set_option maxHeartbeats 16000000 in
set_option maxRecDepth 100000 in
theorem instOf_fits (b o n c2 : Nat) (W : Nat → List UInt8) (hW : ∀ i, i < n → (W i).length ≤ 100000) (hn : n ≤ 1000000) (j : Nat) (hj : j < 42) (hf : fitQ n W j = true) (hno : ∀ i, i < j → fitQ n W i = false) (w : World) (h2 : WdP w b o n W) (he : EnvN w) :
    Calls Tryz.prog 33 #[.slice (some ⟨b, o, none⟩) n c2] w fun e w' => e = instE j W ∧ Below w.heap.size w w' := by
  obtain ⟨q1, q2, q3, q4⟩ := flds_chk j hj
  have hnl : (flds j).length = n := by
    unfold fitQ at hf
    rw [Bool.and_eq_true] at hf
    exact of_decide_eq_true hf.1
  obtain ⟨W0, hW0⟩ : ∃ X, (w.alloc (.cells #[.slice (some ⟨b, o, none⟩) n c2] 35)).alloc (.cells #[.int .u16 0, .int .u8 0, .int .u8 0, .int .u32 0] 25) = X := ⟨_, rfl⟩
  have hb0 : Below w.heap.size w W0 := by rw [← hW0]; exact ((Below.refl _ _).alloc (Nat.le_refl _) _).alloc (by simp) _
  have r0 : RowC W0 w.heap.size #[.slice (some ⟨b, o, none⟩) n c2] 35 := by rw [← hW0]; exact (RowC.new _ _ _ _ rfl).alloc _
  have r1 : RowC W0 (w.heap.size + 1) #[.int .u16 0, .int .u8 0, .int .u8 0, .int .u32 0] 25 := by rw [← hW0]; exact RowC.new _ _ _ _ (by simp)
  have HFO := Lib.hid (formOf_fits b o n c2 W hW hn j hj hf hno W0 (h2.below hb0) (envN_on he hb0 (Nat.le_refl _)).r)
  have k0 := r0.cell 0 _ rfl
  have HFP := Lib.hid fun X h => fieldsP_any j hj X h
  have HB := Lib.hid hb0
  have HW := Lib.hid hW0
  have HR0 := Lib.hid r0
  have HR1 := Lib.hid r1
  have HE := Lib.hid he
  have H2 := Lib.hid h2
  have l1 : ∀ u, instO (fldN j) W (flds j).length 67 16 (codeQ j) = some u → u < 65536 := fun u h => instO_lt (.inr (.inl rfl)) (codeQ_lt j hj) h
  have l2 : ∀ u, instO (fldN j) W (flds j).length 84 8 0 = some u → u < 256 := fun u h => instO_lt (.inl rfl) (by decide) h
  have l3 : ∀ u, instO (fldN j) W (flds j).length 70 8 0 = some u → u < 256 := fun u h => instO_lt (.inl rfl) (by decide) h
  have l4 : ∀ u, instO (fldN j) W (flds j).length 75 32 0 = some u → u < 4294967296 := fun u h => instO_lt (.inr (.inr rfl)) (by decide) h
  have hc := codeQ_lt j hj
  have HCL : ∀ (m : UInt8) (wd : Nat) (hw : Wd wd) (wi : Int) (_ : (wd : Int) = wi) (other : Nat) (oi : Int) (_ : (other : Int) = oi) (T bp bw : Nat) (X : World) (hp : X.cell? ⟨bp, 0, none⟩ = some (.slice (some ⟨T, 0, none⟩) n n)) (hwd : X.cell? ⟨bw, 0, none⟩ = some (.slice (some ⟨b, o, none⟩) n c2)) (h1 : WdP X T 0 n (fldN j)) (h2 : WdP X b o n W) (he : EnvN X),
      Calls Tryz.prog 48 #[.string ⟨#[m]⟩, .int .i64 wi, .int .u32 oi, .pointer (some ⟨bp, 0, none⟩), .pointer (some ⟨bw, 0, none⟩)] X fun e w' => e = instN (fldN j) W n m wd other ∧ Below X.heap.size X w' := by
    intro m wd hw wi hwi other oi hoi T bp bw X hp hwd h1 h2 he
    subst hwi
    subst hoi
    exact inst1_any m wd hw other (fldN j) n n T bp (fun i hi => q2 i (by omega)) b o c2 bw W hW hn X hp hwd h1 h2 he
  unfold instE
  rw [hnl] at l1 l2 l3 l4 HFP ⊢
  simp only [instN_eq] at HCL
  obtain ⟨P, hP⟩ : ∃ P, fldN j = P := ⟨_, rfl⟩
  obtain ⟨cd, hcd⟩ : ∃ c, codeQ j = c := ⟨_, rfl⟩
  obtain ⟨S, hS⟩ : ∃ S : ByteArray, (⟨(patQ j).toArray⟩ : ByteArray) = S := ⟨_, rfl⟩
  rw [hP, hcd] at l1
  rw [hP] at l2 l3 l4 HCL HFP
  rw [hcd, hS] at HFO
  rw [hS] at HFP
  rw [hcd] at hc
  rw [hP, hcd]
  have C1 := Lib.hid (HCL 67 16 (.inr (.inl rfl)) 16 rfl cd cd rfl)
  have C2 := Lib.hid (HCL 84 8 (.inl rfl) 8 rfl 0 0 rfl)
  have C3 := Lib.hid (HCL 70 8 (.inl rfl) 8 rfl 0 0 rfl)
  have C4 := Lib.hid (HCL 75 32 (.inr (.inr rfl)) 32 rfl 0 0 rfl)
  generalize instO P W n 67 16 cd = o1 at *
  generalize instO P W n 84 8 0 = o2 at *
  generalize instO P W n 70 8 0 = o3 at *
  generalize instO P W n 75 32 0 = o4 at *
  have v0 : IntKind.u32.wrap (cd : Int) = (cd : Int) := IntWalk.u32_in _ (by omega)
  clear hb0 hW0 r0 r1 he h2 hf hno q1 q2 q3 q4 hnl hP hcd hS HCL hW
  have hmf : ∀ (fn : Fn) (first cap : Array Value) (w : World), (Instr.makeFunc fn first cap).run Tryz.prog w = .ok (.func fn first cap) w := fun _ _ _ _ => rfl
  go_enter Tryz.func33, Tryz.ntmps33
  go_upto_region 1 with fail
  rw [HW.out]
  go_wp2_with fail
  refine HFO.out.mono ?_
  rintro e w1 ⟨rfl, hB1⟩
  obtain ⟨WA, hWA⟩ : ∃ X, w1.alloc (.cells #[.int .u16 cd, .string S] 56) = X := ⟨_, rfl⟩
  have rA : RowC WA w1.heap.size #[.int .u16 cd, .string S] 56 := by rw [← hWA]; exact RowC.new _ _ _ _ rfl
  have hbA1 : Below w1.heap.size w1 WA := by rw [← hWA]; exact (Below.refl _ _).alloc (Nat.le_refl _) _
  have hbA0 : Below W0.heap.size W0 WA := hB1.trans (hbA1.mono hB1.size)
  have hbA : Below w.heap.size w WA := HB.out.trans (hbA0.mono HB.out.size)
  have HFA := Lib.hid (HFP.out WA (envN_on HE.out hbA (Nat.le_refl _)).r)
  have kA := rA.cell 1 _ rfl
  have HWA := Lib.hid hWA
  have HRA := Lib.hid rA
  have HBA := Lib.hid hbA
  have HBA0 := Lib.hid hbA0
  clear hWA rA hbA1 hbA0 hbA hB1 HFO HFP
  go_upto_region 2 with fail
  rw [HWA.out]
  go_wp2_with fail
  refine HFA.out.mono ?_
  rintro e w2 ⟨rfl, hWd, hB2⟩
  obtain ⟨WB, hWB⟩ : ∃ X, w2.alloc (.cells #[.slice (some ⟨WA.heap.size, 0, none⟩) n n] 35) = X := ⟨_, rfl⟩
  have rB : RowC WB w2.heap.size #[.slice (some ⟨WA.heap.size, 0, none⟩) n n] 35 := by rw [← hWB]; exact RowC.new _ _ _ _ rfl
  have hbB2 : Below w2.heap.size w2 WB := by rw [← hWB]; exact (Below.refl _ _).alloc (Nat.le_refl _) _
  have hbBA : Below WA.heap.size WA WB := hB2.trans (hbB2.mono hB2.size)
  have hbB : Below w.heap.size w WB := HBA.out.trans (hbBA.mono HBA.out.size)
  have hbB0 : Below W0.heap.size W0 WB := HBA0.out.trans (hbBA.mono HBA0.out.size)
  have rF := HRA.out.below hbBA HRA.out.lt
  have HX : Hid (∀ X, Below WB.heap.size WB X → X.cell? ⟨w2.heap.size, 0, none⟩ = some (.slice (some ⟨WA.heap.size, 0, none⟩) n n) ∧ X.cell? ⟨w.heap.size, 0, none⟩ = some (.slice (some ⟨b, o, none⟩) n c2) ∧ WdP X WA.heap.size 0 n P ∧ WdP X b o n W ∧ EnvN X) := Lib.hid fun X hX =>
    ⟨(rB.below hX rB.lt).cell 0 _ rfl, ((HR0.out.below hbB0 HR0.out.lt).below hX (Nat.lt_of_lt_of_le HR0.out.lt hbB0.size)).cell 0 _ rfl, (hWd.below hbB2).below hX, (H2.out.below hbB).below hX, envN_on (envN_on HE.out hbB (Nat.le_refl _)) hX (Nat.le_refl _)⟩
  have HRI := Lib.hid (HR1.out.below hbB0 HR1.out.lt)
  have kf := rF.cell 0 _ rfl
  have HWB := Lib.hid hWB
  have HBB := Lib.hid hbB
  clear hWd hB2 hWB rB hbB2 hbBA hbB hbB0 rF HFA HWA HRA k0 kA
  go_upto_region 3 with fail
  rw [HWB.out]
  go_wp2_with fail
  obtain ⟨x1, x2, x3, x4, x5⟩ := HX.out WB (Below.refl _ _)
  refine (C1.out _ _ _ _ x1 x2 x3 x4 x5).mono ?_
  clear x1 x2 x3 x4 x5
  rintro e w3 ⟨he, hB3⟩
  cases o1 with
  | none =>
    obtain rfl : e = badE := he
    exact ⟨rfl, rfl, HBB.out.trans (hB3.mono HBB.out.size)⟩
  | some c =>
    obtain rfl : e = .returned (.int .u32 c) := he
    have hc1 := l1 c rfl
    have v1 : IntKind.u16.wrap (c : Int) = (c : Int) := IntWalk.u16_in _ (by omega)
    have HB3 := Lib.hid (HBB.out.trans (hB3.mono HBB.out.size))
    have HX3 : Hid (Below WB.heap.size WB w3) := Lib.hid (hB3)
    clear hB3
    go_wp2_with fail
    obtain ⟨x1, x2, x3, x4, x5⟩ := HX.out w3 HX3.out
    refine (C2.out _ _ _ _ x1 x2 x3 x4 x5).mono ?_
    clear x1 x2 x3 x4 x5
    rintro e w4 ⟨he, hB4⟩
    cases o2 with
    | none =>
      obtain rfl : e = badE := he
      exact ⟨rfl, rfl, HB3.out.trans (hB4.mono HB3.out.size)⟩
    | some t =>
      obtain rfl : e = .returned (.int .u32 t) := he
      have hc2 := l2 t rfl
      have v2 : IntKind.u8.wrap (t : Int) = (t : Int) := IntWalk.u8_in _ (by omega)
      have HB4 := Lib.hid (HB3.out.trans (hB4.mono HB3.out.size))
      have HX4 : Hid (Below WB.heap.size WB w4) := Lib.hid (HX3.out.trans (hB4.mono HX3.out.size))
      clear hB4
      go_wp2_with fail
      obtain ⟨x1, x2, x3, x4, x5⟩ := HX.out w4 HX4.out
      refine (C3.out _ _ _ _ x1 x2 x3 x4 x5).mono ?_
      clear x1 x2 x3 x4 x5
      rintro e w5 ⟨he, hB5⟩
      cases o3 with
      | none =>
        obtain rfl : e = badE := he
        exact ⟨rfl, rfl, HB4.out.trans (hB5.mono HB4.out.size)⟩
      | some f =>
        obtain rfl : e = .returned (.int .u32 f) := he
        have hc3 := l3 f rfl
        have v3 : IntKind.u8.wrap (f : Int) = (f : Int) := IntWalk.u8_in _ (by omega)
        have HB5 := Lib.hid (HB4.out.trans (hB5.mono HB4.out.size))
        have HX5 : Hid (Below WB.heap.size WB w5) := Lib.hid (HX4.out.trans (hB5.mono HX4.out.size))
        clear hB5
        go_wp2_with fail
        obtain ⟨x1, x2, x3, x4, x5⟩ := HX.out w5 HX5.out
        refine (C4.out _ _ _ _ x1 x2 x3 x4 x5).mono ?_
        clear x1 x2 x3 x4 x5
        rintro e w6 ⟨he, hB6⟩
        cases o4 with
        | none =>
          obtain rfl : e = badE := he
          exact ⟨rfl, rfl, HB5.out.trans (hB6.mono HB5.out.size)⟩
        | some k =>
          obtain rfl : e = .returned (.int .u32 k) := he
          have hc4 := l4 k rfl
          have HB6 := Lib.hid (HB5.out.trans (hB6.mono HB5.out.size))
          have r6 := HRI.out.below (HX5.out.trans (hB6.mono HX5.out.size)) HRI.out.lt
          have f0 := r6.frozen 0
          have f1 := r6.frozen 1
          have f2 := r6.frozen 2
          have f3 := r6.frozen 3
          have z0 := r6.cell 0 _ rfl
          have z1 := r6.cell 1 _ rfl
          have z2 := r6.cell 2 _ rfl
          have z3 := r6.cell 3 _ rfl
          have HR6 := Lib.hid r6
          clear hB6 r6
          go_wp2
          refine bodyPost_ret (results_cell_row1L Tryz.results33 _ _ (w.heap.size + 1) 25 (instA c t f k) (0, 0) _ (by rfl) ((((HR6.out.set 0 (.int .u16 c)).set 1 (.int .u8 t)).set 2 (.int .u8 f)).set 3 (.int .u32 k)) Tryz.underlying25 (by rfl) (by kernel_rfl)) rfl ⟨rfl, (((HB6.out.setCell (Nat.le_succ _) _).setCell (Nat.le_succ _) _).setCell (Nat.le_succ _) _).setCell (Nat.le_succ _) _⟩
end Go.Proofs.YtebeoadmdflfcaaGreatDoor
