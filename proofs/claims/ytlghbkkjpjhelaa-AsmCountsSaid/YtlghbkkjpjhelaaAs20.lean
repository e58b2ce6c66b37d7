/-
  Layer 21, the document's answer: strainerref21.Reached. Made by gen_as20.py.
-/
import Derived.Test.YtlghbkkjpjhelaaAs19
import Derived.Laws.MakeOwn
namespace Go.Proofs.Ytlghbkkjpjhelaa
open Go.RowKit Go.Shelf Go.Maps
set_option linter.unusedVariables false

/-- A row of booleans. -/
def boolRow (n : Nat) (M : Nat → Bool) : Array Value := ((List.range n).map fun i => Value.bool (M i)).toArray
theorem boolRow_at (n : Nat) (M : Nat → Bool) (i : Nat) (hi : i < n) : (boolRow n M)[i]? = some (.bool (M i)) := by simp [boolRow, hi]
theorem boolRow_set (n : Nat) (M : Nat → Bool) (tt : Nat) : (boolRow n M).setIfInBounds tt (.bool true) = boolRow n (fun i => M i || i == tt) := by
  apply Array.ext_getElem?
  intro i
  rw [Array.getElem?_setIfInBounds]
  by_cases h : tt = i
  · subst h
    rw [if_pos rfl]
    by_cases hn : tt < n
    · simp [boolRow, hn]
    · simp [boolRow, hn]
  · rw [if_neg h]
    by_cases hn : i < n
    · have hne : (i == tt) = false := by simp; omega
      simp [boolRow, hn, hne]
    · simp [boolRow, hn]
theorem infoBool : (Try.prog.info? 4).map (fun i => (i.zero, i.size, i.bytes)) = some (some (.bool false), 1, 1) := by kernel_rfl
theorem mk_bools (n : Nat) (hn : n ≤ 4096) (W : World) : (Instr.makeSlice 69 (.int .i64 (n : Int)) (.int .i64 (n : Int))).run Try.prog W = .ok (.slice (some ⟨W.heap.size, 0, none⟩) n n) (W.alloc (.cells (boolRow n fun _ => false) 4)) := by
  obtain ⟨i0, hi0, hz0, hz1, hz2⟩ := info_parts infoBool
  have hr := run_make (P := Try.prog) W 69 4 i0 _ Try.underlying69 hi0 hz0 .i64 .i64 n n (by omega) (Int.le_refl _) (by rw [hz2]; omega) (by omega)
  rw [hz1] at hr
  simp only [Int.toNat_natCast] at hr
  have e : madeCells (Value.bool false).cells (n * 1) = boolRow n fun _ => false := by
    rw [Nat.mul_one]
    apply Array.ext_getElem?
    intro i
    by_cases hi : i < n
    · simp [madeCells, boolRow, hi, Value.cells, Nat.mod_one]
    · simp [madeCells, boolRow, hi, Value.cells]
  rw [e] at hr
  exact hr
theorem RowC.setBool {w : World} {b n : Nat} {M : Nat → Bool} (h : RowC w b (boolRow n M) 4) (tt : Nat) : RowC (w.setCell ⟨b, tt, none⟩ (.bool true)) b (boolRow n fun i => M i || i == tt) 4 := by
  have := h.set tt (.bool true)
  rw [boolRow_set] at this
  exact this
theorem mark_uniq {l : List IT} (hF : FormedI l) {i j : Nat} (hi : i < l.length) (hj : j < l.length) (h0 : l[i]!.m ≠ 0) (h : l[j]!.m = l[i]!.m) : i = j := by
  rcases Nat.lt_trichotomy i j with e | e | e
  · exact absurd h.symm ((hF.1 j hj (by rw [h]; exact h0)).1 i e)
  · exact e
  · exact absurd h ((hF.1 i hi h0).1 j e)
theorem tgt_uniq {l : List IT} (hF : FormedI l) {i p q : Nat} {k : Int} (h : Tgt l i k p) (h2 : Tgt l i k q) : p = q := by
  rcases h with ⟨rfl, h⟩ | ⟨h0, a, a1, a2, a3, a4⟩
  · rcases h2 with ⟨_, h2⟩ | ⟨h2, _⟩
    · exact h.uniq h2
    · exact absurd rfl h2
  · rcases h2 with ⟨h2, _⟩ | ⟨_, b, b1, b2, b3, b4⟩
    · exact absurd h2 h0
    · have : a = b := mark_uniq hF a2 b2 (by rw [a3]; exact h0) (by rw [a3, b3])
      subst this
      exact a4.uniq b4
theorem tgt_le {l : List IT} {i p : Nat} {k : Int} (h : Tgt l i k p) : i ≤ p := by
  rcases h with ⟨_, h⟩ | ⟨_, a, a1, _, _, a4⟩
  · exact h.1
  · exact Nat.le_trans a1 a4.1
theorem tgt_mark {l : List IT} (hF : FormedI l) {k q p : Nat} {tq : Int} (hk : k < l.length) (h0 : ¬ tq = 0) (hb : BehindI l k tq) (hq : PlR l l.length tq q) (hp : Beh l q p) : Tgt l (k + 1) tq p := by
  rcases hb with hb | ⟨j, j1, j2, j3⟩
  · exact absurd hb h0
  · rcases hq with ⟨q1, q2⟩ | ⟨_, q2⟩
    · have : j = q := mark_uniq hF j2 q1 (by rw [j3]; exact h0) (by rw [q2, j3])
      subst this
      exact .inr ⟨h0, j, j1, j2, j3, hp⟩
    · exact absurd j3 (q2 j j2)
theorem lead_br {x : IT} (h : ¬ ik x < 25) (h2 : ik x ≤ 28) : leadsI x = [x.t, x.f] := by
  unfold leadsI
  rw [if_neg (by omega), if_neg (by omega), if_pos (isBr_of h h2)]
theorem lead_13 {x : IT} (h : ik x = 13) : leadsI x = [x.t] := by
  unfold leadsI
  rw [if_neg (by omega), if_pos h]
theorem lead_no {x : IT} (h1 : ¬ ik x = 14) (h2 : ¬ ik x = 15) (h3 : ¬ ik x = 13) (h4 : ik x < 25) : leadsI x = [0] := by
  unfold leadsI
  rw [if_neg (by omega), if_neg h3, if_neg (by rw [notBr_of h4]; decide)]
theorem lead_ret {x : IT} (h : ik x = 14 ∨ ik x = 15) : leadsI x = [] := by
  unfold leadsI
  rw [if_pos h]
theorem may_13 {x : IT} (h : ik x = 13) (hm : mayN x = true) : x.f = 0 := by
  unfold mayN at hm
  rw [if_neg (by rw [notBr_of (by omega)]; decide), if_pos h] at hm
  simpa using hm
theorem may_no {x : IT} (h4 : ik x < 25) (h3 : ¬ ik x = 13) (hm : mayN x = true) : x.t = 0 ∧ x.f = 0 := by
  unfold mayN at hm
  rw [if_neg (by rw [notBr_of h4]; decide), if_neg h3] at hm
  simpa using hm
/-- What the row tells at item k. -/
def RowR (l : List IT) (n k : Nat) (M : Nat → Bool) : Prop := (∀ p, k ≤ p → p ≤ n → (M p = true ↔ Src l (sOf l k) k p)) ∧ ∀ p, p < k → l[p]!.m = 0 → M p = sOf l p 0
theorem row_done {l : List IT} {n k : Nat} {M : Nat → Bool} (hn : l.length = n) (hk : k < l.length) (h1 : ∀ p, k ≤ p → p ≤ n → (M p = true ↔ Src l (sOf l k) k p)) (h2 : ∀ p, p < k → l[p]!.m = 0 → M p = sOf l p 0) {M' : Nat → Bool} (he : ∀ p, p ≤ k → M' p = M p)
    (h3 : ∀ p, k + 1 ≤ p → p ≤ n → (M' p = true ↔ Src l (sOf l (k + 1)) (k + 1) p)) : RowR l n (k + 1) M' := by
  refine ⟨h3, fun p hp hm => ?_⟩
  rw [he p (by omega)]
  by_cases e : p < k
  · exact h2 p e hm
  · have : p = k := by omega
    subst this
    have h := h1 p (Nat.le_refl _) (by omega)
    rw [src_here hk hm] at h
    exact Bool.eq_iff_iff.2 h
theorem row_mark {l : List IT} (hF : FormedI l) {n k : Nat} {M : Nat → Bool} (hn : l.length = n) (h1 : ∀ p, k ≤ p → p ≤ n → (M p = true ↔ Src l (sOf l k) k p)) (h2 : ∀ p, p < k → l[p]!.m = 0 → M p = sOf l p 0) (hk : k < l.length) (hm : l[k]!.m ≠ 0) : RowR l n (k + 1) M := by
  refine ⟨fun p hp hpn => (h1 p (by omega) hpn).trans (src_mark hF hk hm hp), fun p hp hm2 => ?_⟩
  by_cases e : p < k
  · exact h2 p e hm2
  · have : p = k := by omega
    subst this
    exact absurd hm2 hm
theorem row_skip {l : List IT} {n k : Nat} {M : Nat → Bool} (hn : l.length = n) (h1 : ∀ p, k ≤ p → p ≤ n → (M p = true ↔ Src l (sOf l k) k p)) (h2 : ∀ p, p < k → l[p]!.m = 0 → M p = sOf l p 0) (hk : k < l.length) (hm : l[k]!.m = 0) (h0 : sOf l k 0 = false) : RowR l n (k + 1) M :=
  row_done hn hk h1 h2 (fun _ _ => rfl) fun p hp hpn => (h1 p (by omega) hpn).trans (src_skip hk hm h0 hp)
theorem row_ret {l : List IT} {n k : Nat} {M : Nat → Bool} (hn : l.length = n) (h1 : ∀ p, k ≤ p → p ≤ n → (M p = true ↔ Src l (sOf l k) k p)) (h2 : ∀ p, p < k → l[p]!.m = 0 → M p = sOf l p 0) (hk : k < l.length) (hm : l[k]!.m = 0) (h0 : sOf l k 0 = true) (hl : leadsI l[k]! = []) : RowR l n (k + 1) M :=
  row_done hn hk h1 h2 (fun _ _ => rfl) fun p hp hpn => by
    rw [src_add hk hm h0 hp, hl, h1 p (by omega) hpn]
    simp
theorem mk_one {l : List IT} (hF : FormedI l) {n k y : Nat} {M : Nat → Bool} {a : Int} (hn : l.length = n) (h1 : ∀ p, k ≤ p → p ≤ n → (M p = true ↔ Src l (sOf l k) k p)) (h2 : ∀ p, p < k → l[p]!.m = 0 → M p = sOf l p 0) (hk : k < l.length) (hm : l[k]!.m = 0) (h0 : sOf l k 0 = true) (hl : leadsI l[k]! = [a]) (ht : Tgt l (k + 1) a y) : RowR l n (k + 1) (fun i => M i || i == y) := by
  have hy := tgt_le ht
  refine row_done hn hk h1 h2 (fun p hp => ?_) fun p hp hpn => ?_
  · rw [show (p == y) = false by simp; omega, Bool.or_false]
  · rw [src_add hk hm h0 hp, hl, Bool.or_eq_true, h1 p (by omega) hpn]
    refine or_congr Iff.rfl ⟨fun h => ⟨a, by simp, by rw [show p = y by simpa using h]; exact ht⟩, fun ⟨b, hb, h⟩ => ?_⟩
    rw [List.mem_singleton.1 hb] at h
    simp [tgt_uniq hF h ht]
theorem mk_two {l : List IT} (hF : FormedI l) {n k y z : Nat} {M : Nat → Bool} {a b : Int} (hn : l.length = n) (h1 : ∀ p, k ≤ p → p ≤ n → (M p = true ↔ Src l (sOf l k) k p)) (h2 : ∀ p, p < k → l[p]!.m = 0 → M p = sOf l p 0) (hk : k < l.length) (hm : l[k]!.m = 0) (h0 : sOf l k 0 = true) (hl : leadsI l[k]! = [a, b]) (ht : Tgt l (k + 1) a y) (hz : Tgt l (k + 1) b z) : RowR l n (k + 1) (fun i => (M i || i == y) || i == z) := by
  have hy := tgt_le ht
  have hz2 := tgt_le hz
  refine row_done hn hk h1 h2 (fun p hp => ?_) fun p hp hpn => ?_
  · rw [show (p == y) = false by simp; omega, show (p == z) = false by simp; omega, Bool.or_false, Bool.or_false]
  · rw [src_add hk hm h0 hp, hl, Bool.or_eq_true, Bool.or_eq_true, h1 p (by omega) hpn, or_assoc]
    refine or_congr Iff.rfl ⟨?_, fun ⟨q, hb, h⟩ => ?_⟩
    · rintro (h | h)
      · exact ⟨a, by simp, by rw [show p = y by simpa using h]; exact ht⟩
      · exact ⟨b, by simp, by rw [show p = z by simpa using h]; exact hz⟩
    · simp only [List.mem_cons, List.not_mem_nil, or_false] at hb
      rcases hb with rfl | rfl
      · exact .inl (by simp [tgt_uniq hF h ht])
      · exact .inr (by simp [tgt_uniq hF h hz])
set_option maxRecDepth 100000 in
set_option maxHeartbeats 16000000 in
theorem refReached_any (A : Option Addr) (n c : Nat) (l : List IT) (w : World) (hn : l.length = n) (hn1 : n ≤ 1000) (hr : Cel w w.heap.size 5 A n c (itcell fun i => l[i]!)) (hok : ∀ x ∈ l, x.ok) (hF : FormedI l) :
    Calls Try.prog 26 #[.slice A n c] w fun e w' => ∃ (c' : Nat) (M : Nat → Bool), e = .returned (.slice (some ⟨w.heap.size, 0, none⟩) n c') ∧ Below w.heap.size w w' ∧ w.heap.size < w'.heap.size ∧ (∀ p, p < n → w'.cell? ⟨w.heap.size, p, none⟩ = some (.bool (M p))) ∧ ∀ p, p < n → l[p]!.m = 0 → M p = sOf l p 0 := by
  have HR := Lib.hid hr
  have HOK := Lib.hid hok
  have HN := Lib.hid hn
  have HF := Lib.hid hF
  clear hr hok hn hF
  have hmk := mk_bools (n + 1) (by omega) w
  rw [show ((n + 1 : Nat) : Int) = (n : Int) + 1 by omega] at hmk
  obtain ⟨W1, hW1⟩ : ∃ W, w.alloc (.cells (boolRow (n + 1) fun _ => false) 4) = W := ⟨_, rfl⟩
  have hR1 : RowC W1 w.heap.size (boolRow (n + 1) fun _ => false) 4 := by rw [← hW1]; exact RowC.new _ _ _ _ rfl
  have hB1 : Below w.heap.size w W1 := by rw [← hW1]; exact (Below.refl _ _).alloc (Nat.le_refl _) _
  rw [hW1] at hmk
  go_enter Try.func26, Try.ntmps26
  go_wp2_with fail
  refine (behind_any A n c l 0 W1 HN.out (by omega) (Nat.zero_le _) ((HR.out.below hB1).more hB1.size)).mono ?_
  rintro e w' ⟨p0, rfl, hw9, hp0, hp0n⟩
  obtain rfl : W1 = w' := hw9
  have c1 := hR1.cell p0 _ (boolRow_at (n + 1) _ p0 (by omega))
  have z1 := hR1.frozen p0
  have hR2 := hR1.setBool p0
  have hB2 : Below w.heap.size w (W1.setCell ⟨w.heap.size, p0, none⟩ (.bool true)) := hB1.setCell (p := ⟨w.heap.size, p0, none⟩) (Nat.le_refl _) _
  have HR2 := Lib.hid hR2
  have HP0 := Lib.hid hp0
  clear hmk hW1
  go_wp2
  go_loopw [4] (fun i wr => ∃ k : Nat, k ≤ n ∧ i = .int .i64 k ∧ Hid (∃ M, RowC wr w.heap.size (boolRow (n + 1) M) 4 ∧ RowR l n k M) ∧ Below w.heap.size w wr)
    (fun i _ => n - (intOf i).toNat)
  case atStart =>
    refine ⟨0, Nat.zero_le _, rfl, Lib.hid ⟨_, HR2.out, fun p _ _ => ?_, fun p h => absurd h (Nat.not_lt_zero _)⟩, hB2⟩
    rw [src_zero]
    exact ⟨fun h => by rw [show p = p0 by simpa using h]; exact HP0.out, fun h => by simp [h.uniq HP0.out]⟩
  case round =>
    obtain ⟨k, hk, rfl, HI, hB⟩ := hrel
    obtain ⟨M, hR, hM1, hM2⟩ := HI.out
    have HM1 := Lib.hid hM1
    have HM2 := Lib.hid hM2
    clear HI hM1 hM2 hR1 hB1 c1 z1 hR2 hB2
    by_cases hlt : k < n
    · have hkl : k < l.length := by rw [HN.out]; exact hlt
      obtain ⟨x, hx⟩ : ∃ x, l[k]! = x := ⟨_, rfl⟩
      have hxo : x.ok := HOK.out x (by rw [← hx, getElem!_pos l k hkl]; exact List.getElem_mem _)
      have hitem := HF.out.2.1 k hkl
      unfold ItemOk at hitem
      rw [hx] at hitem
      have HMAY := Lib.hid hitem.2.1
      have HBT := Lib.hid hitem.2.2.1
      have HBF := Lib.hid hitem.2.2.2
      obtain ⟨b, off, rfl, hb, q0, q1, q2, q3, q4⟩ := it_at (HR.out.below hB) hlt hx
      have i1 : (0 : Int) ≤ (k : Int) := by omega
      have i2 : (k : Int) < (n : Int) := by omega
      have i3 : (k : Int) < (n : Int) + 1 := by omega
      obtain ⟨KK, hKK⟩ : ∃ z, ik x = z := ⟨_, rfl⟩
      have hkr := ik_range x
      rw [hKK] at hkr
      have HKK := Lib.hid hKK
      have HXO := Lib.hid hxo
      have HX := Lib.hid hx
      have c0 := hR.cell k _ (boolRow_at (n + 1) M k (by omega))
      obtain ⟨bk, hbk⟩ : ∃ z, M k = z := ⟨_, rfl⟩
      rw [hbk] at c0
      have HBK2 := Lib.hid hbk
      have HRR0 := Lib.hid hR
      have HHB := Lib.hid hb
      clear hx hxo hKK hitem hb hbk
      by_cases hm0 : x.m = 0
      · have f0 : (x.m != 0) = false := by simp [hm0]
        have HM0 : Hid (l[k]!.m = 0) := Lib.hid (by rw [HX.out]; exact hm0)
        have HS0 : Hid (sOf l k 0 = bk) := Lib.hid (by
          have h := HM1.out k (Nat.le_refl _) (by omega)
          rw [src_here hkl HM0.out, HBK2.out] at h
          exact (Bool.eq_iff_iff.2 h).symm)
        rw [hm0] at q0
        cases bk with
        | false =>
          have HNX := Lib.hid (row_skip HN.out HM1.out HM2.out hkl HM0.out HS0.out)
          have HRR := Lib.hid hR
          clear hR
          go_wp2
          exact ⟨⟨k + 1, by omega, by go_num, Lib.hid ⟨M, HRR.out, HNX.out⟩, hB⟩, by simp [intOf]; omega⟩
        | true =>
          go_wp2_with fail
          refine (refOf_any x.c _ (by omega) (by have := HXO.out.1; omega)).mono ?_
          rw [show (ofF (x.c : Int)).1 = KK from HKK.out]
          rintro e w3 ⟨rfl, hB4⟩
          have hB3 := hB.trans (hB4.mono hB.size)
          have hR3 := HRR0.out.below hB4 HRR0.out.lt
          have ce : ∀ j v, wr.cell? ⟨b, off + k * 5 + j, none⟩ = v → w3.cell? ⟨b, off + k * 5 + j, none⟩ = v := fun j v h => (hB4.cell (p := ⟨b, off + k * 5 + j, none⟩) (Nat.lt_of_lt_of_le HHB.out hB.size)).trans h
          have q3' := ce 3 _ q3
          have q4' := ce 4 _ q4
          have hcelw := (HR.out.below hB3).more hB3.size
          have HBC : Hid (∀ i, i ≤ n → Calls Try.prog 44 #[.slice (some ⟨b, off, none⟩) n c, .int .i64 (i : Int)] w3 fun e w' => ∃ p : Nat, e = .returned (.int .i64 (p : Int)) ∧ w3 = w' ∧ Beh l i p ∧ p ≤ n) := Lib.hid fun i hi => behind_any _ n c l i w3 HN.out (by omega) hi hcelw
          have HBK : Hid (Calls Try.prog 44 #[.slice (some ⟨b, off, none⟩) n c, .int .i64 ((k : Int) + 1)] w3 fun e w' => ∃ p : Nat, e = .returned (.int .i64 (p : Int)) ∧ w3 = w' ∧ Beh l (k + 1) p ∧ p ≤ n) := Lib.hid (by
            have h := HBC.out (k + 1) hlt
            rwa [show ((k + 1 : Nat) : Int) = (k : Int) + 1 by omega] at h)
          have HPC : Hid (∀ mk, Calls Try.prog 45 #[.slice (some ⟨b, off, none⟩) n c, .int .i64 mk] w3 fun e w' => ∃ q : Nat, e = .returned (.int .i64 (q : Int)) ∧ w3 = w' ∧ PlR l l.length mk q ∧ q ≤ n) := Lib.hid fun mk => by rw [HN.out]; exact place_any _ n c l mk w3 (by omega) hcelw
          clear hR c0 q0 q1 q2 q3 q4 hB hB4 ce hcelw
          have hR := hR3
          have hB := hB3
          have q3 := q3'
          have q4 := q4'
          clear hR3 hB3 q3' q4'
          by_cases h14 : KK = 14
          · have g14 : (KK == 14) = true := by simp [h14]
            have HNX := Lib.hid (row_ret HN.out HM1.out HM2.out hkl HM0.out HS0.out (by rw [HX.out]; exact lead_ret (.inl (by rw [HKK.out]; exact h14))))
            have HRR := Lib.hid hR
            clear hR
            go_wp2
            exact ⟨⟨k + 1, by omega, by go_num, Lib.hid ⟨M, HRR.out, HNX.out⟩, hB⟩, by simp [intOf]; omega⟩
          have g14 : (KK == 14) = false := beq_eq_false_iff_ne.2 h14
          by_cases h15 : KK = 15
          · have g15 : (KK == 15) = true := by simp [h15]
            have HNX := Lib.hid (row_ret HN.out HM1.out HM2.out hkl HM0.out HS0.out (by rw [HX.out]; exact lead_ret (.inr (by rw [HKK.out]; exact h15))))
            have HRR := Lib.hid hR
            clear hR
            go_wp2
            exact ⟨⟨k + 1, by omega, by go_num, Lib.hid ⟨M, HRR.out, HNX.out⟩, hB⟩, by simp [intOf]; omega⟩
          have g15 : (KK == 15) = false := beq_eq_false_iff_ne.2 h15
          by_cases h25 : KK < 25
          · have g25 : ¬ KK ≥ 25 := by omega
            by_cases h13 : KK = 13
            · have hf0 : x.f = 0 := may_13 (by rw [HKK.out]; exact h13) HMAY.out
              have HLD := Lib.hid (lead_13 (x := x) (by rw [HKK.out]; exact h13))
              have gf : (x.f != 0) = false := by simp [hf0]
              go_wp2_with fail
              refine (HBK.out).mono ?_
              rintro e w' ⟨p1, rfl, hw9, hp1, hp1n⟩
              obtain rfl : w3 = w' := hw9
              go_wp2_with fail
              refine (HBK.out).mono ?_
              rintro e w' ⟨p2, rfl, hw9, hp2, hp2n⟩
              obtain rfl : w3 = w' := hw9
              obtain rfl : p1 = p2 := hp1.uniq hp2
              have k1 : k + 1 ≤ p1 := hp1.1
              have HP1 := Lib.hid (show Tgt l (k + 1) 0 p1 from .inl ⟨rfl, hp1⟩)
              clear hp2 hp1
              by_cases ht0 : x.t = 0
              · have gt : (x.t != 0) = false := by simp [ht0]
                have HT1 : Hid (Tgt l (k + 1) x.t p1) := Lib.hid (by rw [ht0]; exact HP1.out)
                have c1 := hR.cell p1 _ (boolRow_at (n + 1) M p1 (by omega))
                have z1 := hR.frozen p1
                have hR2 := hR.setBool p1
                have hB2 : Below w.heap.size w (w3.setCell ⟨w.heap.size, p1, none⟩ (.bool true)) := hB.setCell (p := ⟨w.heap.size, p1, none⟩) (Nat.le_refl _) _
                have HNX := Lib.hid (mk_one HF.out HN.out HM1.out HM2.out hkl HM0.out HS0.out (by rw [HX.out]; exact HLD.out) HT1.out)
                have HR3 := Lib.hid hR2
                have HB3 := Lib.hid hB2
                clear hR2 hB2 hR
                go_wp2
                exact ⟨⟨k + 1, by omega, by go_num, Lib.hid ⟨_, HR3.out, HNX.out⟩, HB3.out⟩, by simp [intOf]; omega⟩
              · have gt : (x.t != 0) = true := by simp [ht0]
                go_wp2_with fail
                refine (HPC.out x.t).mono ?_
                rintro e w' ⟨q3, rfl, hw9, hq3, hq3n⟩
                obtain rfl : w3 = w' := hw9
                go_wp2_with fail
                refine (HBC.out q3 hq3n).mono ?_
                rintro e w' ⟨p3, rfl, hw9, hp3, hp3n⟩
                obtain rfl : w3 = w' := hw9
                have HTp3 := Lib.hid (tgt_mark HF.out hkl ht0 (by have h := HBT.out; exact h) hq3 hp3)
                have kp3 : k + 1 ≤ p3 := tgt_le HTp3.out
                clear hq3 hp3
                have HT1 := HTp3
                have c1 := hR.cell p3 _ (boolRow_at (n + 1) M p3 (by omega))
                have z1 := hR.frozen p3
                have hR2 := hR.setBool p3
                have hB2 : Below w.heap.size w (w3.setCell ⟨w.heap.size, p3, none⟩ (.bool true)) := hB.setCell (p := ⟨w.heap.size, p3, none⟩) (Nat.le_refl _) _
                have HNX := Lib.hid (mk_one HF.out HN.out HM1.out HM2.out hkl HM0.out HS0.out (by rw [HX.out]; exact HLD.out) HT1.out)
                have HR3 := Lib.hid hR2
                have HB3 := Lib.hid hB2
                clear hR2 hB2 hR
                go_wp2
                exact ⟨⟨k + 1, by omega, by go_num, Lib.hid ⟨_, HR3.out, HNX.out⟩, HB3.out⟩, by simp [intOf]; omega⟩
            · obtain ⟨ht0, hf0⟩ := may_no (by rw [HKK.out]; omega) (by rw [HKK.out]; exact h13) HMAY.out
              have HLD := Lib.hid (lead_no (x := x) (by rw [HKK.out]; exact h14) (by rw [HKK.out]; exact h15) (by rw [HKK.out]; exact h13) (by rw [HKK.out]; omega))
              have gt : (x.t != 0) = false := by simp [ht0]
              have gf : (x.f != 0) = false := by simp [hf0]
              go_wp2_with fail
              refine (HBK.out).mono ?_
              rintro e w' ⟨p1, rfl, hw9, hp1, hp1n⟩
              obtain rfl : w3 = w' := hw9
              go_wp2_with fail
              refine (HBK.out).mono ?_
              rintro e w' ⟨p2, rfl, hw9, hp2, hp2n⟩
              obtain rfl : w3 = w' := hw9
              obtain rfl : p1 = p2 := hp1.uniq hp2
              have k1 : k + 1 ≤ p1 := hp1.1
              have HP1 := Lib.hid (show Tgt l (k + 1) 0 p1 from .inl ⟨rfl, hp1⟩)
              clear hp2 hp1
              have HT1 := HP1
              have c1 := hR.cell p1 _ (boolRow_at (n + 1) M p1 (by omega))
              have z1 := hR.frozen p1
              have hR2 := hR.setBool p1
              have hB2 : Below w.heap.size w (w3.setCell ⟨w.heap.size, p1, none⟩ (.bool true)) := hB.setCell (p := ⟨w.heap.size, p1, none⟩) (Nat.le_refl _) _
              have HNX := Lib.hid (mk_one HF.out HN.out HM1.out HM2.out hkl HM0.out HS0.out (by rw [HX.out]; exact HLD.out) HT1.out)
              have HR3 := Lib.hid hR2
              have HB3 := Lib.hid hB2
              clear hR2 hB2 hR
              go_wp2
              exact ⟨⟨k + 1, by omega, by go_num, Lib.hid ⟨_, HR3.out, HNX.out⟩, HB3.out⟩, by simp [intOf]; omega⟩
          · have g25 : KK ≥ 25 := by omega
            have HLD := Lib.hid (lead_br (x := x) (by rw [HKK.out]; exact h25) (by rw [HKK.out]; exact hkr.2))
            go_wp2_with fail
            refine (HBK.out).mono ?_
            rintro e w' ⟨p1, rfl, hw9, hp1, hp1n⟩
            obtain rfl : w3 = w' := hw9
            go_wp2_with fail
            refine (HBK.out).mono ?_
            rintro e w' ⟨p2, rfl, hw9, hp2, hp2n⟩
            obtain rfl : w3 = w' := hw9
            obtain rfl : p1 = p2 := hp1.uniq hp2
            have k1 : k + 1 ≤ p1 := hp1.1
            have HP1 := Lib.hid (show Tgt l (k + 1) 0 p1 from .inl ⟨rfl, hp1⟩)
            clear hp2 hp1
            by_cases ht0 : x.t = 0
            · have gt : (x.t != 0) = false := by simp [ht0]
              by_cases hf0 : x.f = 0
              · have gf : (x.f != 0) = false := by simp [hf0]
                have HT1 : Hid (Tgt l (k + 1) x.t p1) := Lib.hid (by rw [ht0]; exact HP1.out)
                have HT2 : Hid (Tgt l (k + 1) x.f p1) := Lib.hid (by rw [hf0]; exact HP1.out)
                have c1 := hR.cell p1 _ (boolRow_at (n + 1) M p1 (by omega))
                have z1 := hR.frozen p1
                have hR2 := hR.setBool p1
                have hB2 : Below w.heap.size w (w3.setCell ⟨w.heap.size, p1, none⟩ (.bool true)) := hB.setCell (p := ⟨w.heap.size, p1, none⟩) (Nat.le_refl _) _
                have c2 := hR2.cell p1 _ (boolRow_at (n + 1) _ p1 (by omega))
                have z2 := hR2.frozen p1
                have hR3 := hR2.setBool p1
                have hB3 : Below w.heap.size w ((w3.setCell ⟨w.heap.size, p1, none⟩ (.bool true)).setCell ⟨w.heap.size, p1, none⟩ (.bool true)) := hB2.setCell (p := ⟨w.heap.size, p1, none⟩) (Nat.le_refl _) _
                have HNX := Lib.hid (mk_two HF.out HN.out HM1.out HM2.out hkl HM0.out HS0.out (by rw [HX.out]; exact HLD.out) HT1.out HT2.out)
                have HR3 := Lib.hid hR3
                have HB3 := Lib.hid hB3
                clear hR3 hR2 hB3 hB2 hR
                go_wp2
                exact ⟨⟨k + 1, by omega, by go_num, Lib.hid ⟨_, HR3.out, HNX.out⟩, HB3.out⟩, by simp [intOf]; omega⟩
              · have gf : (x.f != 0) = true := by simp [hf0]
                go_wp2_with fail
                refine (HPC.out x.f).mono ?_
                rintro e w' ⟨q4, rfl, hw9, hq4, hq4n⟩
                obtain rfl : w3 = w' := hw9
                go_wp2_with fail
                refine (HBC.out q4 hq4n).mono ?_
                rintro e w' ⟨p4, rfl, hw9, hp4, hp4n⟩
                obtain rfl : w3 = w' := hw9
                have HTp4 := Lib.hid (tgt_mark HF.out hkl hf0 (by have h := HBF.out; exact h) hq4 hp4)
                have kp4 : k + 1 ≤ p4 := tgt_le HTp4.out
                clear hq4 hp4
                have HT1 : Hid (Tgt l (k + 1) x.t p1) := Lib.hid (by rw [ht0]; exact HP1.out)
                have HT2 := HTp4
                have c1 := hR.cell p1 _ (boolRow_at (n + 1) M p1 (by omega))
                have z1 := hR.frozen p1
                have hR2 := hR.setBool p1
                have hB2 : Below w.heap.size w (w3.setCell ⟨w.heap.size, p1, none⟩ (.bool true)) := hB.setCell (p := ⟨w.heap.size, p1, none⟩) (Nat.le_refl _) _
                have c2 := hR2.cell p4 _ (boolRow_at (n + 1) _ p4 (by omega))
                have z2 := hR2.frozen p4
                have hR3 := hR2.setBool p4
                have hB3 : Below w.heap.size w ((w3.setCell ⟨w.heap.size, p1, none⟩ (.bool true)).setCell ⟨w.heap.size, p4, none⟩ (.bool true)) := hB2.setCell (p := ⟨w.heap.size, p4, none⟩) (Nat.le_refl _) _
                have HNX := Lib.hid (mk_two HF.out HN.out HM1.out HM2.out hkl HM0.out HS0.out (by rw [HX.out]; exact HLD.out) HT1.out HT2.out)
                have HR3 := Lib.hid hR3
                have HB3 := Lib.hid hB3
                clear hR3 hR2 hB3 hB2 hR
                go_wp2
                exact ⟨⟨k + 1, by omega, by go_num, Lib.hid ⟨_, HR3.out, HNX.out⟩, HB3.out⟩, by simp [intOf]; omega⟩
            · have gt : (x.t != 0) = true := by simp [ht0]
              go_wp2_with fail
              refine (HPC.out x.t).mono ?_
              rintro e w' ⟨q3, rfl, hw9, hq3, hq3n⟩
              obtain rfl : w3 = w' := hw9
              go_wp2_with fail
              refine (HBC.out q3 hq3n).mono ?_
              rintro e w' ⟨p3, rfl, hw9, hp3, hp3n⟩
              obtain rfl : w3 = w' := hw9
              have HTp3 := Lib.hid (tgt_mark HF.out hkl ht0 (by have h := HBT.out; exact h) hq3 hp3)
              have kp3 : k + 1 ≤ p3 := tgt_le HTp3.out
              clear hq3 hp3
              by_cases hf0 : x.f = 0
              · have gf : (x.f != 0) = false := by simp [hf0]
                have HT1 := HTp3
                have HT2 : Hid (Tgt l (k + 1) x.f p1) := Lib.hid (by rw [hf0]; exact HP1.out)
                have c1 := hR.cell p3 _ (boolRow_at (n + 1) M p3 (by omega))
                have z1 := hR.frozen p3
                have hR2 := hR.setBool p3
                have hB2 : Below w.heap.size w (w3.setCell ⟨w.heap.size, p3, none⟩ (.bool true)) := hB.setCell (p := ⟨w.heap.size, p3, none⟩) (Nat.le_refl _) _
                have c2 := hR2.cell p1 _ (boolRow_at (n + 1) _ p1 (by omega))
                have z2 := hR2.frozen p1
                have hR3 := hR2.setBool p1
                have hB3 : Below w.heap.size w ((w3.setCell ⟨w.heap.size, p3, none⟩ (.bool true)).setCell ⟨w.heap.size, p1, none⟩ (.bool true)) := hB2.setCell (p := ⟨w.heap.size, p1, none⟩) (Nat.le_refl _) _
                have HNX := Lib.hid (mk_two HF.out HN.out HM1.out HM2.out hkl HM0.out HS0.out (by rw [HX.out]; exact HLD.out) HT1.out HT2.out)
                have HR3 := Lib.hid hR3
                have HB3 := Lib.hid hB3
                clear hR3 hR2 hB3 hB2 hR
                go_wp2
                exact ⟨⟨k + 1, by omega, by go_num, Lib.hid ⟨_, HR3.out, HNX.out⟩, HB3.out⟩, by simp [intOf]; omega⟩
              · have gf : (x.f != 0) = true := by simp [hf0]
                go_wp2_with fail
                refine (HPC.out x.f).mono ?_
                rintro e w' ⟨q4, rfl, hw9, hq4, hq4n⟩
                obtain rfl : w3 = w' := hw9
                go_wp2_with fail
                refine (HBC.out q4 hq4n).mono ?_
                rintro e w' ⟨p4, rfl, hw9, hp4, hp4n⟩
                obtain rfl : w3 = w' := hw9
                have HTp4 := Lib.hid (tgt_mark HF.out hkl hf0 (by have h := HBF.out; exact h) hq4 hp4)
                have kp4 : k + 1 ≤ p4 := tgt_le HTp4.out
                clear hq4 hp4
                have HT1 := HTp3
                have HT2 := HTp4
                have c1 := hR.cell p3 _ (boolRow_at (n + 1) M p3 (by omega))
                have z1 := hR.frozen p3
                have hR2 := hR.setBool p3
                have hB2 : Below w.heap.size w (w3.setCell ⟨w.heap.size, p3, none⟩ (.bool true)) := hB.setCell (p := ⟨w.heap.size, p3, none⟩) (Nat.le_refl _) _
                have c2 := hR2.cell p4 _ (boolRow_at (n + 1) _ p4 (by omega))
                have z2 := hR2.frozen p4
                have hR3 := hR2.setBool p4
                have hB3 : Below w.heap.size w ((w3.setCell ⟨w.heap.size, p3, none⟩ (.bool true)).setCell ⟨w.heap.size, p4, none⟩ (.bool true)) := hB2.setCell (p := ⟨w.heap.size, p4, none⟩) (Nat.le_refl _) _
                have HNX := Lib.hid (mk_two HF.out HN.out HM1.out HM2.out hkl HM0.out HS0.out (by rw [HX.out]; exact HLD.out) HT1.out HT2.out)
                have HR3 := Lib.hid hR3
                have HB3 := Lib.hid hB3
                clear hR3 hR2 hB3 hB2 hR
                go_wp2
                exact ⟨⟨k + 1, by omega, by go_num, Lib.hid ⟨_, HR3.out, HNX.out⟩, HB3.out⟩, by simp [intOf]; omega⟩
      · have f0 : (x.m != 0) = true := by simp [hm0]
        have HNX := Lib.hid (row_mark HF.out HN.out HM1.out HM2.out hkl (by rw [HX.out]; exact hm0))
        have HRR := Lib.hid hR
        clear hR
        go_wp2
        exact ⟨⟨k + 1, by omega, by go_num, Lib.hid ⟨M, HRR.out, HNX.out⟩, hB⟩, by simp [intOf]; omega⟩
    · obtain rfl : n = k := by omega
      have i2 : ¬ (n : Int) < (n : Int) := by omega
      have HRR := Lib.hid hR
      clear hR
      go_wp2
      go_ret
      have hcc : ∀ p, p < n → wr.cell? ⟨w.heap.size, p, none⟩ = some (.bool (M p)) := fun p hp => HRR.out.cell p _ (boolRow_at (n + 1) M p (by omega))
      have hm2 : ∀ p, p < n → (l[p]?.getD default).m = 0 → M p = sOf l p 0 := fun p hp hm => HM2.out p hp (by simpa using hm)
      first
        | exact ⟨⟨_, rfl⟩, hB, HRR.out.lt, M, hcc, hm2⟩
        | exact ⟨_, M, rfl, hB, HRR.out.lt, hcc, HM2.out⟩
        | exact ⟨⟨_, rfl⟩, hB, HRR.out.lt, M, hcc, HM2.out⟩
        | exact ⟨_, rfl, hB, HRR.out.lt, M, hcc, HM2.out⟩
        | exact ⟨rfl, hB, HRR.out.lt, M, hcc, HM2.out⟩
end Go.Proofs.Ytlghbkkjpjhelaa
