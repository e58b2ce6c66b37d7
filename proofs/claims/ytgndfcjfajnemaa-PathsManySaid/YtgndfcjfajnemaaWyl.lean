/-
  Layer 27: how many paths there are; paths.All of any program.
-/
import Derived.Test.YtgndfcjfajnemaaWyk
namespace Go.Proofs.Ytgndfcjfajnemaa
open Go.RowKit Go.Shelf
set_option linter.unusedVariables false

/-- How many ways lead from a place to a return, by fuel. -/
def pN (g : Nat → IV) : Nat → Nat → Nat
  | 0, _ => 0
  | m + 1, i =>
    if kd (g i) = 14 then 1
    else if brK (kd (g i)) = true then pN g m (i + 1 + (g i).t) + pN g m (i + 1 + (g i).f)
    else if kd (g i) = 13 then pN g m (i + 1 + (g i).k)
    else pN g m (i + 1)
theorem pN_s (g : Nat → IV) (m i : Nat) : pN g (m + 1) i = if kd (g i) = 14 then 1 else if brK (kd (g i)) = true then pN g m (i + 1 + (g i).t) + pN g m (i + 1 + (g i).f) else if kd (g i) = 13 then pN g m (i + 1 + (g i).k) else pN g m (i + 1) := rfl
theorem pF_len (g : Nat → IV) : ∀ (m i p q : Nat) (ts : List TV) (s : Nat), (pF g m i p q ts s).length = pN g m i := by
  intro m
  induction m with
  | zero => intro i p q ts s; rfl
  | succ m ih =>
    intro i p q ts s
    unfold pF pN
    by_cases h1 : kd (g i) = 14
    · rw [if_pos h1, if_pos h1]; rfl
    rw [if_neg h1, if_neg h1]
    by_cases h2 : brK (kd (g i)) = true
    · rw [if_pos h2, if_pos h2, List.length_append, ih, ih]
    rw [if_neg h2, if_neg h2]
    by_cases h3 : kd (g i) = 13
    · rw [if_pos h3, if_pos h3, ih]
    rw [if_neg h3, if_neg h3]
    split
    · rw [ih]
    · rw [ih]
theorem nx_ret {v : IV} (h : kd v = 14) (i : Nat) : nexts v i = [] := by rw [← nexts_if]; unfold nextsK; rw [h]; rfl
theorem nx_ja {v : IV} (h : kd v = 13) (i : Nat) : nexts v i = [i + 1 + v.k] := by rw [← nexts_if]; unfold nextsK; rw [h]; rfl
theorem brK_ne {K : Int} (h : brK K = true) : K ≠ 14 ∧ K ≠ 15 ∧ K ≠ 13 ∧ K ≠ 1 ∧ K ≠ 21 := by
  unfold brK at h
  simp only [Bool.or_eq_true, beq_iff_eq] at h
  omega
theorem nx_br {v : IV} (h : brK (kd v) = true) (i : Nat) : nexts v i = [i + 1 + v.t, i + 1 + v.f] := by
  obtain ⟨a, b, c, _⟩ := brK_ne h
  rw [← nexts_if]; unfold nextsK
  rw [if_neg (by simp [a, b]), if_neg (by simp [c]), if_pos (by exact h)]
theorem nx_on {v : IV} (h1 : kd v ≠ 14) (h5 : kd v ≠ 15) (h2 : brK (kd v) = false) (h3 : kd v ≠ 13) (i : Nat) : nexts v i = [i + 1] := by
  rw [← nexts_if]; unfold nextsK
  rw [if_neg (by simp [h1, h5]), if_neg (by simp [h3]), if_neg (by unfold brK at h2; rw [h2]; decide)]
theorem pN_fuel {g : Nat → IV} {n : Nat} (F : Fmd g n) (hk : ∀ i, i < n → okI (g i) = true) : ∀ m i, i < n → n - i ≤ m → pN g (m + 1) i = pN g m i := by
  intro m
  induction m with
  | zero => intro i hi h; omega
  | succ m ih =>
    intro i hi h
    have hnx : ∀ to ∈ nexts (g i) i, pN g (m + 1) to = pN g m to := fun to ht => ih to (next_lt F hi ht) (by have := next_gt ht; omega)
    rw [pN_s g (m + 1) i, pN_s g m i]
    by_cases h1 : kd (g i) = 14
    · rw [if_pos h1, if_pos h1]
    rw [if_neg h1, if_neg h1]
    by_cases h2 : brK (kd (g i)) = true
    · have e := nx_br h2 i
      rw [if_pos h2, if_pos h2, hnx _ (by rw [e]; simp), hnx _ (by rw [e]; simp)]
    rw [if_neg h2, if_neg h2]
    by_cases h3 : kd (g i) = 13
    · have e := nx_ja h3 i
      rw [if_pos h3, if_pos h3, hnx _ (by rw [e]; simp)]
    rw [if_neg h3, if_neg h3]
    have e := nx_on h1 (okI_15 (hk i hi)) (by simpa using h2) h3 i
    rw [hnx _ (by rw [e]; simp)]
/-- The ways that are still to come, of one place. -/
theorem pN_eq {g : Nat → IV} {n : Nat} (F : Fmd g n) (hk : ∀ i, i < n → okI (g i) = true) {i : Nat} (hi : i < n) :
    pN g n i = if kd (g i) = 14 then 1 else if brK (kd (g i)) = true then pN g n (i + 1 + (g i).t) + pN g n (i + 1 + (g i).f) else if kd (g i) = 13 then pN g n (i + 1 + (g i).k) else pN g n (i + 1) := by
  have h := pN_fuel F hk n i hi (Nat.sub_le _ _)
  rw [← h, pN_s g n i]
/-- Counted from the end on, no further than to a bound. -/
theorem lgC_T {g : Nat → IV} {n : Nat} (F : Fmd g n) (hk : ∀ i, i < n → okI (g i) = true) : ∀ k, k ≤ n → (∀ i, n - k ≤ i → i < n → lgC g (dnto n k) i = min (pN g n i) 4097) ∧ ∀ i, i < n - k → lgC g (dnto n k) i = 0 := by
  intro k
  induction k with
  | zero => intro _; exact ⟨fun i h1 h2 => by omega, fun i h => rfl⟩
  | succ k ih =>
    intro hkn
    obtain ⟨ih1, ih2⟩ := ih (by omega)
    rw [dnto_succ (n := n) (k := k) (by omega), lgC_snoc]
    refine ⟨fun i h1 h2 => ?_, fun i h => ?_⟩
    · by_cases hi : i = n - 1 - k
      · have hnx : ∀ to ∈ nexts (g i) i, lgC g (dnto n k) to = min (pN g n to) 4097 := fun to ht => ih1 to (by have := next_gt ht; omega) (next_lt F h2 ht)
        have h0 : lgC g (dnto n k) i = 0 := ih2 i (by omega)
        unfold stpC
        rw [if_pos hi, pN_eq F hk h2]
        show addC _ (nexts (g (n - 1 - k)) (n - 1 - k)) (if kd (g (n - 1 - k)) = 14 then 1 else lgC g (dnto n k) (n - 1 - k)) = _
        rw [← hi, h0]
        by_cases h1 : kd (g i) = 14
        · rw [if_pos h1, if_pos h1, nx_ret h1]; rfl
        rw [if_neg h1, if_neg h1]
        by_cases h2' : brK (kd (g i)) = true
        · have e := nx_br h2' i
          rw [if_pos h2', e]
          simp only [addC, List.foldl_cons, List.foldl_nil]
          rw [hnx _ (by rw [e]; simp), hnx _ (by rw [e]; simp)]
          omega
        rw [if_neg h2']
        by_cases h3 : kd (g i) = 13
        · have e := nx_ja h3 i
          rw [if_pos h3, e]
          simp only [addC, List.foldl_cons, List.foldl_nil]
          rw [hnx _ (by rw [e]; simp)]
          omega
        rw [if_neg h3]
        have e := nx_on h1 (okI_15 (hk i h2)) (by simpa using h2') h3 i
        rw [e]
        simp only [addC, List.foldl_cons, List.foldl_nil]
        rw [hnx _ (by rw [e]; simp)]
        omega
      · unfold stpC
        rw [if_neg hi]
        exact ih1 i (by omega) h2
    · unfold stpC
      rw [if_neg (by show ¬ i = n - 1 - k; omega)]
      exact ih2 i (by omega)
theorem cntP_eq {g : Nat → IV} {n : Nat} (F : Fmd g n) (hk : ∀ i, i < n → okI (g i) = true) : cntP g n = min (pN g n 0) 4097 := by
  have h := (lgC_T F hk n (Nat.le_refl _)).1 0 (by omega) F.pos
  rw [dnto_all] at h
  exact h
/-- What All answers. -/
def AllR (g : Nat → IV) (n : Nat) (e : Ending) (w' : World) : Prop :=
  (plainB g n = false ∧ e = .returned (.tuple #[.slice none 0 0, .int .i64 18])) ∨ (plainB g n = true ∧ 4096 < pN g n 0 ∧ e = .returned (.tuple #[.slice none 0 0, .int .i64 3])) ∨
    (plainB g n = true ∧ pN g n 0 ≤ 4096 ∧ ∃ A' cA' S', e = .returned (.tuple #[.slice A' (pF g n 0 0 0 [] 0).length cA', .int .i64 0]) ∧ Pths w' A' cA' (pF g n 0 0 0 [] 0) S')
set_option maxRecDepth 100000 in
set_option maxHeartbeats 8000000 in
theorem all_any (A : Option Addr) (n c : Nat) (g : Nat → IV) (w : World) (hr : Ins w w.heap.size A n c g) :
    Calls Try.prog 8 #[.slice A n c] w fun e w' => AllR g n e w' ∧ Below w.heap.size w w' := by
  by_cases hp : plainB g n = true
  · obtain ⟨hF, hk, _⟩ := plainB_facts hp
    have hc := cntP_eq hF hk
    by_cases hN : pN g n 0 ≤ 4096
    · refine (all_ok A n c g w hr hp (by omega) (by rw [pF_len]; omega)).mono ?_
      rintro e w' ⟨A', cA', S', rfl, h1, h2⟩
      exact ⟨.inr (.inr ⟨hp, hN, A', cA', S', rfl, h1⟩), h2⟩
    · have hc1 : cntP g n = 4097 := by omega
      have HP := Lib.hid (placesOf_any A n c g w hr)
      have hv := hr.2
      have hn0 : ¬ (n : Int) = 0 := by have := hF.pos; omega
      go_enter Try.func8, Try.ntmps8
      go_wp2_with fail
      refine HP.out.mono ?_
      rintro e w1 ⟨⟨hp0, _⟩ | ⟨_, pb, rfl, hO⟩, hB1⟩
      · rw [hp] at hp0; cases hp0
      obtain ⟨pb', epb, _, hpb1, hpc⟩ := hO.at_ hF.pos
      obtain rfl : pb = pb' := by injection epb with e; injection e
      have HC := Lib.hid (count_any pb n g w1 hF hpb1 (fun i hi => (hpc i hi).1) hv hk)
      have HB1 := Lib.hid hB1
      rw [hc1] at HC
      clear hB1 hpc hO epb HP hr
      go_wp2_with (go_at_call 19; refine HC.out.mono ?_; rintro e w2 ⟨rfl, hB2⟩; have HB2 := Lib.hid hB2; clear hB2)
      go_ret2
      exact ⟨.inr (.inl ⟨hp, by omega, rfl⟩), HB1.out.trans (HB2.out.mono HB1.out.size)⟩
  · have hp' : plainB g n = false := by simpa using hp
    have HP := Lib.hid (placesOf_any A n c g w hr)
    go_enter Try.func8, Try.ntmps8
    go_wp2_with fail
    refine HP.out.mono ?_
    rintro e w1 ⟨⟨_, rfl⟩ | ⟨hp1, _⟩, hB1⟩
    · have HB1 := Lib.hid hB1
      clear hB1 HP hr
      go_wp2
      go_ret2
      exact ⟨.inl ⟨hp', rfl⟩, HB1.out⟩
    · rw [hp'] at hp1; cases hp1
end Go.Proofs.Ytgndfcjfajnemaa
