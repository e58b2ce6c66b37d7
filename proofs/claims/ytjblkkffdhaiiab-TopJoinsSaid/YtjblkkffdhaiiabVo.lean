/-
  What a run did not load does not count. Nothing here speaks of a program text.
-/
import Derived.Test.YtjblkkffdhaiiabVn
namespace Go.Proofs.Ytjblkkffdhaiiab
open Go.RowKit

theorem doK_agree (f f' : Nat → Nat) (j : Nat) (v : IV) (s : VS) (o : Nat) (h : j = 1 → ∀ i, i < 4 → f (v.k + i) = f' (v.k + i)) : doK f j v s o = doK f' j v s o := by
  by_cases hj : j = 1
  · subst hj
    have e : num (fun i => f (v.k + i)) 4 = num (fun i => f' (v.k + i)) 4 := num_congr _ _ 4 fun i hi => h rfl i hi
    unfold doK
    simp only [e]
  · unfold doK
    split <;> first | rfl | exact absurd rfl hj
theorem step_agree (f f' : Nat → Nat) (v : IV) (s : VS) (h : (kd v).toNat = 1 → ∀ i, i < 4 → f (v.k + i) = f' (v.k + i)) : step f v s = step f' v s := doK_agree f f' _ v _ _ h
theorem ld_grows (f : Nat → Nat) (g : Nat → IV) (n : Nat) (hal : ∀ i, i < n → alone (g i) (n - 1 - i) = 0) (hlast : isRet (g (n - 1)) = true) :
    ∀ (fuel : Nat) (s : VS) (val : Nat) (sF : VS), s.nx < n → runF g f fuel s = some (val, sF) → ∀ k ∈ s.ld, k ∈ sF.ld := by
  intro fuel
  induction fuel with
  | zero => intro s val sF _ h; cases h
  | succ m ih =>
    intro s val sF hnx h k hk
    unfold runF at h
    rcases hd : step f (g s.nx) s with s' | ⟨v, s'⟩
    · rw [hd] at h
      obtain ⟨q1, q2, q3, q4⟩ := step_next f g n hal hlast s s' hnx hd
      refine ih s' val sF q2 h k ?_
      rcases q4 with e | ⟨_, e⟩
      · rw [e]; exact hk
      · rw [e]; exact List.mem_append_left _ hk
    · rw [hd] at h
      have e := doK_stop _ _ _ _ _ _ _ hd
      injection h with h
      injection h with h1 h2
      subst h2
      subst e
      exact hk
/-- With other bytes where the run loaded nothing it is the same. -/
theorem run_agree (f f' : Nat → Nat) (g : Nat → IV) (n : Nat) (hal : ∀ i, i < n → alone (g i) (n - 1 - i) = 0) (hlast : isRet (g (n - 1)) = true) :
    ∀ (fuel : Nat) (s : VS) (val : Nat) (sF : VS), s.nx < n → runF g f fuel s = some (val, sF) → (∀ k ∈ sF.ld, ∀ i, i < 4 → f (k + i) = f' (k + i)) → runF g f' fuel s = some (val, sF) := by
  intro fuel
  induction fuel with
  | zero => intro s val sF _ h; cases h
  | succ m ih =>
    intro s val sF hnx h hag
    have hs : step f (g s.nx) s = step f' (g s.nx) s := by
      refine step_agree f f' _ s fun hj i hi => ?_
      refine hag _ ?_ i hi
      unfold runF at h
      have hd : step f (g s.nx) s = .go ⟨num (fun i => f ((g s.nx).k + i)) 4, s.x, s.cl, s.nx + 1, s.st + 1, s.ld ++ [(g s.nx).k]⟩ := by
        unfold step
        rw [hj]
        rfl
      rw [hd] at h
      obtain ⟨q1, q2, q3, q4⟩ := step_next f g n hal hlast s _ hnx hd
      exact ld_grows f g n hal hlast m _ val sF q2 h _ (List.mem_append_right _ (List.mem_singleton.2 rfl))
    unfold runF at h ⊢
    rw [← hs]
    rcases hd : step f (g s.nx) s with s' | ⟨v, s'⟩
    · rw [hd] at h
      obtain ⟨q1, q2, q3, q4⟩ := step_next f g n hal hlast s s' hnx hd
      exact ih s' val sF q2 h hag
    · rw [hd] at h
      exact h

/-- Other bytes, and over them four bytes at each word that was loaded. -/
def over (f f2 : Nat → Nat) : List Nat → Nat → Nat
  | [], i => f2 i
  | k :: l, i => if k ≤ i ∧ i < k + 4 then f i else over f f2 l i
theorem over_at (f f2 : Nat → Nat) (l : List Nat) (k : Nat) (h : k ∈ l) (i : Nat) (hi : i < 4) : over f f2 l (k + i) = f (k + i) := by
  induction l with
  | nil => cases h
  | cons x l ih =>
    show (if x ≤ k + i ∧ k + i < x + 4 then f (k + i) else over f f2 l (k + i)) = _
    rcases List.mem_cons.1 h with rfl | h
    · rw [if_pos (by omega)]
    · split
      · rfl
      · exact ih h
theorem over_lt (f f2 : Nat → Nat) (l : List Nat) (h1 : ∀ i, i < 64 → f i < 256) (h2 : ∀ i, i < 64 → f2 i < 256) (i : Nat) (hi : i < 64) : over f f2 l i < 256 := by
  induction l with
  | nil => exact h2 i hi
  | cons x l ih =>
    show (if x ≤ i ∧ i < x + 4 then f i else over f f2 l i) < _
    split
    · exact h1 i hi
    · exact ih
/-- Four bytes of an array, cut out. -/
theorem sl_lh (g p : Nat) (hp : p + 4 ≤ 64) (W : World) : (Instr.sliceAt 39 (.pointer (some ⟨g, 0, none⟩)) (some (.int .i64 (p : Int))) (some (.int .i64 ((p : Int) + 4))) none).run Try.prog W = .ok (.slice (some ⟨g, p, none⟩) 4 (64 - p)) W := by
  have hl : Try.prog.arrayLen 39 = 64 := by kernel_rfl
  have hz : (sizeOf (Try.prog.elem 39)).run Try.prog W = .ok 1 W := by kernel_rfl
  rw [run_sliceAt_array_lh W 39 _ (by kernel_rfl) .i64 .i64 (p : Int) ((p : Int) + 4) (by omega) (by omega) (by rw [hl]; omega), hz, hl]
  have h1 : ¬ 64 = p := by omega
  have h2 : ((p : Int) + 4).toNat = p + 4 := by omega
  have h3 : p + 4 - p = 4 := by omega
  simp [Result.andThen, slicedAt, h1, h2, h3, Go.WideShapes.add_plain]
/-- The four bytes at a word. -/
def four (f : Nat → Nat) (x : Nat) : List Value := (List.range 4).map fun i => bv (f (x + i))
theorem four_len (f : Nat → Nat) (x : Nat) : (four f x).length = Nat.min 4 4 := by simp [four]
theorem four_src {w : World} {gb : Nat} {f : Nat → Nat} {T : TypeId} (hb : ArB w gb 64 T f) (x : Nat) (hx : x + 4 ≤ 64) : ∀ j v, (four f x)[j]? = some v → w.cell? ((⟨gb, x, none⟩ : Addr).add j) = some v := by
  intro j v hv
  unfold four at hv
  have hj : j < 4 := by
    rcases Nat.lt_or_ge j 4 with h | h
    · exact h
    · rw [List.getElem?_eq_none (by simpa using h)] at hv; cases hv
  rw [Go.WideShapes.add_plain, hb.cell (x + j) (by omega)]
  simpa [hj] using hv
theorem four_fit (f : Nat → Nat) (C : Nat → Nat) (x : Nat) (hx : x + 4 ≤ 64) : x + (four f x).length ≤ (arrB 64 C).size := by
  rw [arrB_size]; simp [four]; omega
theorem four_one (f : Nat → Nat) (x : Nat) : ∀ v ∈ four f x, v.oneCell' = true := by
  intro v hv
  obtain ⟨i, _, rfl⟩ := List.mem_map.1 hv
  rfl
theorem four_over (f f2 : Nat → Nat) (l : List Nat) (x : Nat) (hx : x + 4 ≤ 64) : (splice (arrB 64 (over f f2 l)).toList x (four f x)).toArray = arrB 64 (over f f2 (x :: l)) := by
  unfold four
  rw [splice_arrB 64 (over f f2 l) (fun i => f (x + i)) x 4 hx]
  refine arrB_congr fun i hi => ?_
  unfold laid
  show _ = (if x ≤ i ∧ i < x + 4 then f i else over f f2 l i)
  split
  · rename_i h
    show f (x + (i - x)) = f i
    rw [show x + (i - x) = i from by omega]
  · rfl
end Go.Proofs.Ytjblkkffdhaiiab
