/-
  list.Read and the document's Read give the same at every line of 100 bytes.
-/
import Derived.Test.YtebeoadmdflfcaaGreatDoorQf
namespace Go.Proofs.YtebeoadmdflfcaaGreatDoor
open Go.RowKit Go.Shelf
set_option linter.unusedVariables false

theorem readE_unique {l : List UInt8} {c t f k c' t' f' k' : Nat} {e e' : Int} (h : readE l c t f k e) (h' : readE l c' t' f' k' e') : c = c' ∧ t = t' ∧ f = f' ∧ k = k' ∧ e = e' := by
  have hj : ∀ j j', fitQ (wsOf l).length (wsN l) j = true → (∀ i, i < j → fitQ (wsOf l).length (wsN l) i = false) → fitQ (wsOf l).length (wsN l) j' = true → (∀ i, i < j' → fitQ (wsOf l).length (wsN l) i = false) → j = j' := fun j j' h1 h2 h3 h4 => by
    rcases Nat.lt_trichotomy j j' with h | h | h
    · rw [h4 j h] at h1; cases h1
    · exact h
    · rw [h2 j' h] at h3; cases h3
  rcases h with ⟨rfl, j, hj1, hf, hno, hi⟩ | ⟨rfl, rfl, rfl, rfl, rfl, hb⟩
  · rcases h' with ⟨rfl, j', hj1', hf', hno', hi'⟩ | ⟨rfl, rfl, rfl, rfl, rfl, hb'⟩
    · obtain rfl := hj j j' hf hno hf' hno'
      rw [hi] at hi'
      injection hi' with hi'
      injection hi' with e
      have q0 := congrArg (fun a : Array Value => a[0]?) e
      have q1 := congrArg (fun a : Array Value => a[1]?) e
      have q2 := congrArg (fun a : Array Value => a[2]?) e
      have q3 := congrArg (fun a : Array Value => a[3]?) e
      exact ⟨nocar (Option.some.inj q0), nocar (Option.some.inj q1), nocar (Option.some.inj q2), nocar (Option.some.inj q3), rfl⟩
    · rcases hb' with hb' | ⟨j', _, hf', hno', hi'⟩
      · rw [hb' j hj1] at hf; cases hf
      · obtain rfl := hj j j' hf hno hf' hno'
        rw [hi] at hi'
        cases hi'
  · rcases h' with ⟨rfl, j', hj1', hf', hno', hi'⟩ | ⟨rfl, rfl, rfl, rfl, rfl, hb'⟩
    · rcases hb with hb | ⟨j, _, hf, hno, hi⟩
      · rw [hb j' hj1'] at hf'; cases hf'
      · obtain rfl := hj j j' hf hno hf' hno'
        rw [hi] at hi'
        cases hi'
    · exact ⟨rfl, rfl, rfl, rfl, rfl⟩
theorem readE_exists (l : List UInt8) : ∃ c t f k e, readE l c t f k e := by
  rcases first_fit (wsOf l).length (wsN l) with h | ⟨j, h1, h2, h3⟩
  · exact ⟨0, 0, 0, 0, 13, .inr ⟨rfl, rfl, rfl, rfl, rfl, .inl h⟩⟩
  · rcases instE_or j (wsN l) with ⟨c, t, f, k, hi⟩ | hi
    · exact ⟨c, t, f, k, 0, .inl ⟨rfl, j, h1, h2, h3, hi⟩⟩
    · exact ⟨0, 0, 0, 0, 13, .inr ⟨rfl, rfl, rfl, rfl, rfl, .inr ⟨j, h1, h2, h3, hi⟩⟩⟩
theorem refRead_any (s : ByteArray) (hs : s.size ≤ 100) (w : World) : Calls Tryz.prog 7 #[.string s] w fun e w' => RefA s.data.toList e ∧ Below w.heap.size w w' := by
  by_cases h0 : (wsOf s.data.toList).length = 0
  · exact refRead_empty s hs h0 w
  · by_cases hc : wsN s.data.toList 0 = codeT
    · exact refRead_code s hs (by omega) hc w
    · exact refRead_main s hs (by omega) hc w
/-- Both Reads. -/
def SameR (s : ByteArray) (c t f k : Nat) (x : Int) : Prop :=
  (∀ X, EnvN X → Calls Tryz.prog 6 #[.string s] X fun e w' => e = .returned (.tuple #[.agg (instA c t f k), .int .i64 x]) ∧ Below X.heap.size X w') ∧
  (∀ X, Calls Tryz.prog 7 #[.string s] X fun e w' => e = .returned (.tuple #[.agg (instA c t f k), .int .i64 x]) ∧ Below X.heap.size X w')
theorem reads3_same (s : ByteArray) (hs : s.size ≤ 100) : ∃ c t f k x, SameR s c t f k x ∧ (x = 0 ∨ x = 4 ∨ x = 13) ∧ (x = 0 → c < 65536 ∧ t < 256 ∧ f < 256 ∧ k < 4294967296) := by
  have hlen : s.data.toList.length = s.size := Array.length_toList
  obtain ⟨z1, z2⟩ := wsOf_size s.data.toList
  have hcl : (Lib.cut s.data.toList [59]).1.length ≤ 100000 := by
    obtain ⟨R, h, _, _⟩ := cut_part s.data.toList
    have := congrArg List.length h
    rw [List.length_append] at this
    omega
  by_cases h0 : (wsOf s.data.toList).length = 0
  · refine ⟨0, 0, 0, 0, 4, ⟨fun X hX => readL_empty s (by omega) hcl h0 X, fun X => (refRead_any s hs X).mono ?_⟩, .inr (.inl rfl), fun h => by cases h⟩
    rintro e w' ⟨⟨c, t, f, k, x, he, h | h⟩, hB⟩
    · obtain ⟨_, rfl, rfl, rfl, rfl, rfl⟩ := h
      exact ⟨he, hB⟩
    · omega
  · obtain ⟨c, t, f, k, x, hE⟩ := readE_exists s.data.toList
    refine ⟨c, t, f, k, x, ⟨fun X hX => readL_any s (by omega) hcl (by omega) (by omega) (fun i _ => by have := z2 i; omega) c t f k x hE X hX, fun X => (refRead_any s hs X).mono ?_⟩, ?_, ?_⟩
    · rintro e w' ⟨⟨c', t', f', k', x', he, h | h⟩, hB⟩
      · omega
      · obtain ⟨rfl, rfl, rfl, rfl, rfl⟩ := readE_unique hE (ref_readE h.2)
        exact ⟨he, hB⟩
    · rcases hE with ⟨h, _⟩ | ⟨h, _⟩
      · exact .inl h
      · exact .inr (.inr h)
    · intro hx
      rcases hE with ⟨_, j, hj, hf, _, hi⟩ | ⟨h, _⟩
      · exact (instE_back hj hf hi).2
      · omega
end Go.Proofs.YtebeoadmdflfcaaGreatDoor
