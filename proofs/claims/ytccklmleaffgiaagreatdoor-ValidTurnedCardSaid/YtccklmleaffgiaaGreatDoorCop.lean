/-
  Layer 15: the program's Check and the document's answer alike.
-/
import Derived.Test.YtccklmleaffgiaaGreatDoorCmp
namespace Go.Proofs.YtccklmleaffgiaaGreatDoor
open Go.RowKit Go.Shelf Go.Lib Go.Sort
set_option linter.unusedVariables false

theorem VR.uniq {T : Nat → SR} {tn : Nat} {L : List RV} {i a f : Nat} (h : VR T tn L i a f) : ∀ {a' f' : Nat}, VR T tn L i a' f' → a = a' ∧ f = f' := by
  induction h with
  | nil i h =>
    intro a' f' h'
    have hn : L[i]? = none := List.getElem?_eq_none h
    cases h' with
    | nil _ _ => exact ⟨rfl, rfl⟩
    | name _ r hr => rw [hn] at hr; cases hr
    | bes _ r hr => rw [hn] at hr; cases hr
    | twice _ r hr => rw [hn] at hr; cases hr
    | go _ r _ _ hr => rw [hn] at hr; cases hr
  | name i r hr h =>
    intro a' f' h'
    cases h' with
    | nil _ hl => rw [List.getElem?_eq_none hl] at hr; cases hr
    | name _ r2 hr2 h2 => exact ⟨rfl, rfl⟩
    | bes _ r2 hr2 h2 => rw [hr] at hr2; cases hr2; rw [h] at h2; cases h2
    | twice _ r2 hr2 h2 => rw [hr] at hr2; cases hr2; rw [h] at h2; cases h2
    | go _ r2 _ _ hr2 h2 => rw [hr] at hr2; cases hr2; rw [h] at h2; cases h2
  | bes i r hr h h3 =>
    intro a' f' h'
    cases h' with
    | nil _ hl => rw [List.getElem?_eq_none hl] at hr; cases hr
    | name _ r2 hr2 h2 => rw [hr] at hr2; cases hr2; rw [h] at h2; cases h2
    | bes _ r2 hr2 h2 => exact ⟨rfl, rfl⟩
    | twice _ r2 hr2 h2 h4 => rw [hr] at hr2; cases hr2; rw [h3] at h4; cases h4
    | go _ r2 _ _ hr2 h2 h4 => rw [hr] at hr2; cases hr2; rw [h3] at h4; cases h4
  | twice i r hr h h3 h5 =>
    intro a' f' h'
    cases h' with
    | nil _ hl => rw [List.getElem?_eq_none hl] at hr; cases hr
    | name _ r2 hr2 h2 => rw [hr] at hr2; cases hr2; rw [h] at h2; cases h2
    | bes _ r2 hr2 h2 h4 => rw [hr] at hr2; cases hr2; rw [h3] at h4; cases h4
    | twice _ r2 hr2 h2 h4 => exact ⟨rfl, rfl⟩
    | go _ r2 _ _ hr2 h2 h4 h6 => rw [hr] at hr2; cases hr2; rw [h5] at h6; cases h6
  | go i r a f hr h h3 h5 h7 ih =>
    intro a' f' h'
    cases h' with
    | nil _ hl => rw [List.getElem?_eq_none hl] at hr; cases hr
    | name _ r2 hr2 h2 => rw [hr] at hr2; cases hr2; rw [h] at h2; cases h2
    | bes _ r2 hr2 h2 h4 => rw [hr] at hr2; cases hr2; rw [h3] at h4; cases h4
    | twice _ r2 hr2 h2 h4 h6 => rw [hr] at hr2; cases hr2; rw [h5] at h6; cases h6
    | go _ r2 _ _ hr2 h2 h4 h6 h8 => exact ih h8
theorem few_of {k u : Int} {L : List RV} (h : rightV k u L = true) : ∀ r ∈ L, FewR r := fun r hr => by
  unfold rightV at h
  simp only [Bool.and_eq_true, decide_eq_true_eq, List.all_eq_true] at h
  have h2 := h.2.2 r hr
  unfold mayV at h2
  simp only [Bool.and_eq_true, decide_eq_true_eq, List.all_eq_true] at h2
  obtain ⟨_, _, h3, h4⟩ := h2
  refine ⟨h3, fun c hc e => ?_⟩
  have h5 := (h4 c hc).2.2.1
  omega
theorem ChkP.doc {k u : Int} {L : List RV} {T : Nat → SR} {tn a f : Nat} (h : ChkP k u L T tn a f) : ChkD k u L T tn a f := by
  rcases h with h | ⟨h1, h | ⟨h2, h3⟩⟩
  · exact .inl h
  · exact .inr ⟨h1, .inl h⟩
  · exact .inr ⟨h1, .inr ⟨h2, chk_same (few_of h1) h3 rfl rfl⟩⟩
theorem ChkD.uniq {k u : Int} {L : List RV} {T : Nat → SR} {tn a f a' f' : Nat} (h : ChkD k u L T tn a f) (h' : ChkD k u L T tn a' f') : a = a' ∧ f = f' := by
  rcases h with ⟨h0, rfl, rfl⟩ | ⟨h1, ⟨⟨p, q, hp, hq⟩, rfl, rfl⟩ | ⟨h2, h3⟩⟩ <;> rcases h' with ⟨g0, rfl, rfl⟩ | ⟨g1, ⟨⟨p', q', gp, gq⟩, rfl, rfl⟩ | ⟨g2, g3⟩⟩
  · exact ⟨rfl, rfl⟩
  · rw [h0] at g1; cases g1
  · rw [h0] at g1; cases g1
  · rw [h1] at g0; cases g0
  · exact ⟨rfl, rfl⟩
  · exact absurd (hp.uniq g2).2 hq
  · rw [h1] at g0; cases g0
  · exact absurd (gp.uniq h2).2 gq
  · exact h3.uniq g3
/-- The two Checks answer alike. -/
theorem chk_alike {k u : Int} {L : List RV} {T : Nat → SR} {tn a f a' f' : Nat} (h : ChkP k u L T tn a f) (h' : ChkD k u L T tn a' f') : a = a' ∧ f = f' := h.doc.uniq h'
end Go.Proofs.YtccklmleaffgiaaGreatDoor
