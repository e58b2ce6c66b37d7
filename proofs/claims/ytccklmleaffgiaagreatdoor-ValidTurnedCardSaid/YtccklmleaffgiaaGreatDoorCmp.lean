/-
  Layer 15: the document's Check.
-/
import Derived.Test.YtccklmleaffgiaaGreatDoorChp
import Derived.Test.YtccklmleaffgiaaGreatDoorP31
import Derived.Test.YtccklmleaffgiaaGreatDoorRkp
import Derived.Test.YtccklmleaffgiaaGreatDoorP9
import Derived.Test.YtccklmleaffgiaaGreatDoorP11
import Derived.Test.YtccklmleaffgiaaGreatDoorP2
import Derived.Deep.LoopGhost
import Derived.BigQuiet
import Derived.Deep.RegionHeld3
import Derived.RegionTactic
import Derived.Laws.BitsAllLaws
namespace Go.Proofs.YtccklmleaffgiaaGreatDoor
open Go.RowKit Go.Shelf Go.Lib Go.Sort
set_option linter.unusedVariables false

/-- Is a rule hidden by one ahead of it, in the document's words? -/
def hidD (a r : RV) : Bool := decide (a.nm = r.nm) && (a.L.isEmpty || alkF a.L r.L)
/-- The first rule that is wrong, in the document's words. -/
inductive VR (T : Nat → SR) (tn : Nat) (L : List RV) : Nat → Nat → Nat → Prop
  | nil (i : Nat) (h : L.length ≤ i) : VR T tn L i 0 0
  | name (i : Nat) (r : RV) (hr : L[i]? = some r) (h : (List.range tn).any (isN T r.nm) = false) : VR T tn L i i 14
  | bes (i : Nat) (r : RV) (hr : L[i]? = some r) (h : (List.range tn).any (isN T r.nm) = true) (h2 : r.L.any besF = true) : VR T tn L i i 16
  | twice (i : Nat) (r : RV) (hr : L[i]? = some r) (h : (List.range tn).any (isN T r.nm) = true) (h2 : r.L.any besF = false) (h3 : (L.take i).any (fun a => hidD a r) = true) : VR T tn L i i 15
  | go (i : Nat) (r : RV) (a f : Nat) (hr : L[i]? = some r) (h : (List.range tn).any (isN T r.nm) = true) (h2 : r.L.any besF = false) (h3 : (L.take i).any (fun a => hidD a r) = false) (h4 : VR T tn L (i + 1) a f) : VR T tn L i a f
/-- What the document's Check tells. -/
def ChkD (k u : Int) (L : List RV) (T : Nat → SR) (tn a f : Nat) : Prop :=
  (rightV k u L = false ∧ a = 0 ∧ f = 13) ∨ (rightV k u L = true ∧ (((∃ p q, RightP T tn p q ∧ q ≠ 0) ∧ a = 0 ∧ f = 18) ∨ (RightP T tn 0 0 ∧ VR T tn L 0 a f)))
theorem alk_srt {l m : List CD} (h : alkF l m = true) : srt l = srt m := by
  unfold alkF at h
  simp only [Bool.and_eq_true, List.all_eq_true, decide_eq_true_eq] at h
  exact srt_of_mem fun x => ⟨fun hx => h.1 x hx, fun hx => h.2 x hx⟩
theorem srt_alk {l m : List CD} (h : srt l = srt m) : alkF l m = true := by
  unfold alkF
  simp only [Bool.and_eq_true, List.all_eq_true, decide_eq_true_eq]
  exact ⟨fun x hx => by rw [← mem_srt, ← h, mem_srt]; exact hx, fun x hx => by rw [← mem_srt, h, mem_srt]; exact hx⟩
theorem reqA_inj {nm nm' : ByteArray} {g g' : Nat → CV} (h : Value.agg (reqA nm g) = .agg (reqA nm' g')) : nm = nm' ∧ ∀ j, j < 6 → g j = g' j := by
  have h1 : reqA nm g = reqA nm' g' := by injection h
  refine ⟨?_, fun j hj => ?_⟩
  · have h2 := congrArg (fun a : Array Value => a[0]?) h1
    have h3 : some (Value.string nm) = some (Value.string nm') := h2
    injection (Option.some.inj h3)
  · have hx : ∀ c, c < 4 → (encC (g j)).getD c undef = (encC (g' j)).getD c undef := fun c hc => by
      have h2 := congrArg (fun a : Array Value => a[1 + j * 4 + c]?) h1
      simp only [reqA_at nm g j c hj hc, reqA_at nm' g' j c hj hc] at h2
      exact Option.some.inj h2
    have e0 : Value.int .i64 (g j).1 = .int .i64 (g' j).1 := hx 0 (by decide)
    have e1 : Value.int .i64 (g j).2.1 = .int .i64 (g' j).2.1 := hx 1 (by decide)
    have e2 : Value.int .u64 (g j).2.2.1 = .int .u64 (g' j).2.2.1 := hx 2 (by decide)
    have e3 : Value.int .u64 (g j).2.2.2 = .int .u64 (g' j).2.2.2 := hx 3 (by decide)
    have f0 : (g j).1 = (g' j).1 := by injection e0
    have f1 : (g j).2.1 = (g' j).2.1 := by injection e1
    have f2 : (g j).2.2.1 = (g' j).2.2.1 := by injection e2
    have f3 : (g j).2.2.2 = (g' j).2.2.2 := by injection e3
    exact Prod.ext f0 (Prod.ext f1 (Prod.ext f2 f3))
theorem pad_inj {l m : List CD} (hl : l.length ≤ 6) (hm : m.length ≤ 6) (h1 : ∀ c ∈ l, c.o ≠ 0) (h2 : ∀ c ∈ m, c.o ≠ 0) (h : ∀ j, j < 6 → padC l j = padC m j) : l = m := by
  have hin : ∀ (l : List CD) (j : Nat) (hj : j < l.length), padC l j = cvOf l[j] := fun l j hj => by
    unfold padC
    rw [List.getD_eq_getElem?_getD, List.getElem?_eq_getElem (by rw [List.length_map]; exact hj), List.getElem_map]
    rfl
  have hout : ∀ (l : List CD) (j : Nat), l.length ≤ j → padC l j = (0, 0, 0, 0) := fun l j hj => by
    unfold padC
    rw [List.getD_eq_getElem?_getD, List.getElem?_eq_none (by rw [List.length_map]; exact hj)]
    rfl
  have hnz : ∀ c : CD, c.o ≠ 0 → cvOf c ≠ (0, 0, 0, 0) := fun c hc e => hc (congrArg (fun x : CV => x.2.1) e)
  have hlen : l.length = m.length := by
    rcases Nat.lt_trichotomy l.length m.length with hlt | he | hlt
    · have e := h l.length (by omega)
      rw [hout l _ (Nat.le_refl _), hin m _ hlt] at e
      exact absurd e.symm (hnz _ (h2 _ (List.getElem_mem _)))
    · exact he
    · have e := h m.length (by omega)
      rw [hout m _ (Nat.le_refl _), hin l _ hlt] at e
      exact absurd e (hnz _ (h1 _ (List.getElem_mem _)))
  apply List.ext_getElem hlen
  intro j a b
  have e := h j (by omega)
  rw [hin l j a, hin m j b] at e
  exact cvOf_inj e
/-- Rules whose conditions are few and right. -/
def FewR (r : RV) : Prop := r.L.length ≤ 6 ∧ ∀ c ∈ r.L, c.o ≠ 0
theorem hid_iff {a r : RV} (ha : FewR a) (hr : FewR r) : (reqK a = .agg (reqN r.nm) ∨ reqK a = reqK r) ↔ hidD a r = true := by
  have hsl : ∀ {r : RV}, FewR r → (srt r.L).length ≤ 6 ∧ ∀ c ∈ srt r.L, c.o ≠ 0 := fun {r} h => ⟨Nat.le_trans (srt_len _) h.1, fun c hc => h.2 c ((mem_srt c _).1 hc)⟩
  unfold hidD
  simp only [Bool.and_eq_true, Bool.or_eq_true, decide_eq_true_eq]
  constructor
  · rintro (h | h)
    · obtain ⟨h1, h2⟩ := reqA_inj (g' := padC []) h
      refine ⟨h1, .inl ?_⟩
      have h3 := pad_inj (hsl ha).1 (by decide) (hsl ha).2 (fun c hc => by cases hc) h2
      cases hL : a.L with
      | nil => rfl
      | cons c t =>
        have : c ∈ srt a.L := (mem_srt c _).2 (by rw [hL]; exact List.mem_cons_self ..)
        rw [h3] at this
        cases this
    · obtain ⟨h1, h2⟩ := reqA_inj h
      exact ⟨h1, .inr (srt_alk (pad_inj (hsl ha).1 (hsl hr).1 (hsl ha).2 (hsl hr).2 h2))⟩
  · rintro ⟨h1, h2 | h2⟩
    · left
      have h3 : a.L = [] := by simpa using h2
      unfold reqK
      rw [h1, h3]
      rfl
    · right
      unfold reqK
      rw [h1, alk_srt h2]
theorem chk_same {T : Nat → SR} {tn : Nat} {L : List RV} (hL : ∀ r ∈ L, FewR r) {S : List Value} {i : Nat} {M : List RV} {a f : Nat} (h : VC T tn S i M a f) : S = (L.take i).map reqK → M = L.drop i → VR T tn L i a f := by
  have hd : ∀ {i : Nat} {r : RV} {rs : List RV}, r :: rs = L.drop i → L[i]? = some r ∧ rs = L.drop (i + 1) := fun {i r rs} h => by
    have h1 : (L.drop i)[0]? = some r := by rw [← h]; rfl
    rw [List.getElem?_drop, Nat.add_zero] at h1
    refine ⟨h1, ?_⟩
    have h2 : (L.drop i).drop 1 = rs := by rw [← h]; rfl
    rw [List.drop_drop] at h2
    exact h2.symm
  have hh : ∀ {i : Nat} {r : RV}, L[i]? = some r → ((Value.agg (reqN r.nm) ∈ (L.take i).map reqK ∨ reqK r ∈ (L.take i).map reqK) ↔ (L.take i).any (fun a => hidD a r) = true) := fun {i r} hr => by
    have hrL : r ∈ L := List.mem_of_getElem? hr
    simp only [List.mem_map, List.any_eq_true]
    constructor
    · rintro (⟨a, ha, e⟩ | ⟨a, ha, e⟩)
      · exact ⟨a, ha, (hid_iff (hL a (List.mem_of_mem_take ha)) (hL r hrL)).1 (.inl e)⟩
      · exact ⟨a, ha, (hid_iff (hL a (List.mem_of_mem_take ha)) (hL r hrL)).1 (.inr e)⟩
    · rintro ⟨a, ha, e⟩
      rcases (hid_iff (hL a (List.mem_of_mem_take ha)) (hL r hrL)).2 e with e | e
      · exact .inl ⟨a, ha, e⟩
      · exact .inr ⟨a, ha, e⟩
  induction h with
  | nil S i => intro _ hM; exact VR.nil i (List.drop_eq_nil_iff.1 hM.symm)
  | name S i r rs h => intro _ hM; exact VR.name i r (hd hM).1 h
  | bes S i r rs h h2 => intro _ hM; exact VR.bes i r (hd hM).1 h h2
  | twice S i r rs h h2 h3 =>
    intro hS hM
    subst hS
    exact VR.twice i r (hd hM).1 h h2 ((hh (hd hM).1).1 h3)
  | go S i r rs a f h h2 h3 h4 ih =>
    intro hS hM
    subst hS
    obtain ⟨e1, e2⟩ := hd hM
    refine VR.go i r a f e1 h h2 ?_ (ih ?_ e2)
    · cases hb : (L.take i).any (fun a => hidD a r) with
      | false => rfl
      | true => exact absurd ((hh e1).2 hb) (fun h => h.elim h3.1 h3.2)
    · rw [List.take_add_one, e1, List.map_append]
      rfl
end Go.Proofs.YtccklmleaffgiaaGreatDoor
