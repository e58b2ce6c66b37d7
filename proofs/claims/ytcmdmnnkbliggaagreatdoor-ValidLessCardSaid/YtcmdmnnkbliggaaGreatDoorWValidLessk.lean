/-
  The law ValidLess holds for every input: a valid policy without one of its rules, and with another default, is valid, too; so is one with another action. No condition.
-/
import Derived.Test.YtcmdmnnkbliggaaGreatDoorRows
import Derived.Test.YtcmdmnnkbliggaaGreatDoorCards
import Derived.Test.YtcmdmnnkbliggaaGreatDoorTie
import Derived.Test.YtcmdmnnkbliggaaGreatDoorCsk
import Derived.Test.YtcmdmnnkbliggaaGreatDoorCnk
import Derived.Test.YtcmdmnnkbliggaaGreatDoorMy
import Derived.Test.YtcmdmnnkbliggaaGreatDoorMv
import Derived.Test.YtcmdmnnkbliggaaGreatDoorMk
import Derived.Test.YtcmdmnnkbliggaaGreatDoorRik
import Derived.Lay
import Derived.MakeChecks
import Derived.WalkKit
import Derived.ProofKit
import Derived.OpenShut
import Derived.ShutString
import Derived.ChangeOld
import Derived.Below
import Derived.Lib.SmallJoins
import Derived.SevenTiedAt
import Derived.LaidMore
import Derived.Stop.Joined
import Derived.RegionTactic
import Derived.Deep.Cut
import Derived.Deep.CutRange
import Derived.Deep.RegionHeld3
namespace Go.Proofs.YtcmdmnnkbliggaaGreatDoor
open Go.RowKit Go.Shelf
set_option linter.unusedVariables false

theorem small_of15 {R : Nat → RL} {n : Nat} {l : List RL} (h : l.map RL.val = (List.range n).map (fun i => (R i).val)) (hR : ∀ i, i < n → (R i).n ≤ 12) : ∀ e ∈ l, e.n ≤ 100000 := fun e he => by
  have h1 : e.val ∈ (List.range n).map (fun i => (R i).val) := by rw [← h]; exact List.mem_map.2 ⟨e, he, rfl⟩
  obtain ⟨i, hi, hv⟩ := List.mem_map.1 h1
  have h2 := hR i (List.mem_range.1 hi)
  have h3 : e.val.L.length = e.n := by simp [RL.val]
  have h4 : (R i).val.L.length = (R i).n := by simp [RL.val]
  rw [hv] at h4
  omega
theorem rowc_grown {w w' : World} {row : Option Nat} {b : Nat} {cs : Array Value} {T : TypeId} (hg : w.grownBy w' row) (h : RowC w b cs T) (hne : some b ≠ row) : RowC w' b cs T := (hg.block b h.lt hne).trans h
theorem made_row (w : World) (base k : Nat) (hk : k = w.heap.size) (hb : base ≤ w.heap.size) : RowL (w.alloc (.cells #[] 57)) base (some ⟨k, 0, none⟩) [] 0 := by
  subst hk
  exact ⟨World.ownsRow_made w #[] 0 hb (by simp [maxLen]) rfl, fun _ h => by cases h⟩
theorem own_ne {w : World} {base c b : Nat} {A : Option Addr} {l : List RL} {cs : Array Value} (h : RowL w base A l c) (hb : RowC w b cs 26) : some b ≠ (Value.slice A l.length c).ownBlock := fun e => by
  obtain ⟨cs', fr, h1⟩ := h.ty b e.symm
  unfold RowC at hb
  rw [hb] at h1
  injection h1 with h1
  injection h1 with _ h2
  exact absurd h2 (by decide)
theorem RowL.setUnder {w : World} {base : Nat} {A : Option Addr} {l : List RL} {c g : Nat} {T : TypeId} (h : RowL w base A l c) (hg : TyAt w g T) (h1 : T ≠ 61) (h2 : g < base) (i : Nat) (v : Value) : RowL (w.setCell ⟨g, i, none⟩ v) base A l c := by
  refine ⟨?_, fun r hr => (h.2 r hr).keep ((KeepC.refl w).set hg h1 i v)⟩
  obtain ⟨q1, q2⟩ := h.1
  refine ⟨q1, ?_⟩
  rcases q2 with q2 | ⟨gg, cap, cur, hv, hgg, hh, r⟩
  · exact Or.inl q2
  · exact Or.inr ⟨gg, cap, cur, hv, hgg, (Below.heap_setCell w ⟨g, i, none⟩ v gg (fun e => by have e1 : gg = g := e; omega)).trans hh, r⟩
theorem OwnC.setUnder {w : World} {base z n c g : Nat} {E : TypeId} {A : Option Addr} {F : Nat → Value} (h : OwnC w base E z A n c F) (h2 : g < base) (i : Nat) (v : Value) : OwnC (w.setCell ⟨g, i, none⟩ v) base E z A n c F := by
  obtain ⟨q1, q2⟩ := h
  refine ⟨q1, ?_⟩
  rcases q2 with q2 | ⟨b, cap, cs, e, hb, hr, rest⟩
  · exact .inl q2
  · exact .inr ⟨b, cap, cs, e, hb, RowC.setOther (show RowC w b cs E from hr) i v (by omega), rest⟩
theorem less_sub {l : List RL} {j : Nat} : ((l.take j ++ l.drop (j + 1)).map RL.val).Sublist (l.map RL.val) := by
  refine List.Sublist.map _ ?_
  have h1 : (l.take j ++ l.drop (j + 1)).Sublist (l.take j ++ l.drop j) := List.Sublist.append (List.Sublist.refl _) (by
    rw [← List.drop_drop]
    exact List.drop_sublist _ _)
  rw [List.take_append_drop] at h1
  exact h1
theorem row_ge {w : World} {base b1 : Nat} {l : List RL} {c : Nat} (h : RowL w base (some ⟨b1, 0, none⟩) l c) : base ≤ b1 := by
  rcases h.1.2 with ⟨e, h0⟩ | ⟨g, cap, cur, e, hg, hr, _⟩
  · injection e with e1; cases e1
  · injection e with e1
    injection e1 with e1
    injection e1 with e1
    rw [e1]; exact hg
theorem bAl15 {w w' : World} (h : Below w.heap.size w w') (o : Obj) : Below w.heap.size w (w'.alloc o) := h.alloc h.size o
theorem drewC15 {W : World} {b : Nat} {cs : Array Value} {T : TypeId} (h : RowC W b cs T) : RowC W.drew b cs T := h
/-- Rules less some, valid by fewer requests: no rule is wrong. -/
theorem vc_sub {T : Nat → SR} {tn : Nat} {L' L : List RV} (hs : L'.Sublist L) : ∀ {S S' : List Value} {i i' a : Nat}, VC T tn S i L a 0 → (∀ s ∈ S', s ∈ S) → VC T tn S' i' L' 0 0 := by
  induction hs with
  | slnil => intro S S' i i' a _ _; exact .nil _ _
  | cons r _ ih =>
    intro S S' i i' a h hS
    cases h with
    | go _ _ _ _ _ _ h1 h2 h3 h4 => exact ih h4 fun s hs => List.mem_append.2 (.inl (hS s hs))
  | cons_cons r _ ih =>
    intro S S' i i' a h hS
    cases h with
    | go _ _ _ _ _ _ h1 h2 h3 h4 =>
      refine .go _ _ _ _ _ _ h1 h2 ⟨fun g => h3.1 (hS _ g), fun g => h3.2 (hS _ g)⟩ (ih h4 fun s hs => ?_)
      rcases List.mem_append.1 hs with hs | hs
      · exact List.mem_append.2 (.inl (hS s hs))
      · exact List.mem_append.2 (.inr hs)
/-- Check asks names and conditions alone. -/
theorem vc_acts {T : Nat → SR} {tn : Nat} : ∀ {L L' : List RV} {S : List Value} {i a f : Nat}, VC T tn S i L a f → L.map (fun r => (r.nm, r.L)) = L'.map (fun r => (r.nm, r.L)) → VC T tn S i L' a f
  | [], L', S, i, a, f, h, e => by
    cases L' with
    | nil => exact h
    | cons r L' => cases e
  | r :: L, [], S, i, a, f, h, e => by cases e
  | r :: L, r' :: L', S, i, a, f, h, e => by
    rw [List.map_cons, List.map_cons] at e
    injection e with e1 e2
    injection e1 with e3 e4
    have hk : reqK r' = reqK r := by unfold reqK; rw [e3, e4]
    cases h with
    | name _ _ _ _ g => exact .name _ _ _ _ (by rw [← e3]; exact g)
    | bes _ _ _ _ g g2 => exact .bes _ _ _ _ (by rw [← e3]; exact g) (by rw [← e4]; exact g2)
    | twice _ _ _ _ g g2 g3 => exact .twice _ _ _ _ (by rw [← e3]; exact g) (by rw [← e4]; exact g2) (by rw [← e3, hk]; exact g3)
    | go _ _ _ _ _ _ g g2 g3 g4 => exact .go _ _ _ _ _ _ (by rw [← e3]; exact g) (by rw [← e4]; exact g2) (by rw [← e3, hk]; exact g3) (by rw [hk]; exact vc_acts g4 e2)
theorem chk_parts {k u : Int} {L : List RV} {T : Nat → SR} {tn a : Nat} (h : ChkP k u L T tn a 0) : rightV k u L = true ∧ RightP T tn 0 0 ∧ VC T tn [] 0 L a 0 := by
  rcases h with ⟨_, _, h⟩ | ⟨h1, ⟨_, _, h⟩ | ⟨h2, h3⟩⟩
  · cases h
  · cases h
  · exact ⟨h1, h2, h3⟩
/-- What is valid is told so. -/
theorem chk_fine {k u : Int} {L : List RV} {T : Nat → SR} {tn a a' f' : Nat} (hr : rightV k u L = true) (hp : RightP T tn 0 0) (hv : VC T tn [] 0 L a 0) (h : ChkP k u L T tn a' f') : f' = 0 := by
  have h0 : ChkP k u L T tn a 0 := .inr ⟨hr, .inr ⟨hp, hv⟩⟩
  exact (chk_alike h h0.doc).2
theorem right_sub {k u ka ua : Int} {L L' : List RV} (h : rightV k u L = true) (ha : actB ka ua = true) (hs : L'.Sublist L) : rightV ka ua L' = true := by
  unfold rightV at h ⊢
  simp only [Bool.and_eq_true, decide_eq_true_eq, List.all_eq_true] at h ⊢
  exact ⟨ha, Nat.le_trans hs.length_le h.2.1, fun v hv => h.2.2 v (hs.subset hv)⟩
theorem may_act {r : RV} {ka ua : Int} (h : mayV r = true) (ha : actB ka ua = true) : mayV ⟨r.nm, ka, ua, r.L⟩ = true := by
  unfold mayV at h ⊢
  simp only [Bool.and_eq_true] at h ⊢
  exact ⟨h.1, ha, h.2.2⟩
/-- A valid policy less a rule, of another default. -/
theorem chk_less {k u ka ua : Int} {L L' : List RV} {T : Nat → SR} {tn a a' f' : Nat} (h : ChkP k u L T tn a 0) (ha : actB ka ua = true) (hs : L'.Sublist L) (h' : ChkP ka ua L' T tn a' f') : f' = 0 := by
  obtain ⟨h1, h2, h3⟩ := chk_parts h
  exact chk_fine (right_sub h1 ha hs) h2 (vc_sub hs h3 fun s hs => hs) h'
/-- A valid policy with another action of a rule. -/
theorem chk_set {k u ka ua : Int} {L : List RV} {T : Nat → SR} {tn a a' f' j : Nat} (hj : j < L.length) (h : ChkP k u L T tn a 0) (ha : actB ka ua = true) (h' : ChkP k u (L.set j ⟨L[j].nm, ka, ua, L[j].L⟩) T tn a' f') : f' = 0 := by
  obtain ⟨h1, h2, h3⟩ := chk_parts h
  have hm : L.map (fun r => (r.nm, r.L)) = (L.set j ⟨L[j].nm, ka, ua, L[j].L⟩).map (fun r => (r.nm, r.L)) := by
    rw [List.map_set]
    apply List.ext_getElem
    · simp
    · intro i hi hi'
      rw [List.getElem_set]
      split
      · rename_i e; subst e; simp
      · rfl
  refine chk_fine ?_ h2 (vc_acts h3 hm) h'
  unfold rightV at h1 ⊢
  simp only [Bool.and_eq_true, decide_eq_true_eq, List.all_eq_true] at h1 ⊢
  refine ⟨h1.1, by rw [List.length_set]; exact h1.2.1, fun v hv => ?_⟩
  rcases List.mem_or_eq_of_mem_set hv with hv | rfl
  · exact h1.2.2 v hv
  · exact may_act (h1.2.2 _ (List.getElem_mem hj)) ha
theorem RlL.drop {w : World} {b o : Nat} {l : List RL} (h : RlL w (some ⟨b, o, none⟩) l) (m : Nat) : RlL w (some ⟨b, o + m * 4, none⟩) (l.drop m) := by
  refine ⟨?_, fun r hr => h.2 r (List.mem_of_mem_drop hr)⟩
  rcases h.1 with h | ⟨b', o', e, hb, hc⟩
  · exact .inl (by rw [h]; simp)
  · injection e with e
    injection e with e1 e2
    subst e1 e2
    refine .inr ⟨b, o + m * 4, rfl, hb, fun i hi => ?_⟩
    rw [List.length_drop] at hi
    have h1 := hc (m + i) (by omega)
    have e : (l.drop m)[i]! = l[m + i]! := by
      rw [getElem!_pos (l.drop m) i (by rw [List.length_drop]; exact hi), getElem!_pos l (m + i) (by omega), List.getElem_drop]
    rw [e, show o + m * 4 + i * 4 = o + (m + i) * 4 by omega]
    exact h1
/-- Rules with another action of one of them. -/
theorem RlL.setAct {w : World} {b o j c : Nat} {l : List RL} (h : RlL w (some ⟨b, o, none⟩) l) (hj : j < l.length) (hty : TyAt w b 57) (ka ua : Int) (hk : (Lit.int .i64 ka).wf = true) (hu : (Lit.int .i64 ua).wf = true) :
    RlL ((w.setCell ⟨b, o + j * 4 + 1, none⟩ (.int .i64 ka)).setCell ⟨b, o + j * 4 + 1 + 1, none⟩ (.int .i64 ua)) (some ⟨b, o, none⟩) (l.set j { l[j] with k := ka, u := ua }) := by
  refine ⟨.inr ?_, fun r hr => ?_⟩
  · rcases h.1 with h0 | ⟨b', o', e, hb, hc⟩
    · rw [h0] at hj; exact absurd hj (Nat.not_lt_zero _)
    · injection e with e
      injection e with e1 e2
      subst e1 e2
      refine ⟨b, o, rfl, ?_, fun i hi => ?_⟩
      · exact Nat.lt_of_lt_of_le hb (((Below.refl 0 w).setCell (p := ⟨b, o + j * 4 + 1, none⟩) (Nat.zero_le _) _).setCell (p := ⟨b, o + j * 4 + 1 + 1, none⟩) (Nat.zero_le _) _).size
      · rw [List.length_set] at hi
        obtain ⟨h0, h1, h2, h3⟩ := hc i hi
        have ne : ∀ q, q ≠ o + j * 4 + 1 → q ≠ o + j * 4 + 1 + 1 → ((w.setCell ⟨b, o + j * 4 + 1, none⟩ (.int .i64 ka)).setCell ⟨b, o + j * 4 + 1 + 1, none⟩ (.int .i64 ua)).cell? ⟨b, q, none⟩ = w.cell? ⟨b, q, none⟩ := fun q q1 q2 => by
          rw [World.cell?_setCell_other _ _ _ _ (fun e => q2 (congrArg Addr.off e).symm), World.cell?_setCell_other _ _ _ _ (fun e => q1 (congrArg Addr.off e).symm)]
        by_cases hij : i = j
        · subst hij
          rw [getElem!_pos _ i (by rw [List.length_set]; exact hi), List.getElem_set_self]
          rw [getElem!_pos _ i hi] at h0 h3
          refine ⟨(ne _ (by omega) (by omega)).trans h0, ?_, ?_, (ne _ (by omega) (by omega)).trans h3⟩
          · rw [World.cell?_setCell_other _ _ _ _ (fun e => by have e1 := congrArg Addr.off e; simp at e1)]
            exact World.cell?_setCell_same _ _ _ h1
          · have h2' : (w.setCell ⟨b, o + i * 4 + 1, none⟩ (.int .i64 ka)).cell? ⟨b, o + i * 4 + 1 + 1, none⟩ = some (.int .i64 l[i]!.u) := by
              rw [World.cell?_setCell_other _ _ _ _ (fun e => by have e1 := congrArg Addr.off e; simp at e1)]
              exact h2
            exact World.cell?_setCell_same _ _ _ h2'
        · have e : (l.set j { l[j] with k := ka, u := ua })[i]! = l[i]! := by
            rw [getElem!_pos _ i (by rw [List.length_set]; exact hi), getElem!_pos _ i hi, List.getElem_set_ne (fun e => hij e.symm)]
          rw [e]
          exact ⟨(ne _ (by omega) (by omega)).trans h0, (ne _ (by omega) (by omega)).trans h1, (ne _ (by omega) (by omega)).trans h2, (ne _ (by omega) (by omega)).trans h3⟩
  · have hkc : KeepC w ((w.setCell ⟨b, o + j * 4 + 1, none⟩ (.int .i64 ka)).setCell ⟨b, o + j * 4 + 1 + 1, none⟩ (.int .i64 ua)) := ((KeepC.refl w).set hty (by decide) _ _).set (hty.set _ _) (by decide) _ _
    rcases List.mem_or_eq_of_mem_set hr with hr | rfl
    · exact (h.2 r hr).keep hkc
    · have h1 := (h.2 _ (List.getElem_mem hj)).keep hkc
      exact ⟨h1.1, hk, hu, h1.2.2.2.1, h1.2.2.2.2.1, h1.2.2.2.2.2⟩
section
set_option maxRecDepth 100000
open Go.ChangeShapes Go.WideShapes Go.Deep
variable {H : Type} {enc : TypeId × Value → H}
theorem pol_cells {w : World} {base : Nat} {spare : Nat → Bool} {held : Bool} {fuel : Nat} {cs : List Value} {y : DataW H × List MemPlace} (hf : DataW.trod enc Tryz.prog w base spare held fuel 39 cs = some y) :
    ∃ (k u : Int) (x : Bool) (A : Option Addr) (n c : Nat) (R : Nat → RL), cs = [.int .i64 k, .int .i64 u, .bool x, .slice A n c] ∧ (Lit.int .i64 k).wf = true ∧ (Lit.int .i64 u).wf = true ∧ n ≤ c ∧ c ≤ maxLen ∧ RlA w A n R := by
  have hC : Tryz.prog.cellsOf 39 = 4 := by kernel_rfl
  have hCb : Tryz.prog.cellsOf 4 = 1 := by kernel_rfl
  have hCa : Tryz.prog.cellsOf 36 = 2 := by kernel_rfl
  have hCl : Tryz.prog.cellsOf 37 = 1 := by kernel_rfl
  obtain ⟨xs, q, _, _, hl, hxl, hg⟩ := DataW.trod_struct Tryz.underlying39 hf
  rw [hC] at hl
  match cs, hl with
  | [c0, c1, c2, c3], _ =>
    have hx : ∀ j, j < 3 → ∃ y, xs[j]? = some y := fun j hj => ⟨xs[j]'(by rw [hxl]; exact hj), List.getElem?_eq_getElem _⟩
    obtain ⟨y0, z0⟩ := hx 0 (by decide)
    obtain ⟨y1, z1⟩ := hx 1 (by decide)
    obtain ⟨y2, z2⟩ := hx 2 (by decide)
    have g0 : DataW.trod enc Tryz.prog w base spare held q 36 [c0, c1] = some y0 := by
      have h : DataW.trod enc Tryz.prog w base spare held q 36 (([c0, c1, c2, c3].drop 0).take (Tryz.prog.cellsOf 36)) = xs[0]? := hg 0 _ rfl
      rw [hCa, z0] at h
      exact h
    have g1 : DataW.trod enc Tryz.prog w base spare held q 4 [c2] = some y1 := by
      have h : DataW.trod enc Tryz.prog w base spare held q 4 (([c0, c1, c2, c3].drop 2).take (Tryz.prog.cellsOf 4)) = xs[1]? := hg 1 _ rfl
      rw [hCb, z1] at h
      exact h
    have g2 : DataW.trod enc Tryz.prog w base spare held q 37 [c3] = some y2 := by
      have h : DataW.trod enc Tryz.prog w base spare held q 37 (([c0, c1, c2, c3].drop 3).take (Tryz.prog.cellsOf 37)) = xs[2]? := hg 2 _ rfl
      rw [hCl, z2] at h
      exact h
    obtain ⟨k, u, rfl, rfl, lk, lu⟩ := trodAct g0
    obtain ⟨x, rfl⟩ := trodB g1
    obtain ⟨A, n, c, R, rfl, l3, l4, l5⟩ := trodRules g2
    exact ⟨k, u, x, A, n, c, R, rfl, lk, lu, l3, l4, l5⟩
set_option maxHeartbeats 1000000 in
theorem open_less15 {r : Reach} {w : World} {b0 base : Nat} {spare : Nat → Bool} {held : Bool} {v : Value} {d : DataW H} {p : List MemPlace} (hv : Value.okWide Tryz.prog w r b0 53 v) (h : DataW.Trod enc Tryz.prog w base spare held 53 v d p) :
    ∃ (k u : Int) (x : Bool) (A : Option Addr) (n c : Nat) (R : Nat → RL) (TA : Option Addr) (tn tcap : Nat) (T : Nat → SR) (at0 : Nat) (ka ua : Int), v = .agg #[.int .i64 k, .int .i64 u, .bool x, .slice A n c, .slice TA tn tcap, .int .u8 at0, .int .i64 ka, .int .i64 ua] ∧ (Lit.int .i64 k).wf = true ∧ (Lit.int .i64 u).wf = true ∧ n ≤ c ∧ c ≤ maxLen ∧ RlA w A n R ∧ TbA w TA tn T ∧ at0 ≤ 255 ∧ (Lit.int .i64 ka).wf = true ∧ (Lit.int .i64 ua).wf = true := by
  have hC : Tryz.prog.cellsOf 53 = 8 := by kernel_rfl
  obtain ⟨cs, rfl, hsz⟩ := okWide_struct Tryz.underlying53 hv
  obtain ⟨l⟩ := cs
  match l, hsz.trans hC with
  | [c0, c1, c2, c3, c4, c5, c6, c7], _ =>
    obtain ⟨fuel, hf⟩ := h
    obtain ⟨xs, n, _, _, _, hlen, hg⟩ := DataW.trod_struct Tryz.underlying53 hf
    have k0 : Tryz.prog.cellsOf 39 = 4 := by kernel_rfl
    have k1 : Tryz.prog.cellsOf 44 = 1 := by kernel_rfl
    have k2 : Tryz.prog.cellsOf 5 = 1 := by kernel_rfl
    have k3 : Tryz.prog.cellsOf 36 = 2 := by kernel_rfl
    have hx : ∀ j, j < 4 → ∃ y, xs[j]? = some y := fun j hj => ⟨xs[j]'(by rw [hlen]; exact hj), List.getElem?_eq_getElem _⟩
    obtain ⟨y0, z0⟩ := hx 0 (by decide)
    obtain ⟨y1, z1⟩ := hx 1 (by decide)
    obtain ⟨y2, z2⟩ := hx 2 (by decide)
    obtain ⟨y3, z3⟩ := hx 3 (by decide)
    have g0 : DataW.trod enc Tryz.prog w base spare held n 39 [c0, c1, c2, c3] = some y0 := by
      have h : DataW.trod enc Tryz.prog w base spare held n 39 (([c0, c1, c2, c3, c4, c5, c6, c7].drop 0).take (Tryz.prog.cellsOf 39)) = xs[0]? := hg 0 _ rfl
      rw [k0, z0] at h
      exact h
    have g1 : DataW.trod enc Tryz.prog w base spare held n 44 [c4] = some y1 := by
      have h : DataW.trod enc Tryz.prog w base spare held n 44 (([c0, c1, c2, c3, c4, c5, c6, c7].drop 4).take (Tryz.prog.cellsOf 44)) = xs[1]? := hg 1 _ rfl
      rw [k1, z1] at h
      exact h
    have g2 : DataW.trod enc Tryz.prog w base spare held n 5 [c5] = some y2 := by
      have h : DataW.trod enc Tryz.prog w base spare held n 5 (([c0, c1, c2, c3, c4, c5, c6, c7].drop 5).take (Tryz.prog.cellsOf 5)) = xs[2]? := hg 2 _ rfl
      rw [k2, z2] at h
      exact h
    have g3 : DataW.trod enc Tryz.prog w base spare held n 36 [c6, c7] = some y3 := by
      have h : DataW.trod enc Tryz.prog w base spare held n 36 (([c0, c1, c2, c3, c4, c5, c6, c7].drop 6).take (Tryz.prog.cellsOf 36)) = xs[3]? := hg 3 _ rfl
      rw [k3, z3] at h
      exact h
    obtain ⟨k, u, x, A, n9, c9, R, hpc, lk, lu, l3, l4, l5⟩ := pol_cells g0
    simp only [List.cons.injEq, and_true] at hpc
    obtain ⟨rfl, rfl, rfl, rfl⟩ := hpc
    obtain ⟨TA, tn, tcap, hA⟩ : ∃ A m c, c4 = .slice A m c := by
      rcases open_slice Tryz.underlying44 g1 with ⟨hcs, _⟩ | ⟨a, len, cap, m, k, D, Pl, hcs, _⟩
      · exact ⟨_, _, _, (List.cons.injEq _ _ _ _ ▸ hcs).1⟩
      · exact ⟨_, _, _, (List.cons.injEq _ _ _ _ ▸ hcs).1⟩
    subst hA
    obtain ⟨T, hT⟩ := open_rows (A := TA) (n := tn) (c := tcap) ⟨n, g1⟩
    obtain ⟨n2, e2, _, w2⟩ := DataW.trod_int Tryz.underlying5 g2
    simp only [List.cons.injEq, and_true] at e2
    subst e2
    obtain ⟨ka, ua, rfl, rfl, lka, lua⟩ := trodAct g3
    simp [Lit.wf, IntKind.min, IntKind.max, IntKind.signed, IntKind.bits] at w2
    obtain ⟨x2, rfl⟩ := Int.eq_ofNat_of_zero_le w2.1
    exact ⟨k, u, x, A, n9, c9, R, TA, tn, tcap, T, x2, ka, ua, rfl, lk, lu, l3, l4, l5, hT, by omega, lka, lua⟩
end
set_option maxRecDepth 100000 in
set_option maxHeartbeats 64000000 in
theorem walk_ValidLess {w0 : World} (k u : Int) (x : Bool) (A : Option Addr) (n c : Nat) (R : Nat → RL) (TA : Option Addr) (tn tcap : Nat) (T : Nat → SR) (at0 : Nat) (ka ua : Int) (wk : (Lit.int .i64 k).wf = true) (wu : (Lit.int .i64 u).wf = true) (hnc : n ≤ c) (hcm : c ≤ maxLen) (hR : RlA w0 A n R) (hT : TbA w0 TA tn T) (hat : at0 ≤ 255) (wka : (Lit.int .i64 ka).wf = true) (wua : (Lit.int .i64 ua).wf = true) (_ : True) :
    Calls Tryz.prog 6 #[.agg #[.int .i64 k, .int .i64 u, .bool x, .slice A n c, .slice TA tn tcap, .int .u8 at0, .int .i64 ka, .int .i64 ua]] w0 fun e w' => e = .returned (.bool true) ∧ Below w0.heap.size w0 w' := by
  obtain ⟨B, hBs⟩ : ∃ B, w0.heap.size = B := ⟨_, rfl⟩
  obtain ⟨U, hU⟩ : ∃ U, w0.alloc (.cells #[.int .i64 k, .int .i64 u, .bool x, .slice A n c, .slice TA tn tcap, .int .u8 at0, .int .i64 ka, .int .i64 ua] 53) = U := ⟨_, rfl⟩
  have ru : RowC U B #[.int .i64 k, .int .i64 u, .bool x, .slice A n c, .slice TA tn tcap, .int .u8 at0, .int .i64 ka, .int .i64 ua] 53 := by rw [← hU, ← hBs]; exact RowC.new _ _ _ _ rfl
  have hbU : Below B w0 U := by rw [← hU, ← hBs]; exact (Below.refl _ _).alloc (Nat.le_refl _) _
  have hsU : B + 1 = U.heap.size := by rw [← hU, ← hBs]; simp
  have HRT : Hid (∀ W, Below B w0 W → RlA W A n R ∧ TbA W TA tn T) := Lib.hid fun W hW => ⟨hR.below hW (Nat.le_of_eq hBs), hT.below hW (Nat.le_of_eq hBs)⟩
  have HLG : Hid (∀ W, Below B w0 W → Calls Tryz.prog 22 #[.agg (polA k u x A n c), .slice TA tn tcap] W fun e w' => (∃ b, e = .returned (.bool b) ∧ (b = true → LightP n R ∧ tn ≤ 40 ∧ ∀ j, j < tn → (T j).nm.size ≤ 60)) ∧ Below W.heap.size W w') := Lib.hid fun W hW => light15_any k u x A n c R TA tn tcap T W hnc hcm (HRT.out _ hW).1 (HRT.out _ hW).2
  have HAW := Lib.hid fun (W : World) => awake15_any W
  have HRU := Lib.hid ru
  have HBU := Lib.hid hbU
  have HSU := Lib.hid hsU
  have HU := Lib.hid hU
  have HBS := Lib.hid hBs
  have HWF := Lib.hid (And.intro (And.intro wk wu) (And.intro wka wua))
  clear hU ru hbU hsU hR hT wk wu wka wua
  go_enter Tryz.func6, Tryz.ntmps6
  go_upto_region 1 with fail
  rw [HU.out]
  (try rw [hBs])
  clear hBs
  go_cut [3, 4, 5, 6] from 18 to 26 (fun s3 s4 s5 s6 wx => ∃ (X Y : Nat), s3 = .pointer (some ⟨X, 0, none⟩) ∧ s4 = .slice TA tn tcap ∧ s5 = .int .u8 at0 ∧ s6 = .pointer (some ⟨Y, 0, none⟩) ∧ RowC wx X (polA k u x A n c) 39 ∧ RowC wx Y #[.int .i64 ka, .int .i64 ua] 36 ∧ X ≠ Y ∧ Below B w0 wx)
  case first =>
    have HS : Hid (∀ W, Below U.heap.size U W → W.cell? ⟨B, 0, none⟩ = some (.int .i64 k) ∧ W.cell? ⟨B, 1, none⟩ = some (.int .i64 u) ∧ W.cell? ⟨B, 2, none⟩ = some (.bool x) ∧ W.cell? ⟨B, 3, none⟩ = some (.slice A n c) ∧ W.cell? ⟨B, 4, none⟩ = some (.slice TA tn tcap) ∧ W.cell? ⟨B, 5, none⟩ = some (.int .u8 at0) ∧ W.cell? ⟨B, 6, none⟩ = some (.int .i64 ka) ∧ W.cell? ⟨B, 7, none⟩ = some (.int .i64 ua)) := Lib.hid fun W hW => by
      have h := HRU.out.below hW HRU.out.lt
      exact ⟨h.cell 0 _ rfl, h.cell 1 _ rfl, h.cell 2 _ rfl, h.cell 3 _ rfl, h.cell 4 _ rfl, h.cell 5 _ rfl, h.cell 6 _ rfl, h.cell 7 _ rfl⟩
    obtain ⟨z0, z1, z2, z3, z4, z5, z6, z7⟩ := HS.out U (Below.refl _ _)
    go_region_held3 (fun w' => w'.cell? ⟨B, 0, none⟩ = some (.int .i64 k) ∧ w'.cell? ⟨B, 1, none⟩ = some (.int .i64 u) ∧ w'.cell? ⟨B, 2, none⟩ = some (.bool x) ∧ w'.cell? ⟨B, 3, none⟩ = some (.slice A n c) ∧ w'.cell? ⟨B, 4, none⟩ = some (.slice TA tn tcap) ∧ w'.cell? ⟨B, 5, none⟩ = some (.int .u8 at0) ∧ w'.cell? ⟨B, 6, none⟩ = some (.int .i64 ka) ∧ w'.cell? ⟨B, 7, none⟩ = some (.int .i64 ua))
      (exact HS.out _ (by repeat (first | assumption | exact Below.refl _ _ | apply Below.drew | apply bAl15)))
      (fail)
    all_goals go_wp2_with fail
    all_goals go_meet
    all_goals
      have hE : ∀ (O1 O2 : Obj), Below B w0 ((U.alloc O1).alloc O2).drew := fun O1 O2 => by
        have hB : Below U.heap.size U ((U.alloc O1).alloc O2).drew := (bAl15 (bAl15 (Below.refl _ U) O1) O2).drew
        exact HBU.out.trans (hB.mono (by have := HSU.out; omega))
      have hsz := HSU.out
      refine ⟨_, _, rfl, rfl, rfl, rfl, ?_, ?_, ?_, hE _ _⟩
      · first | exact drewC15 ((RowC.new _ _ _ _ rfl).alloc _) | exact drewC15 (RowC.new _ _ _ _ (by simp))
      · first | exact drewC15 ((RowC.new _ _ _ _ rfl).alloc _) | exact drewC15 (RowC.new _ _ _ _ (by simp))
      · omega
  case rest =>
  obtain ⟨X, Y, rfl, rfl, rfl, rfl, hX, hY, hXY, hB⟩ := hcut
  obtain ⟨W0, hW0⟩ : ∃ W, wc = W := ⟨_, rfl⟩
  rw [hW0] at hX hY hB ⊢
  clear hW0
  have HFX : Hid (∀ W, Below W0.heap.size W0 W → RowC W X (polA k u x A n c) 39 ∧ RowC W Y #[.int .i64 ka, .int .i64 ua] 36 ∧ Below B w0 W) := Lib.hid fun W hW => ⟨hX.below hW hX.lt, hY.below hW hY.lt, hB.trans (hW.mono (by have := hB.size; have := HBS.out; omega))⟩
  have HL := Lib.hid (HLG.out _ hB)
  have p0 := hX.cell 0 (.int .i64 k) rfl
  have p1 := hX.cell 1 (.int .i64 u) rfl
  have p2 := hX.cell 2 (.bool x) rfl
  have p3 := hX.cell 3 (.slice A n c) rfl
  clear HRU HBU HU hX hY hXY hB
  go_upto_region 2 with fail
  go_cut [40] from 26 to 40 (fun s wx => ∃ rb : Bool, s = .bool rb ∧ (rb = false → (LightP n R ∧ tn ≤ 40) ∧ 0 < n ∧ actB ka ua = true) ∧ Below W0.heap.size W0 wx)
  case first =>
    go_wp2_with fail
    refine HL.out.mono ?_
    rintro e w1 ⟨⟨bl, rfl, hlight⟩, hB1⟩
    have HB1 := Lib.hid hB1
    clear hB1 p0 p1 p2 p3 HL
    rcases bl with _ | _
    · go_wp2_with fail
      go_meet
      exact ⟨true, rfl, (fun h => by cases h), HB1.out⟩
    have HLP := Lib.hid (hlight rfl)
    have hq := HFX.out _ HB1.out
    have q3 := hq.1.cell 3 (.slice A n c) rfl
    have y0 := hq.2.1.cell 0 (.int .i64 ka) rfl
    have y1 := hq.2.1.cell 1 (.int .i64 ua) rfl
    clear hlight hq
    by_cases hn0 : n = 0
    · subst hn0
      go_wp2_with fail
      go_meet
      exact ⟨true, rfl, (fun h => by cases h), HB1.out⟩
    have f1 : ((n : Int) == 0) = false := beq_eq_false_iff_ne.2 (by omega)
    have f2 : (n == 0) = false := beq_eq_false_iff_ne.2 hn0
    have f3 : ¬ (n : Int) = 0 := by omega
    have KR9 := Lib.hid (right9_any ka ua w1)
    obtain ⟨rv, hrv⟩ : ∃ rv, actB ka ua = rv := ⟨_, rfl⟩
    rw [hrv] at KR9
    have HRV := Lib.hid hrv
    clear hrv
    go_wp2_with fail
    refine KR9.out.mono ?_
    rintro e v1 ⟨rfl, hV1⟩
    have HV1 := Lib.hid (bTr HB1.out hV1)
    clear hV1 q3 y0 y1
    rcases rv with _ | _
    all_goals go_wp2_with fail
    all_goals go_meet
    · exact ⟨true, rfl, (fun h => by cases h), HV1.out⟩
    · exact ⟨false, rfl, (fun h => ⟨⟨HLP.out.1, HLP.out.2.1⟩, by omega, HRV.out⟩), HV1.out⟩
  case rest =>
  obtain ⟨rb, rfl, hrb, hBw⟩ := hcut
  have HBW := Lib.hid hBw
  clear hBw p0 p1 p2 p3 HL
  have hq := (HFX.out _ HBW.out).1
  have q0 := hq.cell 0 (.int .i64 k) rfl
  have q1 := hq.cell 1 (.int .i64 u) rfl
  have q2 := hq.cell 2 (.bool x) rfl
  have q3 := hq.cell 3 (.slice A n c) rfl
  clear hq
  cases rb with
  | true =>
    have KL := Lib.hid (HLG.out _ (HFX.out _ HBW.out).2.2)
    clear hrb
    go_wp2_with fail
    refine KL.out.mono ?_
    rintro e w1 ⟨⟨bl, rfl, hlight⟩, hB1⟩
    have HB1 := Lib.hid (bTr HBW.out hB1)
    clear hB1 q0 q1 q2 q3 KL hlight
    rcases bl with _ | _
    · go_wp2
      go_ret
      exact ⟨rfl, by rw [HBS.out]; exact (HFX.out _ HB1.out).2.2⟩
    have KW := Lib.hid (HAW.out w1)
    go_wp2_with fail
    refine KW.out.mono ?_
    rintro e w2 ⟨rfl, hB2⟩
    go_wp2
    go_ret
    exact ⟨rfl, by rw [HBS.out]; exact (HFX.out _ (bTr HB1.out hB2)).2.2⟩
  | false =>
  have HLP := Lib.hid (hrb rfl).1
  have hnp := (hrb rfl).2.1
  have HACT := Lib.hid (hrb rfl).2.2
  have hn40 := HLP.out.1.1
  have ht40 := HLP.out.2
  clear hrb
  have KO := Lib.hid (of15_any k u x A n c R wc (by omega) (fun i hi => (HLP.out.1.2 i hi).2) (HRT.out _ (HFX.out _ HBW.out).2.2).1)
  go_wp2_with fail
  refine KO.out.mono ?_
  rintro e w2 ⟨A2, c2, l2, rfl, hl2, hrow2, hv2, hB2⟩
  have HB2 := Lib.hid (bTr HBW.out hB2)
  obtain ⟨b1, cur, rfl, hcur⟩ : ∃ b1 cur, A2 = some ⟨b1, 0, none⟩ ∧ RowC w2 b1 cur 57 := by
    rcases hrow2.1.2 with ⟨e, h0⟩ | ⟨g, cap, cur, e, _, hr, _⟩
    · omega
    · injection e with e1
      exact ⟨g, cur, e1, hr⟩
  have HO2 := Lib.hid hrow2.rl
  have HLE := Lib.hid hrow2.le
  have HL2 := Lib.hid hl2
  have HV2 := Lib.hid hv2
  have HCUR := Lib.hid hcur
  have HB1N : Hid (b1 < w2.heap.size) := Lib.hid hcur.lt
  have HBB1 : Hid (B ≤ b1) := Lib.hid (by
    have h1 := row_ge hrow2
    have h2 := (HFX.out _ HBW.out).2.2.size
    have h3 := HBS.out
    omega)
  have KR := Lib.hid (rows15_any TA tn tcap T w2 (by omega) (HRT.out _ (HFX.out w2 HB2.out).2.2).2)
  clear q0 q1 q2 q3 KO hrow2 hv2 hl2 hB2 hcur
  go_wp2_with fail
  refine KR.out.mono ?_
  rintro e w3 ⟨A3, c3, rfl, hown3, hB3⟩
  have HB3 := Lib.hid (bTr HB2.out hB3)
  have HT3 := Lib.hid (own_tbl hown3)
  have HW3 := Lib.hid hown3
  obtain ⟨bx, hbx⟩ : ∃ bx, w3.heap.size = bx := ⟨_, rfl⟩
  obtain ⟨W4, hW4⟩ : ∃ W, w3.alloc (.cells (polA k u x (some ⟨b1, 0, none⟩) n c2) 26) = W := ⟨_, rfl⟩
  have hb4 : Below w3.heap.size w3 W4 := by rw [← hW4]; exact (Below.refl _ _).alloc (Nat.le_refl _) _
  have hx4 : RowC W4 bx (polA k u x (some ⟨b1, 0, none⟩) n c2) 26 := by rw [← hW4, ← hbx]; exact RowC.new _ _ _ _ rfl
  have hbn : b1 ≠ bx := by have h1 := HCUR.out.lt; have h2 := hB3.size; omega
  have HBN := Lib.hid hbn
  have HR4 := Lib.hid ((HO2.out.below hB3 (Nat.le_refl _)).below hb4 (Nat.le_refl _))
  have HC4 := Lib.hid ((HCUR.out.below hB3 HCUR.out.lt).below hb4 (by have h1 := HCUR.out.lt; have h2 := hB3.size; omega))
  have HT4 := Lib.hid (HT3.out.below hb4 (Nat.le_refl _))
  have HW4' := Lib.hid (HW3.out.below hb4 (Nat.le_refl _))
  have HB4 := Lib.hid (bTr HB3.out hb4)
  have HRX : Hid (∀ W, Below W4.heap.size W4 W → RowC W bx (polA k u x (some ⟨b1, 0, none⟩) n c2) 26 ∧ RlL W (some ⟨b1, 0, none⟩) l2 ∧ TbA W A3 tn T ∧ RowC W b1 cur 57 ∧ RowC W Y #[.int .i64 ka, .int .i64 ua] 36 ∧ Below B w0 W) := Lib.hid fun W hW => ⟨hx4.below hW hx4.lt, HR4.out.below hW (Nat.le_refl _), HT4.out.below hW (Nat.le_refl _), HC4.out.below hW HC4.out.lt, (HFX.out W (bTr HB4.out hW)).2.1, (HFX.out W (bTr HB4.out hW)).2.2⟩
  have HS2 := Lib.hid (small_of15 HV2.out fun i hi => (HLP.out.1.2 i hi).2)
  have x0 := hx4.cell 0 (.int .i64 k) rfl
  have x1 := hx4.cell 1 (.int .i64 u) rfl
  have x2 := hx4.cell 2 (.bool x) rfl
  have x3 := hx4.cell 3 (.slice (some ⟨b1, 0, none⟩) n c2) rfl
  have HW4 := Lib.hid hW4
  have HBX := Lib.hid hbx
  have hch := check_any k u x (some ⟨b1, 0, none⟩) l2 c2 A3 tn c3 T W4 HR4.out (by rw [HL2.out]; omega) HS2.out (by omega) HT4.out
  rw [HL2.out] at hch
  have KC := Lib.hid hch
  clear KR hown3 hB3 hch hW4 hbx hb4 hx4 HT3 HO2 HCUR hbn
  go_upto_region 5 with fail
  (try rw [HW4.out])
  (try rw [HBX.out])
  go_wp2_with fail
  refine KC.out.mono ?_
  rintro e V ⟨a, f, rfl, hca, hB5⟩
  have HV : Hid (Below W4.heap.size W4 V) := Lib.hid hB5
  have HCA := Lib.hid hca
  clear x0 x1 x2 x3 KC hB5 hca HR4 HC4 HT4
  by_cases hf0 : f = 0
  case neg =>
    have hfz : ((f : Int) != 0) = true := by simpa using hf0
    have KW := Lib.hid (HAW.out V)
    clear hf0
    go_wp2_with fail
    refine KW.out.mono ?_
    rintro e w6 ⟨rfl, hB6⟩
    go_wp2
    go_ret
    exact ⟨rfl, by rw [HBS.out]; exact (HRX.out _ (bTr HV.out hB6)).2.2.2.2.2⟩
  subst hf0
  have f1 : ((n : Int) == 0) = false := beq_eq_false_iff_ne.2 (by omega)
  have f2 : (n == 0) = false := beq_eq_false_iff_ne.2 (by omega)
  have f3 : ¬ (n : Int) = 0 := by omega
  obtain ⟨jj, hjj⟩ : ∃ jj, at0 % n = jj := ⟨_, rfl⟩
  have hjl : jj < n := by rw [← hjj]; exact Nat.mod_lt _ (by omega)
  have v1 : ((at0 : Int)).tmod (n : Int) = (jj : Int) := by rw [← hjj, Int.tmod_eq_emod_of_nonneg (by omega)]; first | exact (Int.natCast_emod at0 n).symm | exact (Int.ofNat_emod at0 n).symm | simp
  have v0 : IntKind.i64.wrap (at0 : Int) = (at0 : Int) := by rw [IntKind.wrap_i64]; omega
  have hle := HLE.out
  rw [HL2.out] at hle
  have hmx := hle.2
  unfold maxLen at hmx
  have i1 : (0 : Int) ≤ (jj : Int) := by omega
  have i2 : (jj : Int) ≤ (n : Int) := by omega
  have i3 : (jj : Int) < (n : Int) := by omega
  have i4 : (jj : Int) ≤ (c2 : Int) := by omega
  have i5 : (jj : Int) + 1 ≤ (n : Int) := by omega
  have i6 : (n : Int) ≤ (c2 : Int) := by omega
  have v2 : IntKind.i64.wrap ((jj : Int) + 1) = (jj : Int) + 1 := by rw [IntKind.wrap_i64]; omega
  have i7 : (0 : Int) ≤ (jj : Int) + 1 := by omega
  have i8 : ((jj : Int) + 1).toNat = jj + 1 := by omega
  have i9 : (jj : Int) + 1 ≤ (c2 : Int) := by omega
  have hq := HRX.out _ HV.out
  have x0 := hq.1.cell 0 (.int .i64 k) rfl
  have x1 := hq.1.cell 1 (.int .i64 u) rfl
  have x2 := hq.1.cell 2 (.bool x) rfl
  have x3 := hq.1.cell 3 (.slice (some ⟨b1, 0, none⟩) n c2) rfl
  have y0 := hq.2.2.2.2.1.cell 0 (.int .i64 ka) rfl
  have y1 := hq.2.2.2.2.1.cell 1 (.int .i64 ua) rfl
  have HLE2 := Lib.hid hle
  obtain ⟨Z, hZ⟩ : ∃ Z, V.heap.size = Z := ⟨_, rfl⟩
  obtain ⟨U, hU⟩ : ∃ U, V.alloc (.cells #[.int .i64 ka, .int .i64 ua] 23) = U := ⟨_, rfl⟩
  have hbu : Below V.heap.size V U := by rw [← hU]; exact (Below.refl _ _).alloc (Nat.le_refl _) _
  have hz : RowC U Z #[.int .i64 ka, .int .i64 ua] 23 := by rw [← hU, ← hZ]; exact RowC.new _ _ _ _ rfl
  have HBU := Lib.hid (bTr HV.out hbu)
  have HZZ := Lib.hid hz
  have HZN : Hid (b1 ≠ Z) := Lib.hid (by have h1 := hq.2.2.2.1.lt; omega)
  have HUU := Lib.hid hU
  have HZ := Lib.hid hZ
  clear hq hle hmx hbu hz hU
  go_upto_region 10 with fail
  (try rw [HUU.out])
  (try rw [hZ])
  clear x0 x1 x2 x3 y0 y1 hZ
  have HS : Hid (∀ W, Below U.heap.size U W → W.cell? ⟨bx, 0, none⟩ = some (.int .i64 k) ∧ W.cell? ⟨bx, 1, none⟩ = some (.int .i64 u) ∧ W.cell? ⟨bx, 2, none⟩ = some (.bool x) ∧ W.cell? ⟨bx, 3, none⟩ = some (.slice (some ⟨b1, 0, none⟩) n c2) ∧ W.cell? ⟨Z, 0, none⟩ = some (.int .i64 ka) ∧ W.cell? ⟨Z, 1, none⟩ = some (.int .i64 ua)) := Lib.hid fun W hW => by
    obtain ⟨h1, _⟩ := HRX.out W (bTr HBU.out hW)
    have h2 := HZZ.out.below hW HZZ.out.lt
    exact ⟨h1.cell 0 _ rfl, h1.cell 1 _ rfl, h1.cell 2 _ rfl, h1.cell 3 _ rfl, h2.cell 0 _ rfl, h2.cell 1 _ rfl⟩
  have HRLT : Hid (∀ W, Below U.heap.size U W → RlL W (some ⟨b1, 0, none⟩) (l2.take jj)) := Lib.hid fun W hW => (HRX.out W (bTr HBU.out hW)).2.1.take jj
  have HRLD : Hid (∀ W, Below U.heap.size U W → RlL W (some ⟨b1, (jj + 1) * 4, none⟩) (l2.drop (jj + 1))) := Lib.hid fun W hW => by
    have h := (HRX.out W (bTr HBU.out hW)).2.1.drop (jj + 1)
    rw [Nat.zero_add] at h
    exact h
  obtain ⟨US, hUS0⟩ : ∃ US, U.heap.size = US := ⟨_, rfl⟩
  have hUS := Lib.hid hUS0
  have hlt : (l2.take jj).length = jj := by rw [List.length_take, HL2.out]; omega
  have hld : (l2.drop (jj + 1)).length = n - (jj + 1) := by rw [List.length_drop, HL2.out]
  have HLT := Lib.hid hlt
  have HLD := Lib.hid hld
  clear hUS0 hlt hld
  go_cut [13] from 72 to 89 (fun s wx => ∃ P A8 c8, s = .pointer (some ⟨P, 0, none⟩) ∧ Hid (RowC wx P (polA ka ua (!x) A8 (n - 1) c8) 26 ∧ RowL wx US A8 (l2.take jj ++ l2.drop (jj + 1)) c8 ∧ US ≤ P ∧ Below U.heap.size U wx))
  case first =>
    by_cases hck : c2 = jj + 1
    · have hnk : n = jj + 1 := by have := HLE2.out; omega
      have HNK := Lib.hid hnk
      have HRLD : Hid (∀ W, Below U.heap.size U W → RlL W (some ⟨b1, 0, none⟩) (l2.drop (jj + 1))) := Lib.hid fun W hW => ⟨.inl (List.drop_eq_nil_of_le (by rw [HL2.out]; omega)), fun r hr => by rw [List.drop_eq_nil_of_le (by rw [HL2.out]; omega)] at hr; cases hr⟩
      clear hnk
      subst hck
      have j4 : (jj : Int) ≤ (jj : Int) + 1 := by omega
      have j5 : (n : Int) ≤ (jj : Int) + 1 := by have := HNK.out; omega
      refine wp_region_held_drew (S := fun w' => w'.cell? ⟨bx, 0, none⟩ = some (.int .i64 k) ∧ w'.cell? ⟨bx, 1, none⟩ = some (.int .i64 u) ∧ w'.cell? ⟨bx, 2, none⟩ = some (.bool x) ∧ w'.cell? ⟨bx, 3, none⟩ = some (.slice (some ⟨b1, 0, none⟩) n (jj + 1)) ∧ w'.cell? ⟨Z, 0, none⟩ = some (.int .i64 ka) ∧ w'.cell? ⟨Z, 1, none⟩ = some (.int .i64 ua)) (by kernel_rfl) (HS.out _ (Below.refl _ U).drew) (fun hHeld => ?_)
      have hbc : Below U.heap.size U U.drew := (Below.refl _ U).drew
      generalize U.drew = Wv0 at *
      refine wpAnyH_take (i := 0) (oi := ({ dst := some 72, op := Op.load 23 (Operand.tmp 12), type := 23, pos := "outright.go:34", after := #[], guard := none } : Oper)) (v := ?vq0) rfl (by kernel_rfl) (by kernel_rfl) (by kernel_rfl) (fun _ _ _ h => h) (Or.inl ⟨by rfl, ?hq0⟩) hHeld ?rq0
      case hq0 =>
        intro w hSw
        obtain ⟨s0, s1, s2, s3, s4, s5⟩ := hSw
        go_simp
        all_goals with_reducible rfl
      try simp only [Act.put, List.setIfInBounds_toArray, List.set_cons_zero, List.set_cons_succ]
      refine wpAnyH_take (i := 1) (oi := ({ dst := some 73, op := Op.fieldAddr 26 (Operand.tmp 7) 1, type := 0, pos := "outright.go:34", after := #[], guard := none } : Oper)) (v := ?vq1) rfl (by kernel_rfl) (by kernel_rfl) (by kernel_rfl) (fun _ _ _ h => h) (Or.inl ⟨by rfl, ?hq1⟩) hHeld ?rq1
      case hq1 =>
        intro w hSw
        obtain ⟨s0, s1, s2, s3, s4, s5⟩ := hSw
        go_simp
        all_goals with_reducible rfl
      try simp only [Act.put, List.setIfInBounds_toArray, List.set_cons_zero, List.set_cons_succ]
      refine wpAnyH_take (i := 2) (oi := ({ dst := some 74, op := Op.load 4 (Operand.tmp 73), type := 4, pos := "outright.go:34", after := #[{ on := 1, ground := Ground.data }], guard := none } : Oper)) (v := ?vq2) rfl (by kernel_rfl) (by kernel_rfl) (by kernel_rfl) (fun _ _ _ h => h) (Or.inl ⟨by rfl, ?hq2⟩) hHeld ?rq2
      case hq2 =>
        intro w hSw
        obtain ⟨s0, s1, s2, s3, s4, s5⟩ := hSw
        go_simp
        all_goals with_reducible rfl
      try simp only [Act.put, List.setIfInBounds_toArray, List.set_cons_zero, List.set_cons_succ]
      refine wpAnyH_take (i := 3) (oi := ({ dst := some 75, op := Op.unOp UnOp.not 4 (Operand.tmp 74), type := 4, pos := "outright.go:34", after := #[{ on := 2, ground := Ground.data }], guard := none } : Oper)) (v := ?vq3) rfl (by kernel_rfl) (by kernel_rfl) (by kernel_rfl) (fun _ _ _ h => h) (Or.inl ⟨by rfl, ?hq3⟩) hHeld ?rq3
      case hq3 =>
        intro w hSw
        obtain ⟨s0, s1, s2, s3, s4, s5⟩ := hSw
        go_simp
        all_goals with_reducible rfl
      try simp only [Act.put, List.setIfInBounds_toArray, List.set_cons_zero, List.set_cons_succ]
      refine wpAnyH_take (i := 5) (oi := ({ dst := some 77, op := Op.fieldAddr 26 (Operand.tmp 7) 2, type := 0, pos := "outright.go:34", after := #[], guard := none } : Oper)) (v := ?vq5) rfl (by kernel_rfl) (by kernel_rfl) (by kernel_rfl) (fun _ _ _ h => h) (Or.inl ⟨by rfl, ?hq5⟩) hHeld ?rq5
      case hq5 =>
        intro w hSw
        obtain ⟨s0, s1, s2, s3, s4, s5⟩ := hSw
        go_simp
        all_goals with_reducible rfl
      try simp only [Act.put, List.setIfInBounds_toArray, List.set_cons_zero, List.set_cons_succ]
      refine wpAnyH_take (i := 6) (oi := ({ dst := some 78, op := Op.load 24 (Operand.tmp 77), type := 24, pos := "outright.go:34", after := #[{ on := 5, ground := Ground.data }], guard := none } : Oper)) (v := ?vq6) rfl (by kernel_rfl) (by kernel_rfl) (by kernel_rfl) (fun _ _ _ h => h) (Or.inl ⟨by rfl, ?hq6⟩) hHeld ?rq6
      case hq6 =>
        intro w hSw
        obtain ⟨s0, s1, s2, s3, s4, s5⟩ := hSw
        go_simp
        all_goals with_reducible rfl
      try simp only [Act.put, List.setIfInBounds_toArray, List.set_cons_zero, List.set_cons_succ]
      refine wpAnyH_take (i := 7) (oi := ({ dst := some 79, op := Op.move (Operand.tmp 11), type := 3, pos := "outright.go:34", after := #[], guard := none } : Oper)) (v := ?vq7) rfl (by kernel_rfl) (by kernel_rfl) (by kernel_rfl) (fun _ _ _ h => h) (Or.inl ⟨by rfl, ?hq7⟩) hHeld ?rq7
      case hq7 =>
        intro w hSw
        obtain ⟨s0, s1, s2, s3, s4, s5⟩ := hSw
        go_simp
        all_goals with_reducible rfl
      try simp only [Act.put, List.setIfInBounds_toArray, List.set_cons_zero, List.set_cons_succ]
      refine wpAnyH_take (i := 8) (oi := ({ dst := some 80, op := Op.slice 24 (Operand.tmp 78) none (some (Operand.tmp 79)) none, type := 24, pos := "outright.go:34", after := #[{ on := 6, ground := Ground.data }, { on := 7, ground := Ground.data }], guard := none } : Oper)) (v := ?vq8) rfl (by kernel_rfl) (by kernel_rfl) (by kernel_rfl) (fun _ _ _ h => h) (Or.inl ⟨by rfl, ?hq8⟩) hHeld ?rq8
      case hq8 =>
        intro w hSw
        obtain ⟨s0, s1, s2, s3, s4, s5⟩ := hSw
        go_simp
        all_goals with_reducible rfl
      try simp only [Act.put, List.setIfInBounds_toArray, List.set_cons_zero, List.set_cons_succ]
      refine wpAnyH_take (i := 10) (oi := ({ dst := some 82, op := Op.fieldAddr 26 (Operand.tmp 7) 2, type := 0, pos := "outright.go:34", after := #[], guard := none } : Oper)) (v := ?vq10) rfl (by kernel_rfl) (by kernel_rfl) (by kernel_rfl) (fun _ _ _ h => h) (Or.inl ⟨by rfl, ?hq10⟩) hHeld ?rq10
      case hq10 =>
        intro w hSw
        obtain ⟨s0, s1, s2, s3, s4, s5⟩ := hSw
        go_simp
        all_goals with_reducible rfl
      try simp only [Act.put, List.setIfInBounds_toArray, List.set_cons_zero, List.set_cons_succ]
      refine wpAnyH_take (i := 11) (oi := ({ dst := some 83, op := Op.load 24 (Operand.tmp 82), type := 24, pos := "outright.go:34", after := #[{ on := 10, ground := Ground.data }], guard := none } : Oper)) (v := ?vq11) rfl (by kernel_rfl) (by kernel_rfl) (by kernel_rfl) (fun _ _ _ h => h) (Or.inl ⟨by rfl, ?hq11⟩) hHeld ?rq11
      case hq11 =>
        intro w hSw
        obtain ⟨s0, s1, s2, s3, s4, s5⟩ := hSw
        go_simp
        all_goals with_reducible rfl
      try simp only [Act.put, List.setIfInBounds_toArray, List.set_cons_zero, List.set_cons_succ]
      refine wpAnyH_take (i := 12) (oi := ({ dst := some 84, op := Op.move (Operand.tmp 11), type := 3, pos := "outright.go:34", after := #[], guard := none } : Oper)) (v := ?vq12) rfl (by kernel_rfl) (by kernel_rfl) (by kernel_rfl) (fun _ _ _ h => h) (Or.inl ⟨by rfl, ?hq12⟩) hHeld ?rq12
      case hq12 =>
        intro w hSw
        obtain ⟨s0, s1, s2, s3, s4, s5⟩ := hSw
        go_simp
        all_goals with_reducible rfl
      try simp only [Act.put, List.setIfInBounds_toArray, List.set_cons_zero, List.set_cons_succ]
      refine wpAnyH_take (i := 13) (oi := ({ dst := some 85, op := Op.binOp BinOp.add 3 (Operand.tmp 84) (Operand.const (Value.int IntKind.i64 1)) 3, type := 3, pos := "outright.go:34", after := #[{ on := 12, ground := Ground.data }], guard := none } : Oper)) (v := ?vq13) rfl (by kernel_rfl) (by kernel_rfl) (by kernel_rfl) (fun _ _ _ h => h) (Or.inl ⟨by rfl, ?hq13⟩) hHeld ?rq13
      case hq13 =>
        intro w hSw
        obtain ⟨s0, s1, s2, s3, s4, s5⟩ := hSw
        go_simp
        all_goals with_reducible rfl
      try simp only [Act.put, List.setIfInBounds_toArray, List.set_cons_zero, List.set_cons_succ]
      refine wpAnyH_take (i := 14) (oi := ({ dst := some 86, op := Op.slice 24 (Operand.tmp 83) (some (Operand.tmp 85)) none none, type := 24, pos := "outright.go:34", after := #[{ on := 11, ground := Ground.data }, { on := 13, ground := Ground.data }], guard := none } : Oper)) (v := ?vq14) rfl (by kernel_rfl) (by kernel_rfl) (by kernel_rfl) (fun _ _ _ h => h) (Or.inl ⟨by rfl, ?hq14⟩) hHeld ?rq14
      case hq14 =>
        intro w hSw
        obtain ⟨s0, s1, s2, s3, s4, s5⟩ := hSw
        go_simp
        all_goals with_reducible rfl
      try simp only [Act.put, List.setIfInBounds_toArray, List.set_cons_zero, List.set_cons_succ]
      refine wpAnyH_ready (rs := [4, 17]) (by kernel_rfl) (by simp) ?_
      refine (AllReadyH.cons (o := ({ dst := some 76, op := Op.buildSlice 24 0 #[], type := 24, pos := "outright.go:34", after := #[], guard := none } : Oper)) rfl (fun K hK => ?_) (AllReadyH.cons (o := ({ dst := some 13, op := Op.alloc 26, type := 0, pos := "outright.go:34", after := #[], guard := none } : Oper)) rfl (fun K hK => ?_) AllReadyH.nil))
      · go_simp
        obtain ⟨G0, hG⟩ : ∃ X, Wv0.heap.size = X := ⟨_, rfl⟩
        obtain ⟨Wv1, hWv1⟩ : ∃ W, Wv0.alloc (.cells #[] 57) = W := ⟨_, rfl⟩
        have hst : Below Wv0.heap.size Wv0 Wv1 := by rw [← hWv1]; exact (Below.refl _ _).alloc (Nat.le_refl _) _
        have nw : RowL Wv1 US (some ⟨G0, 0, none⟩) [] 0 := by rw [← hWv1]; exact made_row Wv0 US G0 hG.symm (by rw [← hUS.out]; exact hbc.size)
        (try rw [hG])
        (try rw [hWv1])
        clear hG hWv1
        replace hbc := bTr hbc hst
        clear hst
        have m0 := nw
        clear nw
        refine hK.out _ _ ?kt1014 (fun hHeld2 => ?_)
        case kt1014 => exact HS.out Wv1 hbc
        clear hK K
        try simp only [Act.put, List.setIfInBounds_toArray, List.set_cons_zero, List.set_cons_succ]
        replace hHeld := hHeld2
        clear hHeld2
        refine wpAnyH_ready (rs := [9, 17]) (by kernel_rfl) (by simp) ?_
        refine (AllReadyH.cons (o := ({ dst := some 81, op := Op.call { callee := Callee.builtin Builtin.append, args := #[Operand.tmp 76, Operand.tmp 80], argTypes := #[24, 24] }, type := 24, pos := "outright.go:34", after := #[{ on := 4, ground := Ground.data }, { on := 8, ground := Ground.data }], guard := none } : Oper)) rfl (fun K hK => ?_) (AllReadyH.cons (o := ({ dst := some 13, op := Op.alloc 26, type := 0, pos := "outright.go:34", after := #[], guard := none } : Oper)) rfl (fun K hK => ?_) AllReadyH.nil))
        · refine step_rules (by rfl) _ _ (by rfl) (base := US) (l := []) (l5 := l2.take jj) (by first | rfl | (rw [HLT.out]; rfl)) m0 (by rw [HLT.out]; rfl) (HRLT.out _ hbc) (by simp [HL2.out]; omega) (by have := HLE2.out; simp [HL2.out]; omega) (fun e => by cases e) (by rw [← hUS.out]; exact hbc.size) ?_
          rintro A9 c9 Wv2 hrow hgr hkc hst
          have hlen : ([] ++ l2.take jj).length = jj := by rw [List.nil_append]; exact HLT.out
          rw [hlen]
          clear hlen
          have hst : Below U.heap.size Wv1 Wv2 := by rw [hUS.out]; exact hst
          replace hbc := hbc.trans hst
          clear hst hgr hkc m0
          have m7 := hrow
          clear hrow
          refine hK.out _ _ ?kt1029 (fun hHeld2 => ?_)
          case kt1029 => exact HS.out Wv2 hbc
          clear hK K
          try simp only [Act.put, List.setIfInBounds_toArray, List.set_cons_zero, List.set_cons_succ]
          replace hHeld := hHeld2
          clear hHeld2
          refine wpAnyH_ready (rs := [15, 17]) (by kernel_rfl) (by simp) ?_
          refine (AllReadyH.cons (o := ({ dst := some 87, op := Op.call { callee := Callee.builtin Builtin.append, args := #[Operand.tmp 81, Operand.tmp 86], argTypes := #[24, 24] }, type := 24, pos := "outright.go:34", after := #[{ on := 9, ground := Ground.data }, { on := 14, ground := Ground.data }, { on := 9, ground := Ground.chain }], guard := none } : Oper)) rfl (fun K hK => ?_) (AllReadyH.cons (o := ({ dst := some 13, op := Op.alloc 26, type := 0, pos := "outright.go:34", after := #[], guard := none } : Oper)) rfl (fun K hK => ?_) AllReadyH.nil))
          · refine step_rules (by rfl) _ _ (by rfl) (base := US) (l := l2.take jj) (l5 := l2.drop (jj + 1)) (by first | rfl | (rw [HLT.out]; rfl)) m7 (by rw [HLD.out]; rfl) (HRLD.out _ hbc) (by simp [HL2.out]; omega) (by have := HLE2.out; simp [HL2.out]; omega) (fun e => by cases e) (by rw [← hUS.out]; exact hbc.size) ?_
            rintro A15 c15 Wv3 hrow hgr hkc hst
            have hlen : (l2.take jj ++ l2.drop (jj + 1)).length = n - 1 := by rw [List.length_append, HLT.out, HLD.out]; omega
            rw [hlen]
            clear hlen
            have hst : Below U.heap.size Wv2 Wv3 := by rw [hUS.out]; exact hst
            replace hbc := hbc.trans hst
            clear hst hgr hkc m7
            have m8 := hrow
            clear hrow
            refine hK.out _ _ ?kt10315 (fun hHeld2 => ?_)
            case kt10315 => exact HS.out Wv3 hbc
            clear hK K
            try simp only [Act.put, List.setIfInBounds_toArray, List.set_cons_zero, List.set_cons_succ]
            replace hHeld := hHeld2
            clear hHeld2
            refine wpAnyH_take (i := 16) (oi := ({ dst := some 88, op := Op.build 26 #[(0, Operand.tmp 72), (1, Operand.tmp 75), (2, Operand.tmp 87)], type := 26, pos := "outright.go:34", after := #[{ on := 0, ground := Ground.data }, { on := 3, ground := Ground.data }, { on := 15, ground := Ground.data }], guard := none } : Oper)) (v := ?vt103b16) rfl (by kernel_rfl) (by kernel_rfl) (by kernel_rfl) (fun _ _ _ h => h) (Or.inl ⟨by rfl, ?ht103b16⟩) hHeld ?rt103b16
            case ht103b16 =>
              intro w hSw
              obtain ⟨s0, s1, s2, s3, s4, s5⟩ := hSw
              go_simp
              all_goals with_reducible rfl
            try simp only [Act.put, List.setIfInBounds_toArray, List.set_cons_zero, List.set_cons_succ]
            refine wpAnyH_ready (rs := [17]) (by kernel_rfl) (by simp) ?_
            refine (AllReadyH.cons (o := ({ dst := some 13, op := Op.alloc 26, type := 0, pos := "outright.go:34", after := #[], guard := none } : Oper)) rfl (fun K hK => ?_) AllReadyH.nil)
            go_simp
            obtain ⟨P, hG⟩ : ∃ X, Wv3.heap.size = X := ⟨_, rfl⟩
            obtain ⟨Wv4, hWv4⟩ : ∃ W, Wv3.alloc (.cells #[.int .i64 0, .int .i64 0, .bool false, .slice none 0 0] 26) = W := ⟨_, rfl⟩
            have hst : Below Wv3.heap.size Wv3 Wv4 := by rw [← hWv4]; exact (Below.refl _ _).alloc (Nat.le_refl _) _
            have nw : RowC Wv4 P #[.int .i64 0, .int .i64 0, .bool false, .slice none 0 0] 26 := by rw [← hWv4, ← hG]; exact RowC.new _ _ _ _ rfl
            have hPU : US ≤ P := by rw [← hG, ← hUS.out]; exact hbc.size
            (try rw [hG])
            (try rw [hWv4])
            clear hG hWv4
            replace hbc := bTr hbc hst
            replace m8 := m8.below hst (Nat.le_refl _)
            clear hst
            have mp := nw
            clear nw
            refine hK.out _ _ ?kt10417 (fun hHeld2 => ?_)
            case kt10417 => exact HS.out Wv4 hbc
            clear hK K
            try simp only [Act.put, List.setIfInBounds_toArray, List.set_cons_zero, List.set_cons_succ]
            replace hHeld := hHeld2
            clear hHeld2
            refine wpAnyH_ready (rs := [18]) (by kernel_rfl) (by simp) ?_
            refine (AllReadyH.cons (o := ({ dst := none, op := Op.store 26 (Operand.tmp 13) (Operand.tmp 88), type := 0, pos := "outright.go:34", after := #[{ on := 17, ground := Ground.data }, { on := 16, ground := Ground.data }, { on := 15, ground := Ground.chain }, { on := 0, ground := Ground.phase }, { on := 1, ground := Ground.phase }, { on := 2, ground := Ground.phase }, { on := 3, ground := Ground.phase }, { on := 4, ground := Ground.phase }, { on := 5, ground := Ground.phase }, { on := 6, ground := Ground.phase }, { on := 7, ground := Ground.phase }, { on := 8, ground := Ground.phase }, { on := 9, ground := Ground.phase }, { on := 10, ground := Ground.phase }, { on := 11, ground := Ground.phase }, { on := 12, ground := Ground.phase }, { on := 13, ground := Ground.phase }, { on := 14, ground := Ground.phase }, { on := 15, ground := Ground.phase }, { on := 16, ground := Ground.phase }, { on := 17, ground := Ground.phase }], guard := none } : Oper)) rfl (fun K hK => ?_) AllReadyH.nil)
            have n0 := mp.cell 0 _ rfl
            have g0 := mp.frozen 0
            have n1 := mp.cell 1 _ rfl
            have g1 := mp.frozen 1
            have n2 := mp.cell 2 _ rfl
            have g2 := mp.frozen 2
            have n3 := mp.cell 3 _ rfl
            have g3 := mp.frozen 3
            go_simp
            obtain ⟨Wv5, hWv5⟩ : ∃ W, ((((Wv4.setCell ⟨P, 0, none⟩ (.int .i64 ka)).setCell ⟨P, 1, none⟩ (.int .i64 ua)).setCell ⟨P, 2, none⟩ (.bool (!x))).setCell ⟨P, 3, none⟩ (.slice A15 (n - 1) c15)) = W := ⟨_, rfl⟩
            (try rw [hWv5])
            have t0 := mp
            have t1 := t0.set 0 (.int .i64 ka)
            have t2 := t1.set 1 (.int .i64 ua)
            have t3 := t2.set 2 (.bool (!x))
            have t4 := t3.set 3 (.slice A15 (n - 1) c15)
            have r4 := (((m8.setLow t0.ty (by decide) (by decide) 0 (.int .i64 ka)).setLow t1.ty (by decide) (by decide) 1 (.int .i64 ua)).setLow t2.ty (by decide) (by decide) 2 (.bool (!x))).setLow t3.ty (by decide) (by decide) 3 (.slice A15 (n - 1) c15)
            have hbn := ((((hbc.setCell (p := ⟨P, 0, none⟩) (show U.heap.size ≤ P by rw [hUS.out]; exact hPU) (.int .i64 ka)).setCell (p := ⟨P, 1, none⟩) (show U.heap.size ≤ P by rw [hUS.out]; exact hPU) (.int .i64 ua)).setCell (p := ⟨P, 2, none⟩) (show U.heap.size ≤ P by rw [hUS.out]; exact hPU) (.bool (!x))).setCell (p := ⟨P, 3, none⟩) (show U.heap.size ≤ P by rw [hUS.out]; exact hPU) (.slice A15 (n - 1) c15))
            rw [hWv5] at t4 r4 hbn
            clear hWv5 hbc n0 n1 n2 n3 g0 g1 g2 g3 mp m8 t0 t1 t2 t3
            have mp := t4
            have m8 := r4
            have hbc := hbn
            clear t4 r4 hbn
            refine hK.out _ _ ?ks10518 (fun hHeld2 => ?_)
            case ks10518 => exact HS.out Wv5 hbc
            clear hK K
            try simp only [Act.put, List.setIfInBounds_toArray, List.set_cons_zero, List.set_cons_succ]
            replace hHeld := hHeld2
            clear hHeld2
            refine wpAnyH_done (by kernel_rfl) ?_ _
            go_wp2_with fail
            go_meet
            exact ⟨P, _, _, rfl, Lib.hid ⟨mp, m8, hPU, hbc⟩⟩
          · go_simp
            obtain ⟨P, hG⟩ : ∃ X, Wv2.heap.size = X := ⟨_, rfl⟩
            obtain ⟨Wv3, hWv3⟩ : ∃ W, Wv2.alloc (.cells #[.int .i64 0, .int .i64 0, .bool false, .slice none 0 0] 26) = W := ⟨_, rfl⟩
            have hst : Below Wv2.heap.size Wv2 Wv3 := by rw [← hWv3]; exact (Below.refl _ _).alloc (Nat.le_refl _) _
            have nw : RowC Wv3 P #[.int .i64 0, .int .i64 0, .bool false, .slice none 0 0] 26 := by rw [← hWv3, ← hG]; exact RowC.new _ _ _ _ rfl
            have hPU : US ≤ P := by rw [← hG, ← hUS.out]; exact hbc.size
            (try rw [hG])
            (try rw [hWv3])
            clear hG hWv3
            replace hbc := bTr hbc hst
            replace m7 := m7.below hst (Nat.le_refl _)
            clear hst
            have mp := nw
            clear nw
            refine hK.out _ _ ?kt10617 (fun hHeld2 => ?_)
            case kt10617 => exact HS.out Wv3 hbc
            clear hK K
            try simp only [Act.put, List.setIfInBounds_toArray, List.set_cons_zero, List.set_cons_succ]
            replace hHeld := hHeld2
            clear hHeld2
            refine wpAnyH_ready (rs := [15]) (by kernel_rfl) (by simp) ?_
            refine (AllReadyH.cons (o := ({ dst := some 87, op := Op.call { callee := Callee.builtin Builtin.append, args := #[Operand.tmp 81, Operand.tmp 86], argTypes := #[24, 24] }, type := 24, pos := "outright.go:34", after := #[{ on := 9, ground := Ground.data }, { on := 14, ground := Ground.data }, { on := 9, ground := Ground.chain }], guard := none } : Oper)) rfl (fun K hK => ?_) AllReadyH.nil)
            refine step_rules (by rfl) _ _ (by rfl) (base := US) (l := l2.take jj) (l5 := l2.drop (jj + 1)) (by first | rfl | (rw [HLT.out]; rfl)) m7 (by rw [HLD.out]; rfl) (HRLD.out _ hbc) (by simp [HL2.out]; omega) (by have := HLE2.out; simp [HL2.out]; omega) (fun e => by cases e) (by rw [← hUS.out]; exact hbc.size) ?_
            rintro A15 c15 Wv4 hrow hgr hkc hst
            have hlen : (l2.take jj ++ l2.drop (jj + 1)).length = n - 1 := by rw [List.length_append, HLT.out, HLD.out]; omega
            rw [hlen]
            clear hlen
            have hst : Below U.heap.size Wv3 Wv4 := by rw [hUS.out]; exact hst
            replace mp := rowc_grown hgr mp (own_ne m7 mp)
            replace hbc := hbc.trans hst
            clear hst hgr hkc m7
            have m8 := hrow
            clear hrow
            refine hK.out _ _ ?kt10715 (fun hHeld2 => ?_)
            case kt10715 => exact HS.out Wv4 hbc
            clear hK K
            try simp only [Act.put, List.setIfInBounds_toArray, List.set_cons_zero, List.set_cons_succ]
            replace hHeld := hHeld2
            clear hHeld2
            refine wpAnyH_take (i := 16) (oi := ({ dst := some 88, op := Op.build 26 #[(0, Operand.tmp 72), (1, Operand.tmp 75), (2, Operand.tmp 87)], type := 26, pos := "outright.go:34", after := #[{ on := 0, ground := Ground.data }, { on := 3, ground := Ground.data }, { on := 15, ground := Ground.data }], guard := none } : Oper)) (v := ?vt107b16) rfl (by kernel_rfl) (by kernel_rfl) (by kernel_rfl) (fun _ _ _ h => h) (Or.inl ⟨by rfl, ?ht107b16⟩) hHeld ?rt107b16
            case ht107b16 =>
              intro w hSw
              obtain ⟨s0, s1, s2, s3, s4, s5⟩ := hSw
              go_simp
              all_goals with_reducible rfl
            try simp only [Act.put, List.setIfInBounds_toArray, List.set_cons_zero, List.set_cons_succ]
            refine wpAnyH_ready (rs := [18]) (by kernel_rfl) (by simp) ?_
            refine (AllReadyH.cons (o := ({ dst := none, op := Op.store 26 (Operand.tmp 13) (Operand.tmp 88), type := 0, pos := "outright.go:34", after := #[{ on := 17, ground := Ground.data }, { on := 16, ground := Ground.data }, { on := 15, ground := Ground.chain }, { on := 0, ground := Ground.phase }, { on := 1, ground := Ground.phase }, { on := 2, ground := Ground.phase }, { on := 3, ground := Ground.phase }, { on := 4, ground := Ground.phase }, { on := 5, ground := Ground.phase }, { on := 6, ground := Ground.phase }, { on := 7, ground := Ground.phase }, { on := 8, ground := Ground.phase }, { on := 9, ground := Ground.phase }, { on := 10, ground := Ground.phase }, { on := 11, ground := Ground.phase }, { on := 12, ground := Ground.phase }, { on := 13, ground := Ground.phase }, { on := 14, ground := Ground.phase }, { on := 15, ground := Ground.phase }, { on := 16, ground := Ground.phase }, { on := 17, ground := Ground.phase }], guard := none } : Oper)) rfl (fun K hK => ?_) AllReadyH.nil)
            have n0 := mp.cell 0 _ rfl
            have g0 := mp.frozen 0
            have n1 := mp.cell 1 _ rfl
            have g1 := mp.frozen 1
            have n2 := mp.cell 2 _ rfl
            have g2 := mp.frozen 2
            have n3 := mp.cell 3 _ rfl
            have g3 := mp.frozen 3
            go_simp
            obtain ⟨Wv5, hWv5⟩ : ∃ W, ((((Wv4.setCell ⟨P, 0, none⟩ (.int .i64 ka)).setCell ⟨P, 1, none⟩ (.int .i64 ua)).setCell ⟨P, 2, none⟩ (.bool (!x))).setCell ⟨P, 3, none⟩ (.slice A15 (n - 1) c15)) = W := ⟨_, rfl⟩
            (try rw [hWv5])
            have t0 := mp
            have t1 := t0.set 0 (.int .i64 ka)
            have t2 := t1.set 1 (.int .i64 ua)
            have t3 := t2.set 2 (.bool (!x))
            have t4 := t3.set 3 (.slice A15 (n - 1) c15)
            have r4 := (((m8.setLow t0.ty (by decide) (by decide) 0 (.int .i64 ka)).setLow t1.ty (by decide) (by decide) 1 (.int .i64 ua)).setLow t2.ty (by decide) (by decide) 2 (.bool (!x))).setLow t3.ty (by decide) (by decide) 3 (.slice A15 (n - 1) c15)
            have hbn := ((((hbc.setCell (p := ⟨P, 0, none⟩) (show U.heap.size ≤ P by rw [hUS.out]; exact hPU) (.int .i64 ka)).setCell (p := ⟨P, 1, none⟩) (show U.heap.size ≤ P by rw [hUS.out]; exact hPU) (.int .i64 ua)).setCell (p := ⟨P, 2, none⟩) (show U.heap.size ≤ P by rw [hUS.out]; exact hPU) (.bool (!x))).setCell (p := ⟨P, 3, none⟩) (show U.heap.size ≤ P by rw [hUS.out]; exact hPU) (.slice A15 (n - 1) c15))
            rw [hWv5] at t4 r4 hbn
            clear hWv5 hbc n0 n1 n2 n3 g0 g1 g2 g3 mp m8 t0 t1 t2 t3
            have mp := t4
            have m8 := r4
            have hbc := hbn
            clear t4 r4 hbn
            refine hK.out _ _ ?ks10818 (fun hHeld2 => ?_)
            case ks10818 => exact HS.out Wv5 hbc
            clear hK K
            try simp only [Act.put, List.setIfInBounds_toArray, List.set_cons_zero, List.set_cons_succ]
            replace hHeld := hHeld2
            clear hHeld2
            refine wpAnyH_done (by kernel_rfl) ?_ _
            go_wp2_with fail
            go_meet
            exact ⟨P, _, _, rfl, Lib.hid ⟨mp, m8, hPU, hbc⟩⟩
        · go_simp
          obtain ⟨P, hG⟩ : ∃ X, Wv1.heap.size = X := ⟨_, rfl⟩
          obtain ⟨Wv2, hWv2⟩ : ∃ W, Wv1.alloc (.cells #[.int .i64 0, .int .i64 0, .bool false, .slice none 0 0] 26) = W := ⟨_, rfl⟩
          have hst : Below Wv1.heap.size Wv1 Wv2 := by rw [← hWv2]; exact (Below.refl _ _).alloc (Nat.le_refl _) _
          have nw : RowC Wv2 P #[.int .i64 0, .int .i64 0, .bool false, .slice none 0 0] 26 := by rw [← hWv2, ← hG]; exact RowC.new _ _ _ _ rfl
          have hPU : US ≤ P := by rw [← hG, ← hUS.out]; exact hbc.size
          (try rw [hG])
          (try rw [hWv2])
          clear hG hWv2
          replace hbc := bTr hbc hst
          replace m0 := m0.below hst (Nat.le_refl _)
          clear hst
          have mp := nw
          clear nw
          refine hK.out _ _ ?kt10917 (fun hHeld2 => ?_)
          case kt10917 => exact HS.out Wv2 hbc
          clear hK K
          try simp only [Act.put, List.setIfInBounds_toArray, List.set_cons_zero, List.set_cons_succ]
          replace hHeld := hHeld2
          clear hHeld2
          refine wpAnyH_ready (rs := [9]) (by kernel_rfl) (by simp) ?_
          refine (AllReadyH.cons (o := ({ dst := some 81, op := Op.call { callee := Callee.builtin Builtin.append, args := #[Operand.tmp 76, Operand.tmp 80], argTypes := #[24, 24] }, type := 24, pos := "outright.go:34", after := #[{ on := 4, ground := Ground.data }, { on := 8, ground := Ground.data }], guard := none } : Oper)) rfl (fun K hK => ?_) AllReadyH.nil)
          refine step_rules (by rfl) _ _ (by rfl) (base := US) (l := []) (l5 := l2.take jj) (by first | rfl | (rw [HLT.out]; rfl)) m0 (by rw [HLT.out]; rfl) (HRLT.out _ hbc) (by simp [HL2.out]; omega) (by have := HLE2.out; simp [HL2.out]; omega) (fun e => by cases e) (by rw [← hUS.out]; exact hbc.size) ?_
          rintro A9 c9 Wv3 hrow hgr hkc hst
          have hlen : ([] ++ l2.take jj).length = jj := by rw [List.nil_append]; exact HLT.out
          rw [hlen]
          clear hlen
          have hst : Below U.heap.size Wv2 Wv3 := by rw [hUS.out]; exact hst
          replace mp := rowc_grown hgr mp (own_ne m0 mp)
          replace hbc := hbc.trans hst
          clear hst hgr hkc m0
          have m7 := hrow
          clear hrow
          refine hK.out _ _ ?kt1109 (fun hHeld2 => ?_)
          case kt1109 => exact HS.out Wv3 hbc
          clear hK K
          try simp only [Act.put, List.setIfInBounds_toArray, List.set_cons_zero, List.set_cons_succ]
          replace hHeld := hHeld2
          clear hHeld2
          refine wpAnyH_ready (rs := [15]) (by kernel_rfl) (by simp) ?_
          refine (AllReadyH.cons (o := ({ dst := some 87, op := Op.call { callee := Callee.builtin Builtin.append, args := #[Operand.tmp 81, Operand.tmp 86], argTypes := #[24, 24] }, type := 24, pos := "outright.go:34", after := #[{ on := 9, ground := Ground.data }, { on := 14, ground := Ground.data }, { on := 9, ground := Ground.chain }], guard := none } : Oper)) rfl (fun K hK => ?_) AllReadyH.nil)
          refine step_rules (by rfl) _ _ (by rfl) (base := US) (l := l2.take jj) (l5 := l2.drop (jj + 1)) (by first | rfl | (rw [HLT.out]; rfl)) m7 (by rw [HLD.out]; rfl) (HRLD.out _ hbc) (by simp [HL2.out]; omega) (by have := HLE2.out; simp [HL2.out]; omega) (fun e => by cases e) (by rw [← hUS.out]; exact hbc.size) ?_
          rintro A15 c15 Wv4 hrow hgr hkc hst
          have hlen : (l2.take jj ++ l2.drop (jj + 1)).length = n - 1 := by rw [List.length_append, HLT.out, HLD.out]; omega
          rw [hlen]
          clear hlen
          have hst : Below U.heap.size Wv3 Wv4 := by rw [hUS.out]; exact hst
          replace mp := rowc_grown hgr mp (own_ne m7 mp)
          replace hbc := hbc.trans hst
          clear hst hgr hkc m7
          have m8 := hrow
          clear hrow
          refine hK.out _ _ ?kt11115 (fun hHeld2 => ?_)
          case kt11115 => exact HS.out Wv4 hbc
          clear hK K
          try simp only [Act.put, List.setIfInBounds_toArray, List.set_cons_zero, List.set_cons_succ]
          replace hHeld := hHeld2
          clear hHeld2
          refine wpAnyH_take (i := 16) (oi := ({ dst := some 88, op := Op.build 26 #[(0, Operand.tmp 72), (1, Operand.tmp 75), (2, Operand.tmp 87)], type := 26, pos := "outright.go:34", after := #[{ on := 0, ground := Ground.data }, { on := 3, ground := Ground.data }, { on := 15, ground := Ground.data }], guard := none } : Oper)) (v := ?vt111b16) rfl (by kernel_rfl) (by kernel_rfl) (by kernel_rfl) (fun _ _ _ h => h) (Or.inl ⟨by rfl, ?ht111b16⟩) hHeld ?rt111b16
          case ht111b16 =>
            intro w hSw
            obtain ⟨s0, s1, s2, s3, s4, s5⟩ := hSw
            go_simp
            all_goals with_reducible rfl
          try simp only [Act.put, List.setIfInBounds_toArray, List.set_cons_zero, List.set_cons_succ]
          refine wpAnyH_ready (rs := [18]) (by kernel_rfl) (by simp) ?_
          refine (AllReadyH.cons (o := ({ dst := none, op := Op.store 26 (Operand.tmp 13) (Operand.tmp 88), type := 0, pos := "outright.go:34", after := #[{ on := 17, ground := Ground.data }, { on := 16, ground := Ground.data }, { on := 15, ground := Ground.chain }, { on := 0, ground := Ground.phase }, { on := 1, ground := Ground.phase }, { on := 2, ground := Ground.phase }, { on := 3, ground := Ground.phase }, { on := 4, ground := Ground.phase }, { on := 5, ground := Ground.phase }, { on := 6, ground := Ground.phase }, { on := 7, ground := Ground.phase }, { on := 8, ground := Ground.phase }, { on := 9, ground := Ground.phase }, { on := 10, ground := Ground.phase }, { on := 11, ground := Ground.phase }, { on := 12, ground := Ground.phase }, { on := 13, ground := Ground.phase }, { on := 14, ground := Ground.phase }, { on := 15, ground := Ground.phase }, { on := 16, ground := Ground.phase }, { on := 17, ground := Ground.phase }], guard := none } : Oper)) rfl (fun K hK => ?_) AllReadyH.nil)
          have n0 := mp.cell 0 _ rfl
          have g0 := mp.frozen 0
          have n1 := mp.cell 1 _ rfl
          have g1 := mp.frozen 1
          have n2 := mp.cell 2 _ rfl
          have g2 := mp.frozen 2
          have n3 := mp.cell 3 _ rfl
          have g3 := mp.frozen 3
          go_simp
          obtain ⟨Wv5, hWv5⟩ : ∃ W, ((((Wv4.setCell ⟨P, 0, none⟩ (.int .i64 ka)).setCell ⟨P, 1, none⟩ (.int .i64 ua)).setCell ⟨P, 2, none⟩ (.bool (!x))).setCell ⟨P, 3, none⟩ (.slice A15 (n - 1) c15)) = W := ⟨_, rfl⟩
          (try rw [hWv5])
          have t0 := mp
          have t1 := t0.set 0 (.int .i64 ka)
          have t2 := t1.set 1 (.int .i64 ua)
          have t3 := t2.set 2 (.bool (!x))
          have t4 := t3.set 3 (.slice A15 (n - 1) c15)
          have r4 := (((m8.setLow t0.ty (by decide) (by decide) 0 (.int .i64 ka)).setLow t1.ty (by decide) (by decide) 1 (.int .i64 ua)).setLow t2.ty (by decide) (by decide) 2 (.bool (!x))).setLow t3.ty (by decide) (by decide) 3 (.slice A15 (n - 1) c15)
          have hbn := ((((hbc.setCell (p := ⟨P, 0, none⟩) (show U.heap.size ≤ P by rw [hUS.out]; exact hPU) (.int .i64 ka)).setCell (p := ⟨P, 1, none⟩) (show U.heap.size ≤ P by rw [hUS.out]; exact hPU) (.int .i64 ua)).setCell (p := ⟨P, 2, none⟩) (show U.heap.size ≤ P by rw [hUS.out]; exact hPU) (.bool (!x))).setCell (p := ⟨P, 3, none⟩) (show U.heap.size ≤ P by rw [hUS.out]; exact hPU) (.slice A15 (n - 1) c15))
          rw [hWv5] at t4 r4 hbn
          clear hWv5 hbc n0 n1 n2 n3 g0 g1 g2 g3 mp m8 t0 t1 t2 t3
          have mp := t4
          have m8 := r4
          have hbc := hbn
          clear t4 r4 hbn
          refine hK.out _ _ ?ks11218 (fun hHeld2 => ?_)
          case ks11218 => exact HS.out Wv5 hbc
          clear hK K
          try simp only [Act.put, List.setIfInBounds_toArray, List.set_cons_zero, List.set_cons_succ]
          replace hHeld := hHeld2
          clear hHeld2
          refine wpAnyH_done (by kernel_rfl) ?_ _
          go_wp2_with fail
          go_meet
          exact ⟨P, _, _, rfl, Lib.hid ⟨mp, m8, hPU, hbc⟩⟩
      · go_simp
        obtain ⟨P, hG⟩ : ∃ X, Wv0.heap.size = X := ⟨_, rfl⟩
        obtain ⟨Wv1, hWv1⟩ : ∃ W, Wv0.alloc (.cells #[.int .i64 0, .int .i64 0, .bool false, .slice none 0 0] 26) = W := ⟨_, rfl⟩
        have hst : Below Wv0.heap.size Wv0 Wv1 := by rw [← hWv1]; exact (Below.refl _ _).alloc (Nat.le_refl _) _
        have nw : RowC Wv1 P #[.int .i64 0, .int .i64 0, .bool false, .slice none 0 0] 26 := by rw [← hWv1, ← hG]; exact RowC.new _ _ _ _ rfl
        have hPU : US ≤ P := by rw [← hG, ← hUS.out]; exact hbc.size
        (try rw [hG])
        (try rw [hWv1])
        clear hG hWv1
        replace hbc := bTr hbc hst
        clear hst
        have mp := nw
        clear nw
        refine hK.out _ _ ?kt11317 (fun hHeld2 => ?_)
        case kt11317 => exact HS.out Wv1 hbc
        clear hK K
        try simp only [Act.put, List.setIfInBounds_toArray, List.set_cons_zero, List.set_cons_succ]
        replace hHeld := hHeld2
        clear hHeld2
        refine wpAnyH_ready (rs := [4]) (by kernel_rfl) (by simp) ?_
        refine (AllReadyH.cons (o := ({ dst := some 76, op := Op.buildSlice 24 0 #[], type := 24, pos := "outright.go:34", after := #[], guard := none } : Oper)) rfl (fun K hK => ?_) AllReadyH.nil)
        go_simp
        obtain ⟨G0, hG⟩ : ∃ X, Wv1.heap.size = X := ⟨_, rfl⟩
        obtain ⟨Wv2, hWv2⟩ : ∃ W, Wv1.alloc (.cells #[] 57) = W := ⟨_, rfl⟩
        have hst : Below Wv1.heap.size Wv1 Wv2 := by rw [← hWv2]; exact (Below.refl _ _).alloc (Nat.le_refl _) _
        have nw : RowL Wv2 US (some ⟨G0, 0, none⟩) [] 0 := by rw [← hWv2]; exact made_row Wv1 US G0 hG.symm (by rw [← hUS.out]; exact hbc.size)
        (try rw [hG])
        (try rw [hWv2])
        clear hG hWv2
        replace hbc := bTr hbc hst
        replace mp := mp.below hst mp.lt
        clear hst
        have m0 := nw
        clear nw
        refine hK.out _ _ ?kt1144 (fun hHeld2 => ?_)
        case kt1144 => exact HS.out Wv2 hbc
        clear hK K
        try simp only [Act.put, List.setIfInBounds_toArray, List.set_cons_zero, List.set_cons_succ]
        replace hHeld := hHeld2
        clear hHeld2
        refine wpAnyH_ready (rs := [9]) (by kernel_rfl) (by simp) ?_
        refine (AllReadyH.cons (o := ({ dst := some 81, op := Op.call { callee := Callee.builtin Builtin.append, args := #[Operand.tmp 76, Operand.tmp 80], argTypes := #[24, 24] }, type := 24, pos := "outright.go:34", after := #[{ on := 4, ground := Ground.data }, { on := 8, ground := Ground.data }], guard := none } : Oper)) rfl (fun K hK => ?_) AllReadyH.nil)
        refine step_rules (by rfl) _ _ (by rfl) (base := US) (l := []) (l5 := l2.take jj) (by first | rfl | (rw [HLT.out]; rfl)) m0 (by rw [HLT.out]; rfl) (HRLT.out _ hbc) (by simp [HL2.out]; omega) (by have := HLE2.out; simp [HL2.out]; omega) (fun e => by cases e) (by rw [← hUS.out]; exact hbc.size) ?_
        rintro A9 c9 Wv3 hrow hgr hkc hst
        have hlen : ([] ++ l2.take jj).length = jj := by rw [List.nil_append]; exact HLT.out
        rw [hlen]
        clear hlen
        have hst : Below U.heap.size Wv2 Wv3 := by rw [hUS.out]; exact hst
        replace mp := rowc_grown hgr mp (own_ne m0 mp)
        replace hbc := hbc.trans hst
        clear hst hgr hkc m0
        have m7 := hrow
        clear hrow
        refine hK.out _ _ ?kt1159 (fun hHeld2 => ?_)
        case kt1159 => exact HS.out Wv3 hbc
        clear hK K
        try simp only [Act.put, List.setIfInBounds_toArray, List.set_cons_zero, List.set_cons_succ]
        replace hHeld := hHeld2
        clear hHeld2
        refine wpAnyH_ready (rs := [15]) (by kernel_rfl) (by simp) ?_
        refine (AllReadyH.cons (o := ({ dst := some 87, op := Op.call { callee := Callee.builtin Builtin.append, args := #[Operand.tmp 81, Operand.tmp 86], argTypes := #[24, 24] }, type := 24, pos := "outright.go:34", after := #[{ on := 9, ground := Ground.data }, { on := 14, ground := Ground.data }, { on := 9, ground := Ground.chain }], guard := none } : Oper)) rfl (fun K hK => ?_) AllReadyH.nil)
        refine step_rules (by rfl) _ _ (by rfl) (base := US) (l := l2.take jj) (l5 := l2.drop (jj + 1)) (by first | rfl | (rw [HLT.out]; rfl)) m7 (by rw [HLD.out]; rfl) (HRLD.out _ hbc) (by simp [HL2.out]; omega) (by have := HLE2.out; simp [HL2.out]; omega) (fun e => by cases e) (by rw [← hUS.out]; exact hbc.size) ?_
        rintro A15 c15 Wv4 hrow hgr hkc hst
        have hlen : (l2.take jj ++ l2.drop (jj + 1)).length = n - 1 := by rw [List.length_append, HLT.out, HLD.out]; omega
        rw [hlen]
        clear hlen
        have hst : Below U.heap.size Wv3 Wv4 := by rw [hUS.out]; exact hst
        replace mp := rowc_grown hgr mp (own_ne m7 mp)
        replace hbc := hbc.trans hst
        clear hst hgr hkc m7
        have m8 := hrow
        clear hrow
        refine hK.out _ _ ?kt11615 (fun hHeld2 => ?_)
        case kt11615 => exact HS.out Wv4 hbc
        clear hK K
        try simp only [Act.put, List.setIfInBounds_toArray, List.set_cons_zero, List.set_cons_succ]
        replace hHeld := hHeld2
        clear hHeld2
        refine wpAnyH_take (i := 16) (oi := ({ dst := some 88, op := Op.build 26 #[(0, Operand.tmp 72), (1, Operand.tmp 75), (2, Operand.tmp 87)], type := 26, pos := "outright.go:34", after := #[{ on := 0, ground := Ground.data }, { on := 3, ground := Ground.data }, { on := 15, ground := Ground.data }], guard := none } : Oper)) (v := ?vt116b16) rfl (by kernel_rfl) (by kernel_rfl) (by kernel_rfl) (fun _ _ _ h => h) (Or.inl ⟨by rfl, ?ht116b16⟩) hHeld ?rt116b16
        case ht116b16 =>
          intro w hSw
          obtain ⟨s0, s1, s2, s3, s4, s5⟩ := hSw
          go_simp
          all_goals with_reducible rfl
        try simp only [Act.put, List.setIfInBounds_toArray, List.set_cons_zero, List.set_cons_succ]
        refine wpAnyH_ready (rs := [18]) (by kernel_rfl) (by simp) ?_
        refine (AllReadyH.cons (o := ({ dst := none, op := Op.store 26 (Operand.tmp 13) (Operand.tmp 88), type := 0, pos := "outright.go:34", after := #[{ on := 17, ground := Ground.data }, { on := 16, ground := Ground.data }, { on := 15, ground := Ground.chain }, { on := 0, ground := Ground.phase }, { on := 1, ground := Ground.phase }, { on := 2, ground := Ground.phase }, { on := 3, ground := Ground.phase }, { on := 4, ground := Ground.phase }, { on := 5, ground := Ground.phase }, { on := 6, ground := Ground.phase }, { on := 7, ground := Ground.phase }, { on := 8, ground := Ground.phase }, { on := 9, ground := Ground.phase }, { on := 10, ground := Ground.phase }, { on := 11, ground := Ground.phase }, { on := 12, ground := Ground.phase }, { on := 13, ground := Ground.phase }, { on := 14, ground := Ground.phase }, { on := 15, ground := Ground.phase }, { on := 16, ground := Ground.phase }, { on := 17, ground := Ground.phase }], guard := none } : Oper)) rfl (fun K hK => ?_) AllReadyH.nil)
        have n0 := mp.cell 0 _ rfl
        have g0 := mp.frozen 0
        have n1 := mp.cell 1 _ rfl
        have g1 := mp.frozen 1
        have n2 := mp.cell 2 _ rfl
        have g2 := mp.frozen 2
        have n3 := mp.cell 3 _ rfl
        have g3 := mp.frozen 3
        go_simp
        obtain ⟨Wv5, hWv5⟩ : ∃ W, ((((Wv4.setCell ⟨P, 0, none⟩ (.int .i64 ka)).setCell ⟨P, 1, none⟩ (.int .i64 ua)).setCell ⟨P, 2, none⟩ (.bool (!x))).setCell ⟨P, 3, none⟩ (.slice A15 (n - 1) c15)) = W := ⟨_, rfl⟩
        (try rw [hWv5])
        have t0 := mp
        have t1 := t0.set 0 (.int .i64 ka)
        have t2 := t1.set 1 (.int .i64 ua)
        have t3 := t2.set 2 (.bool (!x))
        have t4 := t3.set 3 (.slice A15 (n - 1) c15)
        have r4 := (((m8.setLow t0.ty (by decide) (by decide) 0 (.int .i64 ka)).setLow t1.ty (by decide) (by decide) 1 (.int .i64 ua)).setLow t2.ty (by decide) (by decide) 2 (.bool (!x))).setLow t3.ty (by decide) (by decide) 3 (.slice A15 (n - 1) c15)
        have hbn := ((((hbc.setCell (p := ⟨P, 0, none⟩) (show U.heap.size ≤ P by rw [hUS.out]; exact hPU) (.int .i64 ka)).setCell (p := ⟨P, 1, none⟩) (show U.heap.size ≤ P by rw [hUS.out]; exact hPU) (.int .i64 ua)).setCell (p := ⟨P, 2, none⟩) (show U.heap.size ≤ P by rw [hUS.out]; exact hPU) (.bool (!x))).setCell (p := ⟨P, 3, none⟩) (show U.heap.size ≤ P by rw [hUS.out]; exact hPU) (.slice A15 (n - 1) c15))
        rw [hWv5] at t4 r4 hbn
        clear hWv5 hbc n0 n1 n2 n3 g0 g1 g2 g3 mp m8 t0 t1 t2 t3
        have mp := t4
        have m8 := r4
        have hbc := hbn
        clear t4 r4 hbn
        refine hK.out _ _ ?ks11718 (fun hHeld2 => ?_)
        case ks11718 => exact HS.out Wv5 hbc
        clear hK K
        try simp only [Act.put, List.setIfInBounds_toArray, List.set_cons_zero, List.set_cons_succ]
        replace hHeld := hHeld2
        clear hHeld2
        refine wpAnyH_done (by kernel_rfl) ?_ _
        go_wp2_with fail
        go_meet
        exact ⟨P, _, _, rfl, Lib.hid ⟨mp, m8, hPU, hbc⟩⟩
    · refine wp_region_held_drew (S := fun w' => w'.cell? ⟨bx, 0, none⟩ = some (.int .i64 k) ∧ w'.cell? ⟨bx, 1, none⟩ = some (.int .i64 u) ∧ w'.cell? ⟨bx, 2, none⟩ = some (.bool x) ∧ w'.cell? ⟨bx, 3, none⟩ = some (.slice (some ⟨b1, 0, none⟩) n c2) ∧ w'.cell? ⟨Z, 0, none⟩ = some (.int .i64 ka) ∧ w'.cell? ⟨Z, 1, none⟩ = some (.int .i64 ua)) (by kernel_rfl) (HS.out _ (Below.refl _ U).drew) (fun hHeld => ?_)
      have hbc : Below U.heap.size U U.drew := (Below.refl _ U).drew
      generalize U.drew = Wv0 at *
      refine wpAnyH_take (i := 0) (oi := ({ dst := some 72, op := Op.load 23 (Operand.tmp 12), type := 23, pos := "outright.go:34", after := #[], guard := none } : Oper)) (v := ?vz0) rfl (by kernel_rfl) (by kernel_rfl) (by kernel_rfl) (fun _ _ _ h => h) (Or.inl ⟨by rfl, ?hz0⟩) hHeld ?rz0
      case hz0 =>
        intro w hSw
        obtain ⟨s0, s1, s2, s3, s4, s5⟩ := hSw
        go_simp
        all_goals with_reducible rfl
      try simp only [Act.put, List.setIfInBounds_toArray, List.set_cons_zero, List.set_cons_succ]
      refine wpAnyH_take (i := 1) (oi := ({ dst := some 73, op := Op.fieldAddr 26 (Operand.tmp 7) 1, type := 0, pos := "outright.go:34", after := #[], guard := none } : Oper)) (v := ?vz1) rfl (by kernel_rfl) (by kernel_rfl) (by kernel_rfl) (fun _ _ _ h => h) (Or.inl ⟨by rfl, ?hz1⟩) hHeld ?rz1
      case hz1 =>
        intro w hSw
        obtain ⟨s0, s1, s2, s3, s4, s5⟩ := hSw
        go_simp
        all_goals with_reducible rfl
      try simp only [Act.put, List.setIfInBounds_toArray, List.set_cons_zero, List.set_cons_succ]
      refine wpAnyH_take (i := 2) (oi := ({ dst := some 74, op := Op.load 4 (Operand.tmp 73), type := 4, pos := "outright.go:34", after := #[{ on := 1, ground := Ground.data }], guard := none } : Oper)) (v := ?vz2) rfl (by kernel_rfl) (by kernel_rfl) (by kernel_rfl) (fun _ _ _ h => h) (Or.inl ⟨by rfl, ?hz2⟩) hHeld ?rz2
      case hz2 =>
        intro w hSw
        obtain ⟨s0, s1, s2, s3, s4, s5⟩ := hSw
        go_simp
        all_goals with_reducible rfl
      try simp only [Act.put, List.setIfInBounds_toArray, List.set_cons_zero, List.set_cons_succ]
      refine wpAnyH_take (i := 3) (oi := ({ dst := some 75, op := Op.unOp UnOp.not 4 (Operand.tmp 74), type := 4, pos := "outright.go:34", after := #[{ on := 2, ground := Ground.data }], guard := none } : Oper)) (v := ?vz3) rfl (by kernel_rfl) (by kernel_rfl) (by kernel_rfl) (fun _ _ _ h => h) (Or.inl ⟨by rfl, ?hz3⟩) hHeld ?rz3
      case hz3 =>
        intro w hSw
        obtain ⟨s0, s1, s2, s3, s4, s5⟩ := hSw
        go_simp
        all_goals with_reducible rfl
      try simp only [Act.put, List.setIfInBounds_toArray, List.set_cons_zero, List.set_cons_succ]
      refine wpAnyH_take (i := 5) (oi := ({ dst := some 77, op := Op.fieldAddr 26 (Operand.tmp 7) 2, type := 0, pos := "outright.go:34", after := #[], guard := none } : Oper)) (v := ?vz5) rfl (by kernel_rfl) (by kernel_rfl) (by kernel_rfl) (fun _ _ _ h => h) (Or.inl ⟨by rfl, ?hz5⟩) hHeld ?rz5
      case hz5 =>
        intro w hSw
        obtain ⟨s0, s1, s2, s3, s4, s5⟩ := hSw
        go_simp
        all_goals with_reducible rfl
      try simp only [Act.put, List.setIfInBounds_toArray, List.set_cons_zero, List.set_cons_succ]
      refine wpAnyH_take (i := 6) (oi := ({ dst := some 78, op := Op.load 24 (Operand.tmp 77), type := 24, pos := "outright.go:34", after := #[{ on := 5, ground := Ground.data }], guard := none } : Oper)) (v := ?vz6) rfl (by kernel_rfl) (by kernel_rfl) (by kernel_rfl) (fun _ _ _ h => h) (Or.inl ⟨by rfl, ?hz6⟩) hHeld ?rz6
      case hz6 =>
        intro w hSw
        obtain ⟨s0, s1, s2, s3, s4, s5⟩ := hSw
        go_simp
        all_goals with_reducible rfl
      try simp only [Act.put, List.setIfInBounds_toArray, List.set_cons_zero, List.set_cons_succ]
      refine wpAnyH_take (i := 7) (oi := ({ dst := some 79, op := Op.move (Operand.tmp 11), type := 3, pos := "outright.go:34", after := #[], guard := none } : Oper)) (v := ?vz7) rfl (by kernel_rfl) (by kernel_rfl) (by kernel_rfl) (fun _ _ _ h => h) (Or.inl ⟨by rfl, ?hz7⟩) hHeld ?rz7
      case hz7 =>
        intro w hSw
        obtain ⟨s0, s1, s2, s3, s4, s5⟩ := hSw
        go_simp
        all_goals with_reducible rfl
      try simp only [Act.put, List.setIfInBounds_toArray, List.set_cons_zero, List.set_cons_succ]
      refine wpAnyH_take (i := 8) (oi := ({ dst := some 80, op := Op.slice 24 (Operand.tmp 78) none (some (Operand.tmp 79)) none, type := 24, pos := "outright.go:34", after := #[{ on := 6, ground := Ground.data }, { on := 7, ground := Ground.data }], guard := none } : Oper)) (v := ?vz8) rfl (by kernel_rfl) (by kernel_rfl) (by kernel_rfl) (fun _ _ _ h => h) (Or.inl ⟨by rfl, ?hz8⟩) hHeld ?rz8
      case hz8 =>
        intro w hSw
        obtain ⟨s0, s1, s2, s3, s4, s5⟩ := hSw
        go_simp
        all_goals with_reducible rfl
      try simp only [Act.put, List.setIfInBounds_toArray, List.set_cons_zero, List.set_cons_succ]
      refine wpAnyH_take (i := 10) (oi := ({ dst := some 82, op := Op.fieldAddr 26 (Operand.tmp 7) 2, type := 0, pos := "outright.go:34", after := #[], guard := none } : Oper)) (v := ?vz10) rfl (by kernel_rfl) (by kernel_rfl) (by kernel_rfl) (fun _ _ _ h => h) (Or.inl ⟨by rfl, ?hz10⟩) hHeld ?rz10
      case hz10 =>
        intro w hSw
        obtain ⟨s0, s1, s2, s3, s4, s5⟩ := hSw
        go_simp
        all_goals with_reducible rfl
      try simp only [Act.put, List.setIfInBounds_toArray, List.set_cons_zero, List.set_cons_succ]
      refine wpAnyH_take (i := 11) (oi := ({ dst := some 83, op := Op.load 24 (Operand.tmp 82), type := 24, pos := "outright.go:34", after := #[{ on := 10, ground := Ground.data }], guard := none } : Oper)) (v := ?vz11) rfl (by kernel_rfl) (by kernel_rfl) (by kernel_rfl) (fun _ _ _ h => h) (Or.inl ⟨by rfl, ?hz11⟩) hHeld ?rz11
      case hz11 =>
        intro w hSw
        obtain ⟨s0, s1, s2, s3, s4, s5⟩ := hSw
        go_simp
        all_goals with_reducible rfl
      try simp only [Act.put, List.setIfInBounds_toArray, List.set_cons_zero, List.set_cons_succ]
      refine wpAnyH_take (i := 12) (oi := ({ dst := some 84, op := Op.move (Operand.tmp 11), type := 3, pos := "outright.go:34", after := #[], guard := none } : Oper)) (v := ?vz12) rfl (by kernel_rfl) (by kernel_rfl) (by kernel_rfl) (fun _ _ _ h => h) (Or.inl ⟨by rfl, ?hz12⟩) hHeld ?rz12
      case hz12 =>
        intro w hSw
        obtain ⟨s0, s1, s2, s3, s4, s5⟩ := hSw
        go_simp
        all_goals with_reducible rfl
      try simp only [Act.put, List.setIfInBounds_toArray, List.set_cons_zero, List.set_cons_succ]
      refine wpAnyH_take (i := 13) (oi := ({ dst := some 85, op := Op.binOp BinOp.add 3 (Operand.tmp 84) (Operand.const (Value.int IntKind.i64 1)) 3, type := 3, pos := "outright.go:34", after := #[{ on := 12, ground := Ground.data }], guard := none } : Oper)) (v := ?vz13) rfl (by kernel_rfl) (by kernel_rfl) (by kernel_rfl) (fun _ _ _ h => h) (Or.inl ⟨by rfl, ?hz13⟩) hHeld ?rz13
      case hz13 =>
        intro w hSw
        obtain ⟨s0, s1, s2, s3, s4, s5⟩ := hSw
        go_simp
        all_goals with_reducible rfl
      try simp only [Act.put, List.setIfInBounds_toArray, List.set_cons_zero, List.set_cons_succ]
      refine wpAnyH_take (i := 14) (oi := ({ dst := some 86, op := Op.slice 24 (Operand.tmp 83) (some (Operand.tmp 85)) none none, type := 24, pos := "outright.go:34", after := #[{ on := 11, ground := Ground.data }, { on := 13, ground := Ground.data }], guard := none } : Oper)) (v := ?vz14) rfl (by kernel_rfl) (by kernel_rfl) (by kernel_rfl) (fun _ _ _ h => h) (Or.inl ⟨by rfl, ?hz14⟩) hHeld ?rz14
      case hz14 =>
        intro w hSw
        obtain ⟨s0, s1, s2, s3, s4, s5⟩ := hSw
        go_simp
        all_goals with_reducible rfl
      try simp only [Act.put, List.setIfInBounds_toArray, List.set_cons_zero, List.set_cons_succ]
      refine wpAnyH_ready (rs := [4, 17]) (by kernel_rfl) (by simp) ?_
      refine (AllReadyH.cons (o := ({ dst := some 76, op := Op.buildSlice 24 0 #[], type := 24, pos := "outright.go:34", after := #[], guard := none } : Oper)) rfl (fun K hK => ?_) (AllReadyH.cons (o := ({ dst := some 13, op := Op.alloc 26, type := 0, pos := "outright.go:34", after := #[], guard := none } : Oper)) rfl (fun K hK => ?_) AllReadyH.nil))
      · go_simp
        obtain ⟨G0, hG⟩ : ∃ X, Wv0.heap.size = X := ⟨_, rfl⟩
        obtain ⟨Wv1, hWv1⟩ : ∃ W, Wv0.alloc (.cells #[] 57) = W := ⟨_, rfl⟩
        have hst : Below Wv0.heap.size Wv0 Wv1 := by rw [← hWv1]; exact (Below.refl _ _).alloc (Nat.le_refl _) _
        have nw : RowL Wv1 US (some ⟨G0, 0, none⟩) [] 0 := by rw [← hWv1]; exact made_row Wv0 US G0 hG.symm (by rw [← hUS.out]; exact hbc.size)
        (try rw [hG])
        (try rw [hWv1])
        clear hG hWv1
        replace hbc := bTr hbc hst
        clear hst
        have m0 := nw
        clear nw
        refine hK.out _ _ ?kt14 (fun hHeld2 => ?_)
        case kt14 => exact HS.out Wv1 hbc
        clear hK K
        try simp only [Act.put, List.setIfInBounds_toArray, List.set_cons_zero, List.set_cons_succ]
        replace hHeld := hHeld2
        clear hHeld2
        refine wpAnyH_ready (rs := [9, 17]) (by kernel_rfl) (by simp) ?_
        refine (AllReadyH.cons (o := ({ dst := some 81, op := Op.call { callee := Callee.builtin Builtin.append, args := #[Operand.tmp 76, Operand.tmp 80], argTypes := #[24, 24] }, type := 24, pos := "outright.go:34", after := #[{ on := 4, ground := Ground.data }, { on := 8, ground := Ground.data }], guard := none } : Oper)) rfl (fun K hK => ?_) (AllReadyH.cons (o := ({ dst := some 13, op := Op.alloc 26, type := 0, pos := "outright.go:34", after := #[], guard := none } : Oper)) rfl (fun K hK => ?_) AllReadyH.nil))
        · refine step_rules (by rfl) _ _ (by rfl) (base := US) (l := []) (l5 := l2.take jj) (by first | rfl | (rw [HLT.out]; rfl)) m0 (by rw [HLT.out]; rfl) (HRLT.out _ hbc) (by simp [HL2.out]; omega) (by have := HLE2.out; simp [HL2.out]; omega) (fun e => by cases e) (by rw [← hUS.out]; exact hbc.size) ?_
          rintro A9 c9 Wv2 hrow hgr hkc hst
          have hlen : ([] ++ l2.take jj).length = jj := by rw [List.nil_append]; exact HLT.out
          rw [hlen]
          clear hlen
          have hst : Below U.heap.size Wv1 Wv2 := by rw [hUS.out]; exact hst
          replace hbc := hbc.trans hst
          clear hst hgr hkc m0
          have m7 := hrow
          clear hrow
          refine hK.out _ _ ?kt29 (fun hHeld2 => ?_)
          case kt29 => exact HS.out Wv2 hbc
          clear hK K
          try simp only [Act.put, List.setIfInBounds_toArray, List.set_cons_zero, List.set_cons_succ]
          replace hHeld := hHeld2
          clear hHeld2
          refine wpAnyH_ready (rs := [15, 17]) (by kernel_rfl) (by simp) ?_
          refine (AllReadyH.cons (o := ({ dst := some 87, op := Op.call { callee := Callee.builtin Builtin.append, args := #[Operand.tmp 81, Operand.tmp 86], argTypes := #[24, 24] }, type := 24, pos := "outright.go:34", after := #[{ on := 9, ground := Ground.data }, { on := 14, ground := Ground.data }, { on := 9, ground := Ground.chain }], guard := none } : Oper)) rfl (fun K hK => ?_) (AllReadyH.cons (o := ({ dst := some 13, op := Op.alloc 26, type := 0, pos := "outright.go:34", after := #[], guard := none } : Oper)) rfl (fun K hK => ?_) AllReadyH.nil))
          · refine step_rules (by rfl) _ _ (by rfl) (base := US) (l := l2.take jj) (l5 := l2.drop (jj + 1)) (by first | rfl | (rw [HLT.out]; rfl)) m7 (by rw [HLD.out]; rfl) (HRLD.out _ hbc) (by simp [HL2.out]; omega) (by have := HLE2.out; simp [HL2.out]; omega) (fun e => by cases e) (by rw [← hUS.out]; exact hbc.size) ?_
            rintro A15 c15 Wv3 hrow hgr hkc hst
            have hlen : (l2.take jj ++ l2.drop (jj + 1)).length = n - 1 := by rw [List.length_append, HLT.out, HLD.out]; omega
            rw [hlen]
            clear hlen
            have hst : Below U.heap.size Wv2 Wv3 := by rw [hUS.out]; exact hst
            replace hbc := hbc.trans hst
            clear hst hgr hkc m7
            have m8 := hrow
            clear hrow
            refine hK.out _ _ ?kt315 (fun hHeld2 => ?_)
            case kt315 => exact HS.out Wv3 hbc
            clear hK K
            try simp only [Act.put, List.setIfInBounds_toArray, List.set_cons_zero, List.set_cons_succ]
            replace hHeld := hHeld2
            clear hHeld2
            refine wpAnyH_take (i := 16) (oi := ({ dst := some 88, op := Op.build 26 #[(0, Operand.tmp 72), (1, Operand.tmp 75), (2, Operand.tmp 87)], type := 26, pos := "outright.go:34", after := #[{ on := 0, ground := Ground.data }, { on := 3, ground := Ground.data }, { on := 15, ground := Ground.data }], guard := none } : Oper)) (v := ?vt3b16) rfl (by kernel_rfl) (by kernel_rfl) (by kernel_rfl) (fun _ _ _ h => h) (Or.inl ⟨by rfl, ?ht3b16⟩) hHeld ?rt3b16
            case ht3b16 =>
              intro w hSw
              obtain ⟨s0, s1, s2, s3, s4, s5⟩ := hSw
              go_simp
              all_goals with_reducible rfl
            try simp only [Act.put, List.setIfInBounds_toArray, List.set_cons_zero, List.set_cons_succ]
            refine wpAnyH_ready (rs := [17]) (by kernel_rfl) (by simp) ?_
            refine (AllReadyH.cons (o := ({ dst := some 13, op := Op.alloc 26, type := 0, pos := "outright.go:34", after := #[], guard := none } : Oper)) rfl (fun K hK => ?_) AllReadyH.nil)
            go_simp
            obtain ⟨P, hG⟩ : ∃ X, Wv3.heap.size = X := ⟨_, rfl⟩
            obtain ⟨Wv4, hWv4⟩ : ∃ W, Wv3.alloc (.cells #[.int .i64 0, .int .i64 0, .bool false, .slice none 0 0] 26) = W := ⟨_, rfl⟩
            have hst : Below Wv3.heap.size Wv3 Wv4 := by rw [← hWv4]; exact (Below.refl _ _).alloc (Nat.le_refl _) _
            have nw : RowC Wv4 P #[.int .i64 0, .int .i64 0, .bool false, .slice none 0 0] 26 := by rw [← hWv4, ← hG]; exact RowC.new _ _ _ _ rfl
            have hPU : US ≤ P := by rw [← hG, ← hUS.out]; exact hbc.size
            (try rw [hG])
            (try rw [hWv4])
            clear hG hWv4
            replace hbc := bTr hbc hst
            replace m8 := m8.below hst (Nat.le_refl _)
            clear hst
            have mp := nw
            clear nw
            refine hK.out _ _ ?kt417 (fun hHeld2 => ?_)
            case kt417 => exact HS.out Wv4 hbc
            clear hK K
            try simp only [Act.put, List.setIfInBounds_toArray, List.set_cons_zero, List.set_cons_succ]
            replace hHeld := hHeld2
            clear hHeld2
            refine wpAnyH_ready (rs := [18]) (by kernel_rfl) (by simp) ?_
            refine (AllReadyH.cons (o := ({ dst := none, op := Op.store 26 (Operand.tmp 13) (Operand.tmp 88), type := 0, pos := "outright.go:34", after := #[{ on := 17, ground := Ground.data }, { on := 16, ground := Ground.data }, { on := 15, ground := Ground.chain }, { on := 0, ground := Ground.phase }, { on := 1, ground := Ground.phase }, { on := 2, ground := Ground.phase }, { on := 3, ground := Ground.phase }, { on := 4, ground := Ground.phase }, { on := 5, ground := Ground.phase }, { on := 6, ground := Ground.phase }, { on := 7, ground := Ground.phase }, { on := 8, ground := Ground.phase }, { on := 9, ground := Ground.phase }, { on := 10, ground := Ground.phase }, { on := 11, ground := Ground.phase }, { on := 12, ground := Ground.phase }, { on := 13, ground := Ground.phase }, { on := 14, ground := Ground.phase }, { on := 15, ground := Ground.phase }, { on := 16, ground := Ground.phase }, { on := 17, ground := Ground.phase }], guard := none } : Oper)) rfl (fun K hK => ?_) AllReadyH.nil)
            have n0 := mp.cell 0 _ rfl
            have g0 := mp.frozen 0
            have n1 := mp.cell 1 _ rfl
            have g1 := mp.frozen 1
            have n2 := mp.cell 2 _ rfl
            have g2 := mp.frozen 2
            have n3 := mp.cell 3 _ rfl
            have g3 := mp.frozen 3
            go_simp
            obtain ⟨Wv5, hWv5⟩ : ∃ W, ((((Wv4.setCell ⟨P, 0, none⟩ (.int .i64 ka)).setCell ⟨P, 1, none⟩ (.int .i64 ua)).setCell ⟨P, 2, none⟩ (.bool (!x))).setCell ⟨P, 3, none⟩ (.slice A15 (n - 1) c15)) = W := ⟨_, rfl⟩
            (try rw [hWv5])
            have t0 := mp
            have t1 := t0.set 0 (.int .i64 ka)
            have t2 := t1.set 1 (.int .i64 ua)
            have t3 := t2.set 2 (.bool (!x))
            have t4 := t3.set 3 (.slice A15 (n - 1) c15)
            have r4 := (((m8.setLow t0.ty (by decide) (by decide) 0 (.int .i64 ka)).setLow t1.ty (by decide) (by decide) 1 (.int .i64 ua)).setLow t2.ty (by decide) (by decide) 2 (.bool (!x))).setLow t3.ty (by decide) (by decide) 3 (.slice A15 (n - 1) c15)
            have hbn := ((((hbc.setCell (p := ⟨P, 0, none⟩) (show U.heap.size ≤ P by rw [hUS.out]; exact hPU) (.int .i64 ka)).setCell (p := ⟨P, 1, none⟩) (show U.heap.size ≤ P by rw [hUS.out]; exact hPU) (.int .i64 ua)).setCell (p := ⟨P, 2, none⟩) (show U.heap.size ≤ P by rw [hUS.out]; exact hPU) (.bool (!x))).setCell (p := ⟨P, 3, none⟩) (show U.heap.size ≤ P by rw [hUS.out]; exact hPU) (.slice A15 (n - 1) c15))
            rw [hWv5] at t4 r4 hbn
            clear hWv5 hbc n0 n1 n2 n3 g0 g1 g2 g3 mp m8 t0 t1 t2 t3
            have mp := t4
            have m8 := r4
            have hbc := hbn
            clear t4 r4 hbn
            refine hK.out _ _ ?ks518 (fun hHeld2 => ?_)
            case ks518 => exact HS.out Wv5 hbc
            clear hK K
            try simp only [Act.put, List.setIfInBounds_toArray, List.set_cons_zero, List.set_cons_succ]
            replace hHeld := hHeld2
            clear hHeld2
            refine wpAnyH_done (by kernel_rfl) ?_ _
            go_wp2_with fail
            go_meet
            exact ⟨P, _, _, rfl, Lib.hid ⟨mp, m8, hPU, hbc⟩⟩
          · go_simp
            obtain ⟨P, hG⟩ : ∃ X, Wv2.heap.size = X := ⟨_, rfl⟩
            obtain ⟨Wv3, hWv3⟩ : ∃ W, Wv2.alloc (.cells #[.int .i64 0, .int .i64 0, .bool false, .slice none 0 0] 26) = W := ⟨_, rfl⟩
            have hst : Below Wv2.heap.size Wv2 Wv3 := by rw [← hWv3]; exact (Below.refl _ _).alloc (Nat.le_refl _) _
            have nw : RowC Wv3 P #[.int .i64 0, .int .i64 0, .bool false, .slice none 0 0] 26 := by rw [← hWv3, ← hG]; exact RowC.new _ _ _ _ rfl
            have hPU : US ≤ P := by rw [← hG, ← hUS.out]; exact hbc.size
            (try rw [hG])
            (try rw [hWv3])
            clear hG hWv3
            replace hbc := bTr hbc hst
            replace m7 := m7.below hst (Nat.le_refl _)
            clear hst
            have mp := nw
            clear nw
            refine hK.out _ _ ?kt617 (fun hHeld2 => ?_)
            case kt617 => exact HS.out Wv3 hbc
            clear hK K
            try simp only [Act.put, List.setIfInBounds_toArray, List.set_cons_zero, List.set_cons_succ]
            replace hHeld := hHeld2
            clear hHeld2
            refine wpAnyH_ready (rs := [15]) (by kernel_rfl) (by simp) ?_
            refine (AllReadyH.cons (o := ({ dst := some 87, op := Op.call { callee := Callee.builtin Builtin.append, args := #[Operand.tmp 81, Operand.tmp 86], argTypes := #[24, 24] }, type := 24, pos := "outright.go:34", after := #[{ on := 9, ground := Ground.data }, { on := 14, ground := Ground.data }, { on := 9, ground := Ground.chain }], guard := none } : Oper)) rfl (fun K hK => ?_) AllReadyH.nil)
            refine step_rules (by rfl) _ _ (by rfl) (base := US) (l := l2.take jj) (l5 := l2.drop (jj + 1)) (by first | rfl | (rw [HLT.out]; rfl)) m7 (by rw [HLD.out]; rfl) (HRLD.out _ hbc) (by simp [HL2.out]; omega) (by have := HLE2.out; simp [HL2.out]; omega) (fun e => by cases e) (by rw [← hUS.out]; exact hbc.size) ?_
            rintro A15 c15 Wv4 hrow hgr hkc hst
            have hlen : (l2.take jj ++ l2.drop (jj + 1)).length = n - 1 := by rw [List.length_append, HLT.out, HLD.out]; omega
            rw [hlen]
            clear hlen
            have hst : Below U.heap.size Wv3 Wv4 := by rw [hUS.out]; exact hst
            replace mp := rowc_grown hgr mp (own_ne m7 mp)
            replace hbc := hbc.trans hst
            clear hst hgr hkc m7
            have m8 := hrow
            clear hrow
            refine hK.out _ _ ?kt715 (fun hHeld2 => ?_)
            case kt715 => exact HS.out Wv4 hbc
            clear hK K
            try simp only [Act.put, List.setIfInBounds_toArray, List.set_cons_zero, List.set_cons_succ]
            replace hHeld := hHeld2
            clear hHeld2
            refine wpAnyH_take (i := 16) (oi := ({ dst := some 88, op := Op.build 26 #[(0, Operand.tmp 72), (1, Operand.tmp 75), (2, Operand.tmp 87)], type := 26, pos := "outright.go:34", after := #[{ on := 0, ground := Ground.data }, { on := 3, ground := Ground.data }, { on := 15, ground := Ground.data }], guard := none } : Oper)) (v := ?vt7b16) rfl (by kernel_rfl) (by kernel_rfl) (by kernel_rfl) (fun _ _ _ h => h) (Or.inl ⟨by rfl, ?ht7b16⟩) hHeld ?rt7b16
            case ht7b16 =>
              intro w hSw
              obtain ⟨s0, s1, s2, s3, s4, s5⟩ := hSw
              go_simp
              all_goals with_reducible rfl
            try simp only [Act.put, List.setIfInBounds_toArray, List.set_cons_zero, List.set_cons_succ]
            refine wpAnyH_ready (rs := [18]) (by kernel_rfl) (by simp) ?_
            refine (AllReadyH.cons (o := ({ dst := none, op := Op.store 26 (Operand.tmp 13) (Operand.tmp 88), type := 0, pos := "outright.go:34", after := #[{ on := 17, ground := Ground.data }, { on := 16, ground := Ground.data }, { on := 15, ground := Ground.chain }, { on := 0, ground := Ground.phase }, { on := 1, ground := Ground.phase }, { on := 2, ground := Ground.phase }, { on := 3, ground := Ground.phase }, { on := 4, ground := Ground.phase }, { on := 5, ground := Ground.phase }, { on := 6, ground := Ground.phase }, { on := 7, ground := Ground.phase }, { on := 8, ground := Ground.phase }, { on := 9, ground := Ground.phase }, { on := 10, ground := Ground.phase }, { on := 11, ground := Ground.phase }, { on := 12, ground := Ground.phase }, { on := 13, ground := Ground.phase }, { on := 14, ground := Ground.phase }, { on := 15, ground := Ground.phase }, { on := 16, ground := Ground.phase }, { on := 17, ground := Ground.phase }], guard := none } : Oper)) rfl (fun K hK => ?_) AllReadyH.nil)
            have n0 := mp.cell 0 _ rfl
            have g0 := mp.frozen 0
            have n1 := mp.cell 1 _ rfl
            have g1 := mp.frozen 1
            have n2 := mp.cell 2 _ rfl
            have g2 := mp.frozen 2
            have n3 := mp.cell 3 _ rfl
            have g3 := mp.frozen 3
            go_simp
            obtain ⟨Wv5, hWv5⟩ : ∃ W, ((((Wv4.setCell ⟨P, 0, none⟩ (.int .i64 ka)).setCell ⟨P, 1, none⟩ (.int .i64 ua)).setCell ⟨P, 2, none⟩ (.bool (!x))).setCell ⟨P, 3, none⟩ (.slice A15 (n - 1) c15)) = W := ⟨_, rfl⟩
            (try rw [hWv5])
            have t0 := mp
            have t1 := t0.set 0 (.int .i64 ka)
            have t2 := t1.set 1 (.int .i64 ua)
            have t3 := t2.set 2 (.bool (!x))
            have t4 := t3.set 3 (.slice A15 (n - 1) c15)
            have r4 := (((m8.setLow t0.ty (by decide) (by decide) 0 (.int .i64 ka)).setLow t1.ty (by decide) (by decide) 1 (.int .i64 ua)).setLow t2.ty (by decide) (by decide) 2 (.bool (!x))).setLow t3.ty (by decide) (by decide) 3 (.slice A15 (n - 1) c15)
            have hbn := ((((hbc.setCell (p := ⟨P, 0, none⟩) (show U.heap.size ≤ P by rw [hUS.out]; exact hPU) (.int .i64 ka)).setCell (p := ⟨P, 1, none⟩) (show U.heap.size ≤ P by rw [hUS.out]; exact hPU) (.int .i64 ua)).setCell (p := ⟨P, 2, none⟩) (show U.heap.size ≤ P by rw [hUS.out]; exact hPU) (.bool (!x))).setCell (p := ⟨P, 3, none⟩) (show U.heap.size ≤ P by rw [hUS.out]; exact hPU) (.slice A15 (n - 1) c15))
            rw [hWv5] at t4 r4 hbn
            clear hWv5 hbc n0 n1 n2 n3 g0 g1 g2 g3 mp m8 t0 t1 t2 t3
            have mp := t4
            have m8 := r4
            have hbc := hbn
            clear t4 r4 hbn
            refine hK.out _ _ ?ks818 (fun hHeld2 => ?_)
            case ks818 => exact HS.out Wv5 hbc
            clear hK K
            try simp only [Act.put, List.setIfInBounds_toArray, List.set_cons_zero, List.set_cons_succ]
            replace hHeld := hHeld2
            clear hHeld2
            refine wpAnyH_done (by kernel_rfl) ?_ _
            go_wp2_with fail
            go_meet
            exact ⟨P, _, _, rfl, Lib.hid ⟨mp, m8, hPU, hbc⟩⟩
        · go_simp
          obtain ⟨P, hG⟩ : ∃ X, Wv1.heap.size = X := ⟨_, rfl⟩
          obtain ⟨Wv2, hWv2⟩ : ∃ W, Wv1.alloc (.cells #[.int .i64 0, .int .i64 0, .bool false, .slice none 0 0] 26) = W := ⟨_, rfl⟩
          have hst : Below Wv1.heap.size Wv1 Wv2 := by rw [← hWv2]; exact (Below.refl _ _).alloc (Nat.le_refl _) _
          have nw : RowC Wv2 P #[.int .i64 0, .int .i64 0, .bool false, .slice none 0 0] 26 := by rw [← hWv2, ← hG]; exact RowC.new _ _ _ _ rfl
          have hPU : US ≤ P := by rw [← hG, ← hUS.out]; exact hbc.size
          (try rw [hG])
          (try rw [hWv2])
          clear hG hWv2
          replace hbc := bTr hbc hst
          replace m0 := m0.below hst (Nat.le_refl _)
          clear hst
          have mp := nw
          clear nw
          refine hK.out _ _ ?kt917 (fun hHeld2 => ?_)
          case kt917 => exact HS.out Wv2 hbc
          clear hK K
          try simp only [Act.put, List.setIfInBounds_toArray, List.set_cons_zero, List.set_cons_succ]
          replace hHeld := hHeld2
          clear hHeld2
          refine wpAnyH_ready (rs := [9]) (by kernel_rfl) (by simp) ?_
          refine (AllReadyH.cons (o := ({ dst := some 81, op := Op.call { callee := Callee.builtin Builtin.append, args := #[Operand.tmp 76, Operand.tmp 80], argTypes := #[24, 24] }, type := 24, pos := "outright.go:34", after := #[{ on := 4, ground := Ground.data }, { on := 8, ground := Ground.data }], guard := none } : Oper)) rfl (fun K hK => ?_) AllReadyH.nil)
          refine step_rules (by rfl) _ _ (by rfl) (base := US) (l := []) (l5 := l2.take jj) (by first | rfl | (rw [HLT.out]; rfl)) m0 (by rw [HLT.out]; rfl) (HRLT.out _ hbc) (by simp [HL2.out]; omega) (by have := HLE2.out; simp [HL2.out]; omega) (fun e => by cases e) (by rw [← hUS.out]; exact hbc.size) ?_
          rintro A9 c9 Wv3 hrow hgr hkc hst
          have hlen : ([] ++ l2.take jj).length = jj := by rw [List.nil_append]; exact HLT.out
          rw [hlen]
          clear hlen
          have hst : Below U.heap.size Wv2 Wv3 := by rw [hUS.out]; exact hst
          replace mp := rowc_grown hgr mp (own_ne m0 mp)
          replace hbc := hbc.trans hst
          clear hst hgr hkc m0
          have m7 := hrow
          clear hrow
          refine hK.out _ _ ?kt109 (fun hHeld2 => ?_)
          case kt109 => exact HS.out Wv3 hbc
          clear hK K
          try simp only [Act.put, List.setIfInBounds_toArray, List.set_cons_zero, List.set_cons_succ]
          replace hHeld := hHeld2
          clear hHeld2
          refine wpAnyH_ready (rs := [15]) (by kernel_rfl) (by simp) ?_
          refine (AllReadyH.cons (o := ({ dst := some 87, op := Op.call { callee := Callee.builtin Builtin.append, args := #[Operand.tmp 81, Operand.tmp 86], argTypes := #[24, 24] }, type := 24, pos := "outright.go:34", after := #[{ on := 9, ground := Ground.data }, { on := 14, ground := Ground.data }, { on := 9, ground := Ground.chain }], guard := none } : Oper)) rfl (fun K hK => ?_) AllReadyH.nil)
          refine step_rules (by rfl) _ _ (by rfl) (base := US) (l := l2.take jj) (l5 := l2.drop (jj + 1)) (by first | rfl | (rw [HLT.out]; rfl)) m7 (by rw [HLD.out]; rfl) (HRLD.out _ hbc) (by simp [HL2.out]; omega) (by have := HLE2.out; simp [HL2.out]; omega) (fun e => by cases e) (by rw [← hUS.out]; exact hbc.size) ?_
          rintro A15 c15 Wv4 hrow hgr hkc hst
          have hlen : (l2.take jj ++ l2.drop (jj + 1)).length = n - 1 := by rw [List.length_append, HLT.out, HLD.out]; omega
          rw [hlen]
          clear hlen
          have hst : Below U.heap.size Wv3 Wv4 := by rw [hUS.out]; exact hst
          replace mp := rowc_grown hgr mp (own_ne m7 mp)
          replace hbc := hbc.trans hst
          clear hst hgr hkc m7
          have m8 := hrow
          clear hrow
          refine hK.out _ _ ?kt1115 (fun hHeld2 => ?_)
          case kt1115 => exact HS.out Wv4 hbc
          clear hK K
          try simp only [Act.put, List.setIfInBounds_toArray, List.set_cons_zero, List.set_cons_succ]
          replace hHeld := hHeld2
          clear hHeld2
          refine wpAnyH_take (i := 16) (oi := ({ dst := some 88, op := Op.build 26 #[(0, Operand.tmp 72), (1, Operand.tmp 75), (2, Operand.tmp 87)], type := 26, pos := "outright.go:34", after := #[{ on := 0, ground := Ground.data }, { on := 3, ground := Ground.data }, { on := 15, ground := Ground.data }], guard := none } : Oper)) (v := ?vt11b16) rfl (by kernel_rfl) (by kernel_rfl) (by kernel_rfl) (fun _ _ _ h => h) (Or.inl ⟨by rfl, ?ht11b16⟩) hHeld ?rt11b16
          case ht11b16 =>
            intro w hSw
            obtain ⟨s0, s1, s2, s3, s4, s5⟩ := hSw
            go_simp
            all_goals with_reducible rfl
          try simp only [Act.put, List.setIfInBounds_toArray, List.set_cons_zero, List.set_cons_succ]
          refine wpAnyH_ready (rs := [18]) (by kernel_rfl) (by simp) ?_
          refine (AllReadyH.cons (o := ({ dst := none, op := Op.store 26 (Operand.tmp 13) (Operand.tmp 88), type := 0, pos := "outright.go:34", after := #[{ on := 17, ground := Ground.data }, { on := 16, ground := Ground.data }, { on := 15, ground := Ground.chain }, { on := 0, ground := Ground.phase }, { on := 1, ground := Ground.phase }, { on := 2, ground := Ground.phase }, { on := 3, ground := Ground.phase }, { on := 4, ground := Ground.phase }, { on := 5, ground := Ground.phase }, { on := 6, ground := Ground.phase }, { on := 7, ground := Ground.phase }, { on := 8, ground := Ground.phase }, { on := 9, ground := Ground.phase }, { on := 10, ground := Ground.phase }, { on := 11, ground := Ground.phase }, { on := 12, ground := Ground.phase }, { on := 13, ground := Ground.phase }, { on := 14, ground := Ground.phase }, { on := 15, ground := Ground.phase }, { on := 16, ground := Ground.phase }, { on := 17, ground := Ground.phase }], guard := none } : Oper)) rfl (fun K hK => ?_) AllReadyH.nil)
          have n0 := mp.cell 0 _ rfl
          have g0 := mp.frozen 0
          have n1 := mp.cell 1 _ rfl
          have g1 := mp.frozen 1
          have n2 := mp.cell 2 _ rfl
          have g2 := mp.frozen 2
          have n3 := mp.cell 3 _ rfl
          have g3 := mp.frozen 3
          go_simp
          obtain ⟨Wv5, hWv5⟩ : ∃ W, ((((Wv4.setCell ⟨P, 0, none⟩ (.int .i64 ka)).setCell ⟨P, 1, none⟩ (.int .i64 ua)).setCell ⟨P, 2, none⟩ (.bool (!x))).setCell ⟨P, 3, none⟩ (.slice A15 (n - 1) c15)) = W := ⟨_, rfl⟩
          (try rw [hWv5])
          have t0 := mp
          have t1 := t0.set 0 (.int .i64 ka)
          have t2 := t1.set 1 (.int .i64 ua)
          have t3 := t2.set 2 (.bool (!x))
          have t4 := t3.set 3 (.slice A15 (n - 1) c15)
          have r4 := (((m8.setLow t0.ty (by decide) (by decide) 0 (.int .i64 ka)).setLow t1.ty (by decide) (by decide) 1 (.int .i64 ua)).setLow t2.ty (by decide) (by decide) 2 (.bool (!x))).setLow t3.ty (by decide) (by decide) 3 (.slice A15 (n - 1) c15)
          have hbn := ((((hbc.setCell (p := ⟨P, 0, none⟩) (show U.heap.size ≤ P by rw [hUS.out]; exact hPU) (.int .i64 ka)).setCell (p := ⟨P, 1, none⟩) (show U.heap.size ≤ P by rw [hUS.out]; exact hPU) (.int .i64 ua)).setCell (p := ⟨P, 2, none⟩) (show U.heap.size ≤ P by rw [hUS.out]; exact hPU) (.bool (!x))).setCell (p := ⟨P, 3, none⟩) (show U.heap.size ≤ P by rw [hUS.out]; exact hPU) (.slice A15 (n - 1) c15))
          rw [hWv5] at t4 r4 hbn
          clear hWv5 hbc n0 n1 n2 n3 g0 g1 g2 g3 mp m8 t0 t1 t2 t3
          have mp := t4
          have m8 := r4
          have hbc := hbn
          clear t4 r4 hbn
          refine hK.out _ _ ?ks1218 (fun hHeld2 => ?_)
          case ks1218 => exact HS.out Wv5 hbc
          clear hK K
          try simp only [Act.put, List.setIfInBounds_toArray, List.set_cons_zero, List.set_cons_succ]
          replace hHeld := hHeld2
          clear hHeld2
          refine wpAnyH_done (by kernel_rfl) ?_ _
          go_wp2_with fail
          go_meet
          exact ⟨P, _, _, rfl, Lib.hid ⟨mp, m8, hPU, hbc⟩⟩
      · go_simp
        obtain ⟨P, hG⟩ : ∃ X, Wv0.heap.size = X := ⟨_, rfl⟩
        obtain ⟨Wv1, hWv1⟩ : ∃ W, Wv0.alloc (.cells #[.int .i64 0, .int .i64 0, .bool false, .slice none 0 0] 26) = W := ⟨_, rfl⟩
        have hst : Below Wv0.heap.size Wv0 Wv1 := by rw [← hWv1]; exact (Below.refl _ _).alloc (Nat.le_refl _) _
        have nw : RowC Wv1 P #[.int .i64 0, .int .i64 0, .bool false, .slice none 0 0] 26 := by rw [← hWv1, ← hG]; exact RowC.new _ _ _ _ rfl
        have hPU : US ≤ P := by rw [← hG, ← hUS.out]; exact hbc.size
        (try rw [hG])
        (try rw [hWv1])
        clear hG hWv1
        replace hbc := bTr hbc hst
        clear hst
        have mp := nw
        clear nw
        refine hK.out _ _ ?kt1317 (fun hHeld2 => ?_)
        case kt1317 => exact HS.out Wv1 hbc
        clear hK K
        try simp only [Act.put, List.setIfInBounds_toArray, List.set_cons_zero, List.set_cons_succ]
        replace hHeld := hHeld2
        clear hHeld2
        refine wpAnyH_ready (rs := [4]) (by kernel_rfl) (by simp) ?_
        refine (AllReadyH.cons (o := ({ dst := some 76, op := Op.buildSlice 24 0 #[], type := 24, pos := "outright.go:34", after := #[], guard := none } : Oper)) rfl (fun K hK => ?_) AllReadyH.nil)
        go_simp
        obtain ⟨G0, hG⟩ : ∃ X, Wv1.heap.size = X := ⟨_, rfl⟩
        obtain ⟨Wv2, hWv2⟩ : ∃ W, Wv1.alloc (.cells #[] 57) = W := ⟨_, rfl⟩
        have hst : Below Wv1.heap.size Wv1 Wv2 := by rw [← hWv2]; exact (Below.refl _ _).alloc (Nat.le_refl _) _
        have nw : RowL Wv2 US (some ⟨G0, 0, none⟩) [] 0 := by rw [← hWv2]; exact made_row Wv1 US G0 hG.symm (by rw [← hUS.out]; exact hbc.size)
        (try rw [hG])
        (try rw [hWv2])
        clear hG hWv2
        replace hbc := bTr hbc hst
        replace mp := mp.below hst mp.lt
        clear hst
        have m0 := nw
        clear nw
        refine hK.out _ _ ?kt144 (fun hHeld2 => ?_)
        case kt144 => exact HS.out Wv2 hbc
        clear hK K
        try simp only [Act.put, List.setIfInBounds_toArray, List.set_cons_zero, List.set_cons_succ]
        replace hHeld := hHeld2
        clear hHeld2
        refine wpAnyH_ready (rs := [9]) (by kernel_rfl) (by simp) ?_
        refine (AllReadyH.cons (o := ({ dst := some 81, op := Op.call { callee := Callee.builtin Builtin.append, args := #[Operand.tmp 76, Operand.tmp 80], argTypes := #[24, 24] }, type := 24, pos := "outright.go:34", after := #[{ on := 4, ground := Ground.data }, { on := 8, ground := Ground.data }], guard := none } : Oper)) rfl (fun K hK => ?_) AllReadyH.nil)
        refine step_rules (by rfl) _ _ (by rfl) (base := US) (l := []) (l5 := l2.take jj) (by first | rfl | (rw [HLT.out]; rfl)) m0 (by rw [HLT.out]; rfl) (HRLT.out _ hbc) (by simp [HL2.out]; omega) (by have := HLE2.out; simp [HL2.out]; omega) (fun e => by cases e) (by rw [← hUS.out]; exact hbc.size) ?_
        rintro A9 c9 Wv3 hrow hgr hkc hst
        have hlen : ([] ++ l2.take jj).length = jj := by rw [List.nil_append]; exact HLT.out
        rw [hlen]
        clear hlen
        have hst : Below U.heap.size Wv2 Wv3 := by rw [hUS.out]; exact hst
        replace mp := rowc_grown hgr mp (own_ne m0 mp)
        replace hbc := hbc.trans hst
        clear hst hgr hkc m0
        have m7 := hrow
        clear hrow
        refine hK.out _ _ ?kt159 (fun hHeld2 => ?_)
        case kt159 => exact HS.out Wv3 hbc
        clear hK K
        try simp only [Act.put, List.setIfInBounds_toArray, List.set_cons_zero, List.set_cons_succ]
        replace hHeld := hHeld2
        clear hHeld2
        refine wpAnyH_ready (rs := [15]) (by kernel_rfl) (by simp) ?_
        refine (AllReadyH.cons (o := ({ dst := some 87, op := Op.call { callee := Callee.builtin Builtin.append, args := #[Operand.tmp 81, Operand.tmp 86], argTypes := #[24, 24] }, type := 24, pos := "outright.go:34", after := #[{ on := 9, ground := Ground.data }, { on := 14, ground := Ground.data }, { on := 9, ground := Ground.chain }], guard := none } : Oper)) rfl (fun K hK => ?_) AllReadyH.nil)
        refine step_rules (by rfl) _ _ (by rfl) (base := US) (l := l2.take jj) (l5 := l2.drop (jj + 1)) (by first | rfl | (rw [HLT.out]; rfl)) m7 (by rw [HLD.out]; rfl) (HRLD.out _ hbc) (by simp [HL2.out]; omega) (by have := HLE2.out; simp [HL2.out]; omega) (fun e => by cases e) (by rw [← hUS.out]; exact hbc.size) ?_
        rintro A15 c15 Wv4 hrow hgr hkc hst
        have hlen : (l2.take jj ++ l2.drop (jj + 1)).length = n - 1 := by rw [List.length_append, HLT.out, HLD.out]; omega
        rw [hlen]
        clear hlen
        have hst : Below U.heap.size Wv3 Wv4 := by rw [hUS.out]; exact hst
        replace mp := rowc_grown hgr mp (own_ne m7 mp)
        replace hbc := hbc.trans hst
        clear hst hgr hkc m7
        have m8 := hrow
        clear hrow
        refine hK.out _ _ ?kt1615 (fun hHeld2 => ?_)
        case kt1615 => exact HS.out Wv4 hbc
        clear hK K
        try simp only [Act.put, List.setIfInBounds_toArray, List.set_cons_zero, List.set_cons_succ]
        replace hHeld := hHeld2
        clear hHeld2
        refine wpAnyH_take (i := 16) (oi := ({ dst := some 88, op := Op.build 26 #[(0, Operand.tmp 72), (1, Operand.tmp 75), (2, Operand.tmp 87)], type := 26, pos := "outright.go:34", after := #[{ on := 0, ground := Ground.data }, { on := 3, ground := Ground.data }, { on := 15, ground := Ground.data }], guard := none } : Oper)) (v := ?vt16b16) rfl (by kernel_rfl) (by kernel_rfl) (by kernel_rfl) (fun _ _ _ h => h) (Or.inl ⟨by rfl, ?ht16b16⟩) hHeld ?rt16b16
        case ht16b16 =>
          intro w hSw
          obtain ⟨s0, s1, s2, s3, s4, s5⟩ := hSw
          go_simp
          all_goals with_reducible rfl
        try simp only [Act.put, List.setIfInBounds_toArray, List.set_cons_zero, List.set_cons_succ]
        refine wpAnyH_ready (rs := [18]) (by kernel_rfl) (by simp) ?_
        refine (AllReadyH.cons (o := ({ dst := none, op := Op.store 26 (Operand.tmp 13) (Operand.tmp 88), type := 0, pos := "outright.go:34", after := #[{ on := 17, ground := Ground.data }, { on := 16, ground := Ground.data }, { on := 15, ground := Ground.chain }, { on := 0, ground := Ground.phase }, { on := 1, ground := Ground.phase }, { on := 2, ground := Ground.phase }, { on := 3, ground := Ground.phase }, { on := 4, ground := Ground.phase }, { on := 5, ground := Ground.phase }, { on := 6, ground := Ground.phase }, { on := 7, ground := Ground.phase }, { on := 8, ground := Ground.phase }, { on := 9, ground := Ground.phase }, { on := 10, ground := Ground.phase }, { on := 11, ground := Ground.phase }, { on := 12, ground := Ground.phase }, { on := 13, ground := Ground.phase }, { on := 14, ground := Ground.phase }, { on := 15, ground := Ground.phase }, { on := 16, ground := Ground.phase }, { on := 17, ground := Ground.phase }], guard := none } : Oper)) rfl (fun K hK => ?_) AllReadyH.nil)
        have n0 := mp.cell 0 _ rfl
        have g0 := mp.frozen 0
        have n1 := mp.cell 1 _ rfl
        have g1 := mp.frozen 1
        have n2 := mp.cell 2 _ rfl
        have g2 := mp.frozen 2
        have n3 := mp.cell 3 _ rfl
        have g3 := mp.frozen 3
        go_simp
        obtain ⟨Wv5, hWv5⟩ : ∃ W, ((((Wv4.setCell ⟨P, 0, none⟩ (.int .i64 ka)).setCell ⟨P, 1, none⟩ (.int .i64 ua)).setCell ⟨P, 2, none⟩ (.bool (!x))).setCell ⟨P, 3, none⟩ (.slice A15 (n - 1) c15)) = W := ⟨_, rfl⟩
        (try rw [hWv5])
        have t0 := mp
        have t1 := t0.set 0 (.int .i64 ka)
        have t2 := t1.set 1 (.int .i64 ua)
        have t3 := t2.set 2 (.bool (!x))
        have t4 := t3.set 3 (.slice A15 (n - 1) c15)
        have r4 := (((m8.setLow t0.ty (by decide) (by decide) 0 (.int .i64 ka)).setLow t1.ty (by decide) (by decide) 1 (.int .i64 ua)).setLow t2.ty (by decide) (by decide) 2 (.bool (!x))).setLow t3.ty (by decide) (by decide) 3 (.slice A15 (n - 1) c15)
        have hbn := ((((hbc.setCell (p := ⟨P, 0, none⟩) (show U.heap.size ≤ P by rw [hUS.out]; exact hPU) (.int .i64 ka)).setCell (p := ⟨P, 1, none⟩) (show U.heap.size ≤ P by rw [hUS.out]; exact hPU) (.int .i64 ua)).setCell (p := ⟨P, 2, none⟩) (show U.heap.size ≤ P by rw [hUS.out]; exact hPU) (.bool (!x))).setCell (p := ⟨P, 3, none⟩) (show U.heap.size ≤ P by rw [hUS.out]; exact hPU) (.slice A15 (n - 1) c15))
        rw [hWv5] at t4 r4 hbn
        clear hWv5 hbc n0 n1 n2 n3 g0 g1 g2 g3 mp m8 t0 t1 t2 t3
        have mp := t4
        have m8 := r4
        have hbc := hbn
        clear t4 r4 hbn
        refine hK.out _ _ ?ks1718 (fun hHeld2 => ?_)
        case ks1718 => exact HS.out Wv5 hbc
        clear hK K
        try simp only [Act.put, List.setIfInBounds_toArray, List.set_cons_zero, List.set_cons_succ]
        replace hHeld := hHeld2
        clear hHeld2
        refine wpAnyH_done (by kernel_rfl) ?_ _
        go_wp2_with fail
        go_meet
        exact ⟨P, _, _, rfl, Lib.hid ⟨mp, m8, hPU, hbc⟩⟩
  case rest =>
  obtain ⟨P, A8, c8, rfl, HC⟩ := hcut
  have HVC := Lib.hid (bTr HBU.out HC.out.2.2.2)
  have hq := HRX.out _ HVC.out
  have hzc := HZZ.out.below HC.out.2.2.2 HZZ.out.lt
  have hjl2 : jj < l2.length := by rw [HL2.out]; exact hjl
  have hRL := hq.2.1
  obtain ⟨hk1, hk2⟩ : wc.cell? ⟨b1, jj * 4 + 1, none⟩ = some (.int .i64 l2[jj]!.k) ∧ wc.cell? ⟨b1, jj * 4 + 1 + 1, none⟩ = some (.int .i64 l2[jj]!.u) := by
    rcases hRL.1 with h | ⟨b', o', e, _, hcs⟩
    · rw [h] at hjl2; exact absurd hjl2 (Nat.not_lt_zero _)
    · injection e with e
      injection e with e1 e2
      subst e1 e2
      have h4 := hcs jj hjl2
      rw [Nat.zero_add] at h4
      exact ⟨h4.2.1, h4.2.2.1⟩
  have x3 := hq.1.cell 3 (.slice (some ⟨b1, 0, none⟩) n c2) rfl
  have z0 := hzc.cell 0 (.int .i64 ka) rfl
  have z1 := hzc.cell 1 (.int .i64 ua) rfl
  have z1f := hq.2.2.2.1.frozen (jj * 4 + 1)
  have z2f := hq.2.2.2.1.frozen (jj * 4 + 1 + 1)
  obtain ⟨W11, hW11⟩ : ∃ W, (wc.setCell ⟨b1, jj * 4 + 1, none⟩ (.int .i64 ka)).setCell ⟨b1, jj * 4 + 1 + 1, none⟩ (.int .i64 ua) = W := ⟨_, rfl⟩
  have hty := hq.2.2.2.1.ty
  have hty2 := hty.set (jj * 4 + 1) (.int .i64 ka)
  have hPb : b1 < US := by rw [← hUS.out]; have h1 := hq.2.2.2.1; have h2 := HB1N.out; have h3 := HB3.out.size; have h5 := (HRX.out _ HBU.out).2.2.2.1.lt; exact h5
  have hRL11 : RlL W11 (some ⟨b1, 0, none⟩) (l2.set jj { l2[jj] with k := ka, u := ua }) := by
    have h := RlL.setAct (c := c2) hRL hjl2 hty ka ua HWF.out.2.1 HWF.out.2.2
    rw [Nat.zero_add, hW11] at h
    exact h
  have hLS11 : RowL W11 US A8 (l2.take jj ++ l2.drop (jj + 1)) c8 := by
    rw [← hW11]
    exact (HC.out.2.1.setUnder hty (by decide) hPb _ _).setUnder hty2 (by decide) hPb _ _
  have hP11 : RowC W11 P (polA ka ua (!x) A8 (n - 1) c8) 26 := by
    rw [← hW11]
    have hne : P ≠ b1 := by have := HC.out.2.2.1; omega
    exact (HC.out.1.setOther _ _ hne).setOther _ _ hne
  have hX11 : RowC W11 bx (polA k u x (some ⟨b1, 0, none⟩) n c2) 26 := by
    rw [← hW11]
    have hne : bx ≠ b1 := fun e => HBN.out e.symm
    exact (hq.1.setOther _ _ hne).setOther _ _ hne
  have hT11 : TbA W11 A3 tn T := by
    rw [← hW11]
    exact own_tbl (((HW4'.out.below HVC.out (Nat.le_refl _)).setUnder HB1N.out _ _).setUnder HB1N.out _ _)
  have hB11 : Below B w0 W11 := by
    rw [← hW11]
    exact (hq.2.2.2.2.2.setCell (p := ⟨b1, jj * 4 + 1, none⟩) HBB1.out _).setCell (p := ⟨b1, jj * 4 + 1 + 1, none⟩) HBB1.out _
  have HX11 := Lib.hid hX11
  have HRL11 := Lib.hid hRL11
  have HT11 := Lib.hid hT11
  have HB11 := Lib.hid hB11
  have HJL := Lib.hid hjl2
  have hln : (l2.take jj ++ l2.drop (jj + 1)).length = n - 1 := by rw [List.length_append, HLT.out, HLD.out]; omega
  have hsm : ∀ e ∈ l2.take jj ++ l2.drop (jj + 1), e.n ≤ 100000 := fun e he => by
    rcases List.mem_append.1 he with h | h
    · exact HS2.out e (List.mem_of_mem_take h)
    · exact HS2.out e (List.mem_of_mem_drop h)
  have hch := check_any ka ua (!x) A8 (l2.take jj ++ l2.drop (jj + 1)) c8 A3 tn c3 T W11 hLS11.rl (by rw [hln]; omega) hsm (by omega) hT11
  rw [hln] at hch
  have KC := Lib.hid hch
  have P0 := hP11.cell 0 (.int .i64 ka) rfl
  have P1 := hP11.cell 1 (.int .i64 ua) rfl
  have P2 := hP11.cell 2 (.bool (!x)) rfl
  have P3 := hP11.cell 3 (.slice A8 (n - 1) c8) rfl
  have HW11 := Lib.hid hW11
  clear hq hzc hRL hty hty2 hRL11 hLS11 hP11 hX11 hT11 hB11 hW11 hln hsm hch HS HRLT HRLD
  go_upto_region 12 with fail
  (try rw [HW11.out])
  clear hk1 hk2 x3 z0 z1 z1f z2f
  go_wp2_with fail
  refine KC.out.mono ?_
  rintro e w12 ⟨a2, f2', rfl, hca2, hB12⟩
  obtain rfl := chk_less HCA.out HACT.out less_sub hca2
  have HB12 := Lib.hid hB12
  have hX12 := HX11.out.below hB12 HX11.out.lt
  have x0 := hX12.cell 0 (.int .i64 k) rfl
  have x1 := hX12.cell 1 (.int .i64 u) rfl
  have x2 := hX12.cell 2 (.bool x) rfl
  have x3 := hX12.cell 3 (.slice (some ⟨b1, 0, none⟩) n c2) rfl
  have hln : (l2.set jj { l2[jj]'HJL.out with k := ka, u := ua }).length = n := by rw [List.length_set]; exact HL2.out
  have hch := check_any k u x (some ⟨b1, 0, none⟩) (l2.set jj { l2[jj]'HJL.out with k := ka, u := ua }) c2 A3 tn c3 T w12 (HRL11.out.below hB12 (Nat.le_refl _)) (by rw [hln]; omega) (fun e he => by
    rcases List.mem_or_eq_of_mem_set he with h | rfl
    · exact HS2.out e h
    · exact (show (l2[jj]'HJL.out).n ≤ 100000 from HS2.out _ (List.getElem_mem HJL.out))) (by omega) (HT11.out.below hB12 (Nat.le_refl _))
  rw [hln] at hch
  have KC2 := Lib.hid hch
  clear KC hca2 hB12 hX12 hln hch P0 P1 P2 P3
  go_wp2_with fail
  refine KC2.out.mono ?_
  rintro e w13 ⟨a3, f3', rfl, hca3, hB13⟩
  have hca4 : ChkP k u ((l2.map RL.val).set jj ⟨((l2.map RL.val)[jj]'(by rw [List.length_map]; exact HJL.out)).nm, ka, ua, ((l2.map RL.val)[jj]'(by rw [List.length_map]; exact HJL.out)).L⟩) T tn a3 f3' := by
    rw [List.map_set] at hca3
    have e : RL.val { l2[jj]'HJL.out with k := ka, u := ua } = ⟨((l2.map RL.val)[jj]'(by rw [List.length_map]; exact HJL.out)).nm, ka, ua, ((l2.map RL.val)[jj]'(by rw [List.length_map]; exact HJL.out)).L⟩ := by
      rw [List.getElem_map]; rfl
    rw [e] at hca3
    exact hca3
  obtain rfl := chk_set (by rw [List.length_map]; exact HJL.out) HCA.out HACT.out hca4
  have KW := Lib.hid (HAW.out w13)
  have HB13 := Lib.hid (bTr HB12.out hB13)
  clear hca3 hca4 hB13 x0 x1 x2 x3 KC2
  go_wp2_with fail
  refine KW.out.mono ?_
  rintro e w14 ⟨rfl, hB14⟩
  go_wp2
  go_ret
  exact ⟨rfl, by rw [HBS.out]; exact HB11.out.trans ((bTr HB13.out hB14).mono (by have := HB11.out.size; have := HBS.out; omega))⟩
theorem of_laid {W : World} (h : laidMetH Tryz.prog Rows.validLessRow.laid W) : True := trivial
end Go.Proofs.YtcmdmnnkbliggaaGreatDoor
