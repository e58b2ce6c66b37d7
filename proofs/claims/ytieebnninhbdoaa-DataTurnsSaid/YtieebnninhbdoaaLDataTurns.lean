/-
  The law DataTurns holds for every input: the one way round each field's bytes are those of the other one, turned. No condition.
-/
import Derived.Test.YtieebnninhbdoaaDe
import Derived.Test.YtieebnninhbdoaaIb
import Derived.Test.YtieebnninhbdoaaRows
import Derived.Below
import Derived.ChangeOld
import Derived.ShutString
import Derived.Lib.SmallJoins
import Derived.OpenShut
import Derived.ProofKit
import Derived.WalkKit
import Derived.Deep.RegionWith
import Derived.Deep.RegionHeld3
import Derived.Deep.QuietTactic
import Derived.BigQuiet
import Derived.Deep.CutRange
import Derived.Deep.MidRow
import Derived.Test.YtieebnninhbdoaaRw
namespace Go.Proofs.Ytieebnninhbdoaa
open Go.RowKit

/-- Where the fields begin. -/
def atF (i : Nat) : Nat := if i ≤ 2 then 4 * i else 8 * (i - 1)
theorem wb_turn (wd x j : Nat) (h : j < wd) : wb false wd x j = wb true wd x (wd - 1 - j) := by
  have h2 : wd - 1 - j < wd := by omega
  unfold wb
  rw [if_pos h, if_pos h2]
  have e1 : idx false 0 wd j = j := rfl
  have e2 : idx true 0 wd (wd - 1 - j) = j := by
    show 0 + wd - 1 - (wd - 1 - j) = j
    omega
  rw [e1, e2]
abbrev z64 : Array Value := #[.int .u8 0, .int .u8 0, .int .u8 0, .int .u8 0, .int .u8 0, .int .u8 0, .int .u8 0, .int .u8 0, .int .u8 0, .int .u8 0, .int .u8 0, .int .u8 0, .int .u8 0, .int .u8 0, .int .u8 0, .int .u8 0, .int .u8 0, .int .u8 0, .int .u8 0, .int .u8 0, .int .u8 0, .int .u8 0, .int .u8 0, .int .u8 0, .int .u8 0, .int .u8 0, .int .u8 0, .int .u8 0, .int .u8 0, .int .u8 0, .int .u8 0, .int .u8 0, .int .u8 0, .int .u8 0, .int .u8 0, .int .u8 0, .int .u8 0, .int .u8 0, .int .u8 0, .int .u8 0, .int .u8 0, .int .u8 0, .int .u8 0, .int .u8 0, .int .u8 0, .int .u8 0, .int .u8 0, .int .u8 0, .int .u8 0, .int .u8 0, .int .u8 0, .int .u8 0, .int .u8 0, .int .u8 0, .int .u8 0, .int .u8 0, .int .u8 0, .int .u8 0, .int .u8 0, .int .u8 0, .int .u8 0, .int .u8 0, .int .u8 0, .int .u8 0]
/-- What a call leaves: all that lay in X lies as it lay. -/
structure CallB (X w : World) : Prop where
  left : Below X.heap.size X w
theorem bel_drew {a w : World} (h : Below a.heap.size a w) : Below a.heap.size a w.drew := h.drew
theorem bel_alloc {a w : World} {o : Obj} (h : Below a.heap.size a w) : Below a.heap.size a (w.alloc o) := h.alloc h.size o
theorem bel_call {a X w : World} (hc : CallB X w) (h : Below a.heap.size a X) : Below a.heap.size a w := h.trans (hc.left.mono h.size)
theorem bel_cells {a w : World} {b o : Nat} {vs : List Value} (hb : a.heap.size ≤ b) (h : Below a.heap.size a w) : Below a.heap.size a (w.setCells b o vs) := by
  revert o w
  induction vs with
  | nil => intro w o h; exact h
  | cons v vs ih => intro w o h; exact ih (h.setCell (p := ⟨b, o, none⟩) hb v)
theorem there_of {w : World} {b n : Nat} {Z : Array Value} {T : TypeId} (hr : RowC w b Z T) (hn : n ≤ Z.size) : w.there b 0 n := fun j hj => by
  rw [Nat.zero_add]
  refine ⟨?_, hr.frozen j⟩
  rw [hr.cell j (Z[j]'(by omega)) (Array.getElem?_eq_getElem (by omega))]
  rfl
theorem pair8 {X : World} {b c : Nat} {D E : List Value} (hb : RowC X b z64 49) (hc : RowC X c z64 49) (hD : D.length = 64) (hE : E.length = 64) :
    X.there b 0 D.length ∧ X.there b 0 E.length ∧ X.there c 0 D.length ∧ X.there c 0 E.length ∧ (X.setCells c 0 E).there b 0 D.length ∧ (X.setCells c 0 D).there b 0 E.length ∧ (X.setCells b 0 E).there c 0 D.length ∧ (X.setCells b 0 D).there c 0 E.length :=
  ⟨there_of hb (Nat.le_of_eq hD), there_of hb (Nat.le_of_eq hE), there_of hc (Nat.le_of_eq hD), there_of hc (Nat.le_of_eq hE), World.there_setCells (there_of hb (Nat.le_of_eq hD)) _ _ _, World.there_setCells (there_of hb (Nat.le_of_eq hE)) _ _ _, World.there_setCells (there_of hc (Nat.le_of_eq hD)) _ _ _, World.there_setCells (there_of hc (Nat.le_of_eq hE)) _ _ _⟩
/-- What two stores leave. -/
theorem two_rows {X : World} {b c : Nat} {D E : List Value} (hb : X.there b 0 D.length) (hc : X.there c 0 E.length) (hne : b ≠ c) :
    (∀ (j : Nat) v, D[j]? = some v → ((X.setCells b 0 D).setCells c 0 E).cell? ⟨b, j, none⟩ = some v) ∧ (∀ (j : Nat) v, E[j]? = some v → ((X.setCells b 0 D).setCells c 0 E).cell? ⟨c, j, none⟩ = some v) := by
  have h1 := World.rangeAt_setCells_same X b 0 D hb
  have h2 := World.rangeAt_setCells_apart h1 c 0 E (.inl hne)
  have h3 := World.rangeAt_setCells_same (X.setCells b 0 D) c 0 E (World.there_setCells hc b 0 D)
  refine ⟨fun j v hv => ?_, fun j v hv => ?_⟩
  · have := h2 j v hv
    rw [Nat.zero_add] at this
    exact this
  · have := h3 j v hv
    rw [Nat.zero_add] at this
    exact this
theorem row_drew {w : World} {b : Nat} {D : Array Value} {T : TypeId} (h : RowC w b D T) : RowC w.drew b D T := h
theorem row_call {X w : World} {b : Nat} {D : Array Value} {T : TypeId} (hc : CallB X w) (h : RowC X b D T) : RowC w b D T := h.below hc.left h.lt
theorem rec_turn (r : RV) (i k : Nat) (hi : i < 9) (h1 : atF i ≤ k) (h2 : k < atF (i + 1)) : recB r false k = recB r true (atF i + atF (i + 1) - 1 - k) := by
  by_cases h0 : i = 0
  · subst h0
    have e1 : atF 0 = 0 := rfl
    have e2 : atF (0 + 1) = 4 := rfl
    rw [e1] at h1 ⊢
    rw [e2] at h2 ⊢
    unfold recB
    rw [if_pos (by omega), if_pos (by omega), wb_turn 4 r.n k h2]
  · by_cases h0' : i = 1
    · subst h0'
      have e1 : atF 1 = 4 := rfl
      have e2 : atF (1 + 1) = 8 := rfl
      rw [e1] at h1 ⊢
      rw [e2] at h2 ⊢
      unfold recB
      rw [if_neg (by omega), if_pos (by omega), if_neg (by omega), if_pos (by omega), wb_turn 4 r.a (k - 4) (by omega)]
      congr 1
      omega
    · by_cases h0'' : i = 2
      · subst h0''
        have e1 : atF 2 = 8 := rfl
        have e2 : atF (2 + 1) = 16 := rfl
        rw [e1] at h1 ⊢
        rw [e2] at h2 ⊢
        unfold recB
        rw [if_neg (by omega), if_neg (by omega), if_pos (by omega), if_neg (by omega), if_neg (by omega), if_pos (by omega), wb_turn 8 r.p (k - 8) (by omega)]
        congr 1
        omega
      · have e1 : atF i = 16 + 8 * (i - 3) := by unfold atF; rw [if_neg (by omega)]; omega
        have e2 : atF (i + 1) = 16 + 8 * (i - 3) + 8 := by unfold atF; rw [if_neg (by omega)]; omega
        rw [e1] at h1 ⊢
        rw [e2] at h2 ⊢
        rw [recB_arg r false (i - 3) k h1 h2, recB_arg r true (i - 3) _ (by omega) (by omega), wb_turn 8 _ (k - (16 + 8 * (i - 3))) (by omega)]
        congr 1
        omega
theorem atF_mono (i : Nat) : atF i ≤ atF (i + 1) := by unfold atF; split <;> split <;> omega
theorem atF_le (i : Nat) (h : i ≤ 9) : atF i ≤ 64 := by unfold atF; split <;> omega

set_option maxRecDepth 100000 in
set_option maxHeartbeats 8000000 in
theorem walk_DataTurns {w0 : World} (r : RV) (hr : r.ok) :
    Calls Try.prog 9 #[.agg (rcells r)] w0 fun e w' => e = .returned (.bool true) ∧ Below w0.heap.size w0 w' := by
  obtain ⟨D1, hD1⟩ : ∃ D, arrB 64 (recB r false) = D := ⟨_, rfl⟩
  obtain ⟨D2, hD2⟩ : ∃ D, arrB 64 (recB r true) = D := ⟨_, rfl⟩
  have hw1 := write5_any r hr false
  have hw2 := write5_any r hr true
  rw [hD1] at hw1
  rw [hD2] at hw2
  have HW1 := Lib.hid hw1
  have HW2 := Lib.hid hw2
  have HD1 := Lib.hid hD1
  have HD2 := Lib.hid hD2
  have c1 : RcB (w0.alloc (.cells (rcells r) 48)) w0.heap.size 48 r := heap_alloc_last w0 _
  have hb0 : Below w0.heap.size w0 (w0.alloc (.cells (rcells r) 48)) := (Below.refl _ _).alloc (Nat.le_refl _) _
  have hz : (w0.alloc (.cells (rcells r) 48)).heap.size = w0.heap.size + 1 := by simp
  have h1 : D1.all (·.oneCell') = true := by rw [← hD1]; exact arrB_one 64 _
  have h2 : D2.all (·.oneCell') = true := by rw [← hD2]; exact arrB_one 64 _
  have u1 : ∀ v ∈ D1.toList, v.oneCell' = true := fun v hv => Array.all_eq_true_iff_forall_mem.1 h1 v (by simpa using hv)
  have u2 : ∀ v ∈ D2.toList, v.oneCell' = true := fun v hv => Array.all_eq_true_iff_forall_mem.1 h2 v (by simpa using hv)
  have l1 : D1.toList.length = 64 := by rw [← hD1]; simp [arrB]
  have l2 : D2.toList.length = 64 := by rw [← hD2]; simp [arrB]
  have u3 : Option.map (fun x => x.size) (Try.prog.info? 49) = some D1.toList.length := by rw [l1]; kernel_rfl
  have u4 : Option.map (fun x => x.size) (Try.prog.info? 49) = some D2.toList.length := by rw [l2]; kernel_rfl
  have HL12 := Lib.hid (And.intro l1 l2)
  clear hD1 hD2 hw1 hw2 hr l1 l2 h1 h2
  have HOF1 : Hid (∀ W, Calls Try.prog 19 #[.agg #[.int .u32 r.n, .int .u32 r.a, .int .u64 r.p, .int .u64 (r.q 0), .int .u64 (r.q 1), .int .u64 (r.q 2), .int .u64 (r.q 3), .int .u64 (r.q 4), .int .u64 (r.q 5)]] W fun e w' => e = .returned (.agg (rcells r)) ∧ Below W.heap.size W w') := Lib.hid fun W => of5_any r W
  unfold rcells at c1 hb0 hz ⊢
  go_enter Try.func9, Try.ntmps9
  go_wp2_with fail
  generalize w0.alloc (.cells #[.int .u32 r.n, .int .u32 r.a, .int .u64 r.p, .int .u64 (r.q 0), .int .u64 (r.q 1), .int .u64 (r.q 2), .int .u64 (r.q 3), .int .u64 (r.q 4), .int .u64 (r.q 5)] 48) = W1 at *
  have hS : Hid (∀ W, Below W1.heap.size W1 W → W.cell? ⟨w0.heap.size, 0, none⟩ = some (.int .u32 r.n) ∧ W.cell? ⟨w0.heap.size, 1, none⟩ = some (.int .u32 r.a) ∧ W.cell? ⟨w0.heap.size, 2, none⟩ = some (.int .u64 r.p) ∧ W.cell? ⟨w0.heap.size, 3, none⟩ = some (.int .u64 (r.q 0)) ∧ W.cell? ⟨w0.heap.size, 4, none⟩ = some (.int .u64 (r.q 1)) ∧ W.cell? ⟨w0.heap.size, 5, none⟩ = some (.int .u64 (r.q 2)) ∧ W.cell? ⟨w0.heap.size, 6, none⟩ = some (.int .u64 (r.q 3)) ∧ W.cell? ⟨w0.heap.size, 7, none⟩ = some (.int .u64 (r.q 4)) ∧ W.cell? ⟨w0.heap.size, 8, none⟩ = some (.int .u64 (r.q 5))) := Lib.hid fun W hW => by
    have d1 : RcB W w0.heap.size 48 r := (show RcB W1 w0.heap.size 48 r from c1).below hW (by omega)
    exact ⟨d1.cell 0 _ rfl, d1.cell 1 _ rfl, d1.cell 2 _ rfl, d1.cell 3 _ rfl, d1.cell 4 _ rfl, d1.cell 5 _ rfl, d1.cell 6 _ rfl, d1.cell 7 _ rfl, d1.cell 8 _ rfl⟩
  have hk0 : Below W1.heap.size W1 W1.drew := (Below.refl _ W1).drew
  have HZ := Lib.hid hz
  clear c1 hz
  go_cut [3, 4] from 8 to 13 (fun u v wx => ∃ b c, u = .pointer (some ⟨b, 0, none⟩) ∧ v = .pointer (some ⟨c, 0, none⟩) ∧ ((∀ (j : Nat) x, D1.toList[j]? = some x → wx.cell? ⟨b, j, none⟩ = some x) ∧ (∀ (j : Nat) x, D2.toList[j]? = some x → wx.cell? ⟨c, j, none⟩ = some x)) ∧ Below W1.heap.size W1 wx)
  case first =>
    rename_i J1 K1 hJ1 hK1
    go_region_held3 (fun w' => w'.cell? ⟨w0.heap.size, 0, none⟩ = some (.int .u32 r.n) ∧ w'.cell? ⟨w0.heap.size, 1, none⟩ = some (.int .u32 r.a) ∧ w'.cell? ⟨w0.heap.size, 2, none⟩ = some (.int .u64 r.p) ∧ w'.cell? ⟨w0.heap.size, 3, none⟩ = some (.int .u64 (r.q 0)) ∧ w'.cell? ⟨w0.heap.size, 4, none⟩ = some (.int .u64 (r.q 1)) ∧ w'.cell? ⟨w0.heap.size, 5, none⟩ = some (.int .u64 (r.q 2)) ∧ w'.cell? ⟨w0.heap.size, 6, none⟩ = some (.int .u64 (r.q 3)) ∧ w'.cell? ⟨w0.heap.size, 7, none⟩ = some (.int .u64 (r.q 4)) ∧ w'.cell? ⟨w0.heap.size, 8, none⟩ = some (.int .u64 (r.q 5)))
      (first
        | exact hS.out _ (by (repeat (first | (with_reducible assumption) | exact Below.refl _ _ | (with_reducible apply bel_drew) | (with_reducible apply bel_alloc) | (apply bel_call (by with_reducible assumption)) | (with_reducible apply bel_cells (by omega)))))
        | assumption
        | go_keep)
      (first
        | (go_at_call 19
           have hk3' := hk3
           (with_reducible refine (HOF1.out _).mono ?_)
           rintro e w4 ⟨rfl, hB4⟩
           have hc4 : CallB _ w4 := ⟨hB4⟩
           have hk4 : Below W1.heap.size W1 w4 := by (repeat (first | (with_reducible assumption) | exact Below.refl _ _ | (with_reducible apply bel_drew) | (with_reducible apply bel_alloc) | (apply bel_call (by with_reducible assumption)) | (with_reducible apply bel_cells (by omega))))
           have hz4 := hk4.size
           have hy4 := hB4.size
           try simp at hy4)
        | (go_at_call 19
           (with_reducible refine (HOF1.out _).mono ?_)
           rintro e w2 ⟨rfl, hB2⟩
           have hc2 : CallB _ w2 := ⟨hB2⟩
           have hk2 : Below W1.heap.size W1 w2 := by (repeat (first | (with_reducible assumption) | exact Below.refl _ _ | (with_reducible apply bel_drew) | (with_reducible apply bel_alloc) | (apply bel_call (by with_reducible assumption)) | (with_reducible apply bel_cells (by omega))))
           have hz2 := hk2.size
           have hy2 := hB2.size
           try simp at hy2)
        | (go_at_call 18
           (with_reducible refine (HW1.out _).mono ?_)
           rintro e w3 ⟨rfl, hB3⟩
           have hc3 : CallB _ w3 := ⟨hB3⟩
           have hk3 : Below W1.heap.size W1 w3 := by (repeat (first | (with_reducible assumption) | exact Below.refl _ _ | (with_reducible apply bel_drew) | (with_reducible apply bel_alloc) | (apply bel_call (by with_reducible assumption)) | (with_reducible apply bel_cells (by omega))))
           have hz3 := hk3.size
           have hy3 := hB3.size
           try simp at hy3)
        | (go_at_call 18
           (with_reducible refine (HW2.out _).mono ?_)
           rintro e w5 ⟨rfl, hB5⟩
           have hc5 : CallB _ w5 := ⟨hB5⟩
           have hk5 : Below W1.heap.size W1 w5 := by (repeat (first | (with_reducible assumption) | exact Below.refl _ _ | (with_reducible apply bel_drew) | (with_reducible apply bel_alloc) | (apply bel_call (by with_reducible assumption)) | (with_reducible apply bel_cells (by omega))))
           have hz5 := hk5.size
           have hy5 := hB5.size
           try simp at hy5
           first | (refine (fun (r0 : RowC w5 W1.heap.size z64 49) => ?_) ?_; rotate_left; · (repeat (first | (with_reducible assumption) | (refine RowC.new _ _ _ _ ?_; first | rfl | (simp; done)) | (with_reducible apply row_drew) | (with_reducible apply RowC.alloc) | (apply row_call (by with_reducible assumption))))) | skip
           first | (refine (fun (r1 : RowC w5 (W1.heap.size + 1) z64 49) => ?_) ?_; rotate_left; · (repeat (first | (with_reducible assumption) | (refine RowC.new _ _ _ _ ?_; first | rfl | (simp; done)) | (with_reducible apply row_drew) | (with_reducible apply RowC.alloc) | (apply row_call (by with_reducible assumption))))) | skip
           first | (refine (fun (r2 : RowC w5 w2.heap.size z64 49) => ?_) ?_; rotate_left; · (repeat (first | (with_reducible assumption) | (refine RowC.new _ _ _ _ ?_; first | rfl | (simp; done)) | (with_reducible apply row_drew) | (with_reducible apply RowC.alloc) | (apply row_call (by with_reducible assumption))))) | skip
           first | (refine (fun (r3 : RowC w5 (w2.heap.size + 1) z64 49) => ?_) ?_; rotate_left; · (repeat (first | (with_reducible assumption) | (refine RowC.new _ _ _ _ ?_; first | rfl | (simp; done)) | (with_reducible apply row_drew) | (with_reducible apply RowC.alloc) | (apply row_call (by with_reducible assumption))))) | skip
           first | (refine (fun (r4 : RowC w5 w3.heap.size z64 49) => ?_) ?_; rotate_left; · (repeat (first | (with_reducible assumption) | (refine RowC.new _ _ _ _ ?_; first | rfl | (simp; done)) | (with_reducible apply row_drew) | (with_reducible apply RowC.alloc) | (apply row_call (by with_reducible assumption))))) | skip
           first | (refine (fun (r5 : RowC w5 (w3.heap.size + 1) z64 49) => ?_) ?_; rotate_left; · (repeat (first | (with_reducible assumption) | (refine RowC.new _ _ _ _ ?_; first | rfl | (simp; done)) | (with_reducible apply row_drew) | (with_reducible apply RowC.alloc) | (apply row_call (by with_reducible assumption))))) | skip
           first | (refine (fun (r6 : RowC w5 w4.heap.size z64 49) => ?_) ?_; rotate_left; · (repeat (first | (with_reducible assumption) | (refine RowC.new _ _ _ _ ?_; first | rfl | (simp; done)) | (with_reducible apply row_drew) | (with_reducible apply RowC.alloc) | (apply row_call (by with_reducible assumption))))) | skip
           first | (refine (fun (r7 : RowC w5 (w4.heap.size + 1) z64 49) => ?_) ?_; rotate_left; · (repeat (first | (with_reducible assumption) | (refine RowC.new _ _ _ _ ?_; first | rfl | (simp; done)) | (with_reducible apply row_drew) | (with_reducible apply RowC.alloc) | (apply row_call (by with_reducible assumption))))) | skip
           first | (have hp := pair8 (X := ((w5.alloc (.cells z64 49)).alloc (.cells z64 49))) (b := w5.heap.size) (c := (w5.heap.size + 1)) (D := D1.toList) (E := D2.toList) (RowC.alloc (RowC.new w5 z64 49 _ rfl) _) (RowC.new (w5.alloc (.cells z64 49)) z64 49 _ (by simp)) HL12.out.1 HL12.out.2; obtain ⟨fA0, fA1, fA2, fA3, fA4, fA5, fA6, fA7⟩ := hp) | skip
           first | (have hp := pair8 (X := (w5.alloc (.cells z64 49))) (b := W1.heap.size) (c := w5.heap.size) (D := D1.toList) (E := D2.toList) (RowC.alloc r0 _) (RowC.new w5 z64 49 _ rfl) HL12.out.1 HL12.out.2; obtain ⟨fB0_0, fB0_1, fB0_2, fB0_3, fB0_4, fB0_5, fB0_6, fB0_7⟩ := hp) | skip
           first | (have hp := pair8 (X := (w5.alloc (.cells z64 49))) (b := w2.heap.size) (c := w5.heap.size) (D := D1.toList) (E := D2.toList) (RowC.alloc r2 _) (RowC.new w5 z64 49 _ rfl) HL12.out.1 HL12.out.2; obtain ⟨fB2_0, fB2_1, fB2_2, fB2_3, fB2_4, fB2_5, fB2_6, fB2_7⟩ := hp) | skip
           first | (have hp := pair8 (X := (w5.alloc (.cells z64 49))) (b := w3.heap.size) (c := w5.heap.size) (D := D1.toList) (E := D2.toList) (RowC.alloc r4 _) (RowC.new w5 z64 49 _ rfl) HL12.out.1 HL12.out.2; obtain ⟨fB4_0, fB4_1, fB4_2, fB4_3, fB4_4, fB4_5, fB4_6, fB4_7⟩ := hp) | skip
           first | (have hp := pair8 (X := (w5.alloc (.cells z64 49))) (b := w4.heap.size) (c := w5.heap.size) (D := D1.toList) (E := D2.toList) (RowC.alloc r6 _) (RowC.new w5 z64 49 _ rfl) HL12.out.1 HL12.out.2; obtain ⟨fB6_0, fB6_1, fB6_2, fB6_3, fB6_4, fB6_5, fB6_6, fB6_7⟩ := hp) | skip
           first | (have hp := pair8 (X := w5) (b := W1.heap.size) (c := (W1.heap.size + 1)) (D := D1.toList) (E := D2.toList) r0 r1 HL12.out.1 HL12.out.2; obtain ⟨fC01_0, fC01_1, fC01_2, fC01_3, fC01_4, fC01_5, fC01_6, fC01_7⟩ := hp) | skip
           first | (have hp := pair8 (X := w5) (b := W1.heap.size) (c := w2.heap.size) (D := D1.toList) (E := D2.toList) r0 r2 HL12.out.1 HL12.out.2; obtain ⟨fC02_0, fC02_1, fC02_2, fC02_3, fC02_4, fC02_5, fC02_6, fC02_7⟩ := hp) | skip
           first | (have hp := pair8 (X := w5) (b := W1.heap.size) (c := w3.heap.size) (D := D1.toList) (E := D2.toList) r0 r4 HL12.out.1 HL12.out.2; obtain ⟨fC04_0, fC04_1, fC04_2, fC04_3, fC04_4, fC04_5, fC04_6, fC04_7⟩ := hp) | skip
           first | (have hp := pair8 (X := w5) (b := W1.heap.size) (c := w4.heap.size) (D := D1.toList) (E := D2.toList) r0 r6 HL12.out.1 HL12.out.2; obtain ⟨fC06_0, fC06_1, fC06_2, fC06_3, fC06_4, fC06_5, fC06_6, fC06_7⟩ := hp) | skip
           first | (have hp := pair8 (X := w5) (b := w2.heap.size) (c := (w2.heap.size + 1)) (D := D1.toList) (E := D2.toList) r2 r3 HL12.out.1 HL12.out.2; obtain ⟨fC23_0, fC23_1, fC23_2, fC23_3, fC23_4, fC23_5, fC23_6, fC23_7⟩ := hp) | skip
           first | (have hp := pair8 (X := w5) (b := w2.heap.size) (c := w3.heap.size) (D := D1.toList) (E := D2.toList) r2 r4 HL12.out.1 HL12.out.2; obtain ⟨fC24_0, fC24_1, fC24_2, fC24_3, fC24_4, fC24_5, fC24_6, fC24_7⟩ := hp) | skip
           first | (have hp := pair8 (X := w5) (b := w2.heap.size) (c := w4.heap.size) (D := D1.toList) (E := D2.toList) r2 r6 HL12.out.1 HL12.out.2; obtain ⟨fC26_0, fC26_1, fC26_2, fC26_3, fC26_4, fC26_5, fC26_6, fC26_7⟩ := hp) | skip
           first | (have hp := pair8 (X := w5) (b := w3.heap.size) (c := (w3.heap.size + 1)) (D := D1.toList) (E := D2.toList) r4 r5 HL12.out.1 HL12.out.2; obtain ⟨fC45_0, fC45_1, fC45_2, fC45_3, fC45_4, fC45_5, fC45_6, fC45_7⟩ := hp) | skip
           first | (have hp := pair8 (X := w5) (b := w3.heap.size) (c := w4.heap.size) (D := D1.toList) (E := D2.toList) r4 r6 HL12.out.1 HL12.out.2; obtain ⟨fC46_0, fC46_1, fC46_2, fC46_3, fC46_4, fC46_5, fC46_6, fC46_7⟩ := hp) | skip
           first | (have hp := pair8 (X := w5) (b := w4.heap.size) (c := (w4.heap.size + 1)) (D := D1.toList) (E := D2.toList) r6 r7 HL12.out.1 HL12.out.2; obtain ⟨fC67_0, fC67_1, fC67_2, fC67_3, fC67_4, fC67_5, fC67_6, fC67_7⟩ := hp) | skip
           skip))
    all_goals
      refine hK1 _ _ (Met.intro (hJ1 _ _ ?_))
      repeat apply Exists.intro
      refine ⟨?_, rfl⟩
      refine ⟨_, _, rfl, rfl, ?_, ?_⟩
    all_goals first
      | (with_reducible refine two_rows ?_ ?_ ?_) <;> first | assumption | omega
      | (repeat (first | (with_reducible assumption) | exact Below.refl _ _ | (with_reducible apply bel_drew) | (with_reducible apply bel_alloc) | (apply bel_call (by with_reducible assumption)) | (with_reducible apply bel_cells (by omega))))
  case rest =>
    obtain ⟨b, c, rfl, rfl, ⟨hDb, hEc⟩, hB⟩ := hcut
    have f1 : ∀ j, j < 64 → wc.cell? ⟨b, j, none⟩ = some (bv (recB r false j)) := fun j hj => hDb j _ (by rw [← HD1.out, Array.getElem?_toList, arrB_get _ _ _ hj])
    have f2 : ∀ j, j < 64 → wc.cell? ⟨c, j, none⟩ = some (bv (recB r true j)) := fun j hj => hEc j _ (by rw [← HD2.out, Array.getElem?_toList, arrB_get _ _ _ hj])
    have hb1 := hb0.trans (hB.mono hb0.size)
    clear hDb hEc hB HW1 HW2 HOF1 HL12 hS HZ hk0 hb0 u1 u2 HD1 HD2 u3 u4
    go_wp2_with fail
    have hrow := RowC.new wc #[.int .i64 0, .int .i64 4, .int .i64 8, .int .i64 16, .int .i64 24, .int .i64 32, .int .i64 40, .int .i64 48, .int .i64 56, .int .i64 64] 3 _ rfl
    have hba : Below wc.heap.size wc (wc.alloc (.cells #[.int .i64 0, .int .i64 4, .int .i64 8, .int .i64 16, .int .i64 24, .int .i64 32, .int .i64 40, .int .i64 48, .int .i64 56, .int .i64 64] 3)) := (Below.refl _ _).alloc (Nat.le_refl _) _
    have hl : wc.heap.size < (wc.alloc (.cells #[.int .i64 0, .int .i64 4, .int .i64 8, .int .i64 16, .int .i64 24, .int .i64 32, .int .i64 40, .int .i64 48, .int .i64 56, .int .i64 64] 3)).heap.size := by simp
    generalize wc.alloc (.cells #[.int .i64 0, .int .i64 4, .int .i64 8, .int .i64 16, .int .i64 24, .int .i64 32, .int .i64 40, .int .i64 48, .int .i64 56, .int .i64 64] 3) = W2 at *
    obtain ⟨a, ha⟩ : ∃ a, wc.heap.size = a := ⟨_, rfl⟩
    have f3 : ∀ j : Nat, j < 10 → W2.cell? ⟨wc.heap.size, j, none⟩ = some (.int .i64 (atF j : Nat)) := fun j hj => by
      have h : j = 0 ∨ j = 1 ∨ j = 2 ∨ j = 3 ∨ j = 4 ∨ j = 5 ∨ j = 6 ∨ j = 7 ∨ j = 8 ∨ j = 9 := by omega
      rcases h with rfl | rfl | rfl | rfl | rfl | rfl | rfl | rfl | rfl | rfl
      · exact hrow.cell 0 _ rfl
      · exact hrow.cell 1 _ rfl
      · exact hrow.cell 2 _ rfl
      · exact hrow.cell 3 _ rfl
      · exact hrow.cell 4 _ rfl
      · exact hrow.cell 5 _ rfl
      · exact hrow.cell 6 _ rfl
      · exact hrow.cell 7 _ rfl
      · exact hrow.cell 8 _ rfl
      · exact hrow.cell 9 _ rfl
    have g1 : ∀ j, j < 64 → W2.cell? ⟨b, j, none⟩ = some (bv (recB r false j)) := fun j hj => cell_later hba (f1 j hj)
    have g2 : ∀ j, j < 64 → W2.cell? ⟨c, j, none⟩ = some (bv (recB r true j)) := fun j hj => cell_later hba (f2 j hj)
    have hb2 := hb1.trans (hba.mono hb1.size)
    rw [ha] at f3 ⊢
    have F3 := Lib.hid f3
    have G1 := Lib.hid g1
    have G2 := Lib.hid g2
    have HB2 := Lib.hid hb2
    clear f1 f2 f3 g1 g2 hb1 hb2 hba hrow hl ha
    go_loopw [6] (fun i wr => ∃ k : Nat, k ≤ 9 ∧ i = .int .i64 k ∧ Below W2.heap.size W2 wr) (fun i _ => 9 - (intOf i).toNat)
    case atStart => exact ⟨0, by omega, rfl, Below.refl _ _⟩
    case round =>
      obtain ⟨k, hk, rfl, hB⟩ := hrel
      by_cases h9 : k = 9
      · subst h9
        clear hk
        have HB := Lib.hid hB
        clear hB
        go_wp2_with (refine (awake5_any _).mono ?_; rintro e w1 ⟨rfl, rfl⟩)
        go_ret
        exact ⟨rfl, HB2.out.trans (HB.out.mono HB2.out.size)⟩
      · have hk9 : (k : Int) < 9 := by omega
        have hk8 : k < 9 := by omega
        obtain ⟨p, hp⟩ : ∃ p, atF k = p := ⟨_, rfl⟩
        obtain ⟨q, hq⟩ : ∃ q, atF (k + 1) = q := ⟨_, rfl⟩
        have x0 : wr.cell? ⟨a, k, none⟩ = some (.int .i64 (p : Nat)) := by rw [← hp]; exact cell_later hB (F3.out k (by omega))
        have hpq : p ≤ q := by rw [← hp, ← hq]; exact atF_mono k
        have hq64 : q ≤ 64 := by rw [← hq]; exact atF_le _ (by omega)
        have HP := Lib.hid hp
        have HQ := Lib.hid hq
        have HB := Lib.hid hB
        clear hp hq hB h9 hk
        go_wp2_with fail
        go_loopw [7] (fun v wx => ∃ j : Nat, p ≤ j ∧ j ≤ q ∧ v = .int .i64 j ∧ Below W2.heap.size W2 wx) (fun v _ => q - (intOf v).toNat)
        case atStart => exact ⟨p, Nat.le_refl _, hpq, rfl, HB.out⟩
        case round =>
          obtain ⟨j, hj1, hj2, rfl, hBj⟩ := hrel
          have HBj := Lib.hid hBj
          have y0 : wr.cell? ⟨a, k, none⟩ = some (.int .i64 (p : Nat)) := by rw [← HP.out]; exact cell_later hBj (F3.out k (by omega))
          have y1 : wr.cell? ⟨a, k + 1, none⟩ = some (.int .i64 (q : Nat)) := by rw [← HQ.out]; exact cell_later hBj (F3.out (k + 1) (by omega))
          clear x0
          by_cases hlt : j < q
          · have hjq : (j : Int) < (q : Int) := by omega
            obtain ⟨v, hv⟩ : ∃ v, recB r false j = v := ⟨_, rfl⟩
            have hvv : recB r true (p + q - 1 - j) = v := by
              rw [← hv, ← HP.out, ← HQ.out]
              exact (rec_turn r k j hk8 (by rw [HP.out]; exact hj1) (by rw [HQ.out]; exact hlt)).symm
            have z0 : wr.cell? ⟨b, j, none⟩ = some (bv v) := by rw [← hv]; exact cell_later hBj (G1.out j (by omega))
            obtain ⟨m, hm⟩ : ∃ m, p + q - 1 - j = m := ⟨_, rfl⟩
            have hmi : (p : Int) + (q : Int) - 1 - (j : Int) = (m : Int) := by omega
            have hm6 : (m : Int) < 64 := by omega
            have hj6 : (j : Int) < 64 := by omega
            rw [hm] at hvv
            have z1 : wr.cell? ⟨c, m, none⟩ = some (bv v) := by rw [← hvv]; exact cell_later hBj (G2.out _ (by omega))
            have hpq2 : (p : Int) + (q : Int) ≤ 128 := by omega
            have hHm := Lib.hid hm
            clear hv hvv hBj hm
            go_wp2_with fail
            go_quiet (fail)
            go_wp2_with fail
            exact ⟨⟨j + 1, by omega, by omega, by go_num, bdn HBj.out nq⟩, by simp [intOf]; omega⟩
          · obtain rfl : j = q := by omega
            have hqq : ¬ (j : Int) < (j : Int) := by omega
            clear hlt hBj
            go_wp2_with fail
            exact ⟨⟨k + 1, by omega, by go_num, HBj.out⟩, by simp [intOf]; omega⟩

namespace dataTurnsRow
open Go.ChangeShapes Go.WideShapes Go.ChangeAt Go.RowKit Go.Joins
open Go.ChangeMaps (open_string shut_string)
set_option linter.unusedVariables false
theorem own : ownKnob Try.prog.godebug = none := by kernel_rfl
theorem laidOut : laidOutB Try.prog = true := by kernel_rfl
set_option maxRecDepth 100000 in
theorem lifted (os : Os) (started : os.Started) (H : Type) (enc : TypeId × Value → H) :
    ReturnsInHanded {} Try.checked os 9 .any (Rows.dataTurnsSpec.pre6 enc Try.prog Try.f9 Rows.dataTurnsRow.domain false) (Rows.dataTurnsSpec.post enc Try.prog Try.f9 false true false false) := by
  refine returnsInHanded_of_change (C := Try.checked) own started (by kernel_rfl) Try.func9
    (ChangeSpec.witness6 (enc := enc) (C := Try.checked) false ⟨#[], #[.agg #[.int .u32 0, .int .u32 0, .int .u64 0, .int .u64 0, .int .u64 0, .int .u64 0, .int .u64 0, .int .u64 0, .int .u64 0]], []⟩ 8 (by kernel_rfl) (by kernel_rfl) (by kernel_rfl) (by kernel_rfl)) ?_
  intro W base args ds gs before hval0 hW hcnd _
  have hval : ∀ (j : Nat) t v, Try.f9.params[j]? = some t → args[j]? = some v → Value.okWide Try.prog W .any base t v := hval0
  have hW' := hW
  obtain ⟨p, q, hA0, hV, rfl, hfz, hnd⟩ := hW
  have hA : DataW.TrodAll enc Try.prog W 0 (fun _ => true) true Try.f9.params.toList args.toList ds p := hA0
  rw [Try.params9] at hA hval
  obtain ⟨v0, vs0, d0, ds0, p0, q0, hargs, rfl, rfl, h0, r0⟩ := trodAll_cons hA
  obtain ⟨rfl, rfl, rfl⟩ := trodAll_nil r0
  obtain rfl : args = #[v0] := by cases args; simp_all
  obtain ⟨rfl, rfl⟩ := trodVars_none hV
  have k0 := h0
  have lt0 : ∀ x ∈ p0, x.block < W.heap.size := by obtain ⟨m, hm⟩ := k0; exact DataW.trod_lt m _ _ _ hm
  obtain ⟨g0, rfl, w0⟩ := open_rec (hval 0 48 v0 rfl rfl) h0
  clear hA0 hval0
  refine (walk_DataTurns (w0 := W) g0 w0).mono fun e W' ⟨he, bel⟩ => ?_
  subst he
  exact ⟨_, rfl, _, _, _, [], _, [], hW', trodAll_mk1 (shut_bool Try.underlying4 _), (trodAll_cons_mk (Below.trod laidOut (by kernel_rfl) (of_decide_eq_true (by kernel_rfl)) k0 bel lt0) trodAll_mk0), rfl, bel.frame _, fun h => by cases h⟩

theorem over : Rows.dataTurnsRow.holds Try.pinned (OpenSpec.ofChange Rows.dataTurnsSpec) :=
  OpenClaim.holds_of_wide 9 Try.f9 rfl rfl rfl rfl rfl rfl rfl ⟨rfl, rfl, rfl, rfl, rfl⟩ rfl rfl rfl rfl rfl (by kernel_rfl) Try.func9 (by kernel_rfl)
    (of_decide_eq_true (by kernel_rfl)) (by unfold Func.isWrapper; first | (rw [if_pos (by decide +kernel)]; kernel_rfl) | (rw [if_neg (by decide +kernel)]; exact ⟨rfl, rfl⟩))
    (fun os started H enc _ => lifted os started H enc)
end dataTurnsRow

theorem dataTurns_proved : Rows.DataTurnsSaid := dataTurnsRow.over
#print axioms dataTurns_proved
end Go.Proofs.Ytieebnninhbdoaa
