/-
  The law PathsTaken holds for every input: whether any bytes take any path. No condition.
-/
import Derived.Test.YtgndfcjfajnemaaWyu
import Derived.Test.YtgndfcjfajnemaaApA
import Derived.Test.YtgndfcjfajnemaaRows
import Derived.Below
import Derived.ChangeOld
import Derived.ShutString
import Derived.OpenShut
import Derived.ProofKit
namespace Go.Proofs.Ytgndfcjfajnemaa
open Go.RowKit Go.Shelf
set_option linter.unusedVariables false

theorem infoTs : (Try.prog.info? 49).map (fun i => (i.zero, i.size, i.bytes)) = some (some (.agg #[.int .i64 0, .int .u32 0, .int .i64 0, .int .u32 0, .bool false]), 5, 32) := by kernel_rfl
/-- Is a test of a word that is there, of a branch's kind? -/
def thr (x : TV) : Bool := decide (0 ≤ x.p) && decide (x.p ≤ 60) && decide (25 ≤ x.d) && decide (x.d ≤ 28)
def allT (b : Bool) (G : Nat → TV) (m : Nat) : Bool := b && (List.range m).all fun i => thr (G i)
theorem allT_succ (b : Bool) (G : Nat → TV) (m : Nat) : allT b G (m + 1) = (allT b G m && thr (G m)) := by unfold allT; rw [List.range_succ, List.all_append, Bool.and_assoc]; simp
theorem one_testb (w : World) (x : TV) (E : TypeId) (b : Nat) (hb : b = w.heap.size) : Cel (w.alloc (.cells #[.int .i64 x.p, .int .u32 x.m, .int .i64 x.d, .int .u32 x.k, .bool x.s] E)) (w.heap.size + 1) 5 (some ⟨b, 0, none⟩) 1 1 (tscell fun _ => x) := by
  subst hb
  exact one_test w x E
theorem own_ne {w : World} {base z n c : Nat} {E : TypeId} {A : Option Addr} {F : Nat → Value} (h : OwnC w base E z A n c F) {b : Nat} (hb : b < base ∨ w.heap.size ≤ b) : some b ≠ (Value.slice A n c).ownBlock := by
  rcases h.2 with ⟨hv, _⟩ | ⟨gg, cap, cur, hv, hg, hh, _⟩
  · rw [hv]; intro e; cases e
  · rw [hv]
    intro e
    have e2 : b = gg := by injection e
    have := (Array.getElem?_eq_some_iff.1 hh).1
    omega
theorem RowC.grown_ {w w' : World} {b : Nat} {cs : Array Value} {T : TypeId} {row : Option Nat} (h : RowC w b cs T) (hg : w.grownBy w' row) (hne : some b ≠ row) : RowC w' b cs T := (hg.block b h.lt hne).trans h
theorem RowC.aside {w : World} {b S : Nat} {cs : Array Value} {T : TypeId} (h : RowC w b cs T) (hne : b ≠ S) (i : Nat) (v : Value) : RowC (w.setCell ⟨S, i, none⟩ v) b cs T := (Below.heap_setCell _ _ _ _ hne).trans h
theorem OwnC.aside {w : World} {base z n c S : Nat} {E : TypeId} {A : Option Addr} {F : Nat → Value} (h : OwnC w base E z A n c F) (hS : S < base) (i : Nat) (v : Value) : OwnC (w.setCell ⟨S, i, none⟩ v) base E z A n c F := by
  obtain ⟨h1, h2⟩ := h
  refine ⟨h1, ?_⟩
  rcases h2 with h2 | ⟨gg, cap, cur, hv, hg, hh, r⟩
  · exact .inl h2
  · exact .inr ⟨gg, cap, cur, hv, hg, (Below.heap_setCell _ _ _ _ (by show gg ≠ S; omega)).trans hh, r⟩
theorem thr_no {x : TV} {f : Nat → Nat} (h : thr x = false) : holdF 64 f x = false := by
  unfold holdF
  by_cases hf : flt ((64 : Nat) : Int) x.p 4 = 0
  · rw [if_pos hf]
    obtain ⟨_, h1, h2⟩ := flt_ok hf
    unfold thr at h
    have h1 : (0 : Int) ≤ x.p := h1
    have h3 : x.p ≤ 60 := by have : x.p ≤ ((64 : Nat) : Int) - 4 := h2; omega
    rw [decide_eq_true h1, decide_eq_true h3] at h
    unfold holdV
    have hd : ¬ (25 ≤ x.d ∧ x.d ≤ 28) := by
      rintro ⟨a, b⟩
      rw [decide_eq_true a, decide_eq_true b] at h
      cases h
    rw [if_neg (by omega), if_neg (by omega), if_neg (by omega), if_neg (by omega)]
  · rw [if_neg hf]
theorem thr_yes {x : TV} (h : thr x = true) : 0 ≤ x.p ∧ x.p ≤ 60 ∧ 25 ≤ x.d ∧ x.d ≤ 28 := by
  unfold thr at h
  simp only [Bool.and_eq_true, decide_eq_true_eq] at h
  exact ⟨h.1.1.1, h.1.1.2, h.1.2, h.2⟩
set_option maxRecDepth 100000 in
set_option maxHeartbeats 16000000 in
theorem walkA_PathsTaken {w0 : World} (HAW : ∀ W, Calls Try.prog 11 #[] W fun e w' => e = .returned (.bool true) ∧ Below W.heap.size W w') (T : Option Addr) (m d : Nat) (G : Nat → TV) (hT : Cel w0 w0.heap.size 5 T m d (tscell G)) (hok : ∀ i, i < m → (G i).ok) (A : Option Addr) (n c : Nat) (f : Nat → Nat) (hby : Byt w0 w0.heap.size A n c f) :
    Calls Try.prog 4 #[.slice T m d, .slice A n c] w0 fun e w' => e = .returned (.bool true) ∧ Below w0.heap.size w0 w' := by
  have HA := Lib.hid HAW
  have HT := Lib.hid hT
  have HOK := Lib.hid hok
  have HBY := Lib.hid hby
  clear HAW hT hok hby
  by_cases h20 : 20 < m
  · have i1 : (m : Int) > 20 := by omega
    go_enter Try.func4, Try.ntmps4
    go_wp2
    go_ret
    exact ⟨rfl, Below.refl _ _⟩
  by_cases h100 : 100 < n
  · have i1 : ¬ (m : Int) > 20 := by omega
    have i2 : (n : Int) > 100 := by omega
    go_enter Try.func4, Try.ntmps4
    go_wp2
    go_ret
    exact ⟨rfl, Below.refl _ _⟩
  have i1 : ¬ (m : Int) > 20 := by omega
  have i2 : ¬ (n : Int) > 100 := by omega
  obtain ⟨b64, hb64⟩ : ∃ b, ((n : Int) == 64) = b := ⟨_, rfl⟩
  have H64 := Lib.hid hb64
  have hr0 : RowC (w0.alloc (.cells #[.slice none 0 0, .int .i64 0, .int .u32 0] 40)) w0.heap.size #[.slice none 0 0, .int .i64 0, .int .u32 0] 40 := RowC.new _ _ _ _ rfl
  have HR0 := Lib.hid hr0
  have HB0 : Hid (Below w0.heap.size w0 (w0.alloc (.cells #[.slice none 0 0, .int .i64 0, .int .u32 0] 40))) := Lib.hid ((Below.refl _ _).alloc (Nat.le_refl _) _)
  clear hr0
  go_enter Try.func4, Try.ntmps4
  go_wp2
  go_loopw [6, 7] (fun b i wr => ∃ (k : Nat) (A' : Option Addr) (c' : Nat), k ≤ m ∧ i = .int .i64 k ∧ b = .bool (allT b64 G k) ∧ Hid (RowC wr w0.heap.size #[.slice A' k c', .int .i64 0, .int .u32 0] 40) ∧ Hid (OwnC wr (w0.heap.size + 1) 49 5 A' k c' (tscell G)) ∧ Below w0.heap.size w0 wr)
    (fun _ i _ => m - (intOf i).toNat)
  case atStart => exact ⟨0, none, 0, Nat.zero_le _, rfl, by simp [allT], HR0, Lib.hid OwnC.nil_, HB0.out⟩
  case round =>
    clear HR0 HB0
    obtain ⟨k, A', c', hk, rfl, rfl, HR, HO, hB⟩ := hrel
    by_cases hlt : k < m
    · obtain ⟨x, hx⟩ : ∃ x, G k = x := ⟨_, rfl⟩
      obtain ⟨b, off, rfl, hb, q0, q1, q2, q3, q4⟩ := ts_at (HT.out.below hB) hlt hx
      have HW := Lib.hid (tscell_cat G k x hx)
      have HAS : Hid (allT b64 G (k + 1) = (allT b64 G k && thr x)) := Lib.hid (by rw [allT_succ, hx])
      have i3 : (0 : Int) ≤ (k : Int) := by omega
      have i4 : (k : Int) < (m : Int) := by omega
      obtain ⟨p, mm, dd, kk, s⟩ := x
      dsimp only at q0 q1 q2 q3 q4
      have hb2 := hB.alloc hB.size (.cells #[.int .i64 p, .int .u32 mm, .int .i64 dd, .int .u32 kk, .bool s] 46)
      have hrt : RowC (wr.alloc (.cells #[.int .i64 p, .int .u32 mm, .int .i64 dd, .int .u32 kk, .bool s] 46)) wr.heap.size #[.int .i64 p, .int .u32 mm, .int .i64 dd, .int .u32 kk, .bool s] 46 := RowC.new _ _ _ _ rfl
      have HRT := Lib.hid hrt
      have HB2 := Lib.hid hb2
      have HR2 := Lib.hid (HR.out.alloc (.cells #[.int .i64 p, .int .u32 mm, .int .i64 dd, .int .u32 kk, .bool s] 46))
      have HO2 := Lib.hid (HO.out.alloc (.cells #[.int .i64 p, .int .u32 mm, .int .i64 dd, .int .u32 kk, .bool s] 46))
      have t0 := hrt.cell 0 _ rfl
      have t1 := hrt.cell 1 _ rfl
      have t2 := hrt.cell 2 _ rfl
      have t3 := hrt.cell 3 _ rfl
      have t4 := hrt.cell 4 _ rfl
      have g0 := HR2.out.cell 0 _ rfl
      have g9 := HR2.out.frozen 0
      have hlt0 := HR.out.lt
      have HS0 : Hid (w0.heap.size < wr.heap.size) := Lib.hid hlt0
      have HNE := Lib.hid (own_ne HO.out (b := wr.heap.size) (.inr (Nat.le_refl _)))
      have HN0 := Lib.hid (own_ne HO.out (b := w0.heap.size) (.inl (Nat.lt_succ_self _)))
      clear hx hb2 hrt HR HO hB hlt0 g0 g9
      have g0 := HR2.out.cell 0 _ rfl
      generalize allT b64 G k = ok at *
      cases ok
      · go_wp2_with (at_builtin; go_must (refine app_cellsA _ rfl _ _ _ 49 rfl Try.underlying38 infoTs rfl (by decide) rfl (HO2.out.alloc _) rfl (one_testb (wr.alloc (.cells #[.int .i64 p, .int .u32 mm, .int .i64 dd, .int .u32 kk, .bool s] 46)) ⟨p, mm, dd, kk, s⟩ 49 (wr.heap.size + 1) (by simp)) (fun i _ => tscell_one _ i) (by unfold maxLen; omega) (by omega) (by have := HB2.out.size; simp at this ⊢; omega) (k + 1) rfl (tscell G) HW.out ?_; rintro A2 c2 w5 hown2 hg5 _; have hrt5 := (HRT.out.alloc (.cells #[.int .i64 p, .int .u32 mm, .int .i64 dd, .int .u32 kk, .bool s] 49)).grown_ hg5 HNE.out; have hr5 := (HR2.out.alloc (.cells #[.int .i64 p, .int .u32 mm, .int .i64 dd, .int .u32 kk, .bool s] 49)).grown_ hg5 HN0.out; have hb5 := ((HB2.out.alloc HB2.out.size (.cells #[.int .i64 p, .int .u32 mm, .int .i64 dd, .int .u32 kk, .bool s] 49))).trans (((Below.refl (w0.heap.size + 1) _).grown hg5 (by have := HS0.out; simp <;> omega) (fun k hk => (World.ownsRow.lt (HO2.out.alloc (.cells #[.int .i64 p, .int .u32 mm, .int .i64 dd, .int .u32 kk, .bool s] 49)) k hk).1)).mono (Nat.le_succ _)); have d0 := hr5.cell 0 _ rfl; have f0 := hr5.frozen 0; have hrt6 := hrt5.aside (S := w0.heap.size) (by have := HS0.out; omega) 0 (.slice A2 (k + 1) c2); have HR6 : Hid (RowC (w5.setCell ⟨w0.heap.size, 0, none⟩ (.slice A2 (k + 1) c2)) w0.heap.size #[.slice A2 (k + 1) c2, .int .i64 0, .int .u32 0] 40) := Lib.hid (hr5.set 0 (.slice A2 (k + 1) c2)); have HO6 := Lib.hid (hown2.aside (S := w0.heap.size) (Nat.lt_succ_self _) 0 (.slice A2 (k + 1) c2)); have HB6 := Lib.hid (hb5.setCell (p := ⟨w0.heap.size, 0, none⟩) (Nat.le_refl _) (.slice A2 (k + 1) c2)); have u0 := hrt6.cell 0 _ rfl; have u2 := hrt6.cell 2 _ rfl; clear hrt5 hr5 hb5 hrt6 hown2 hg5))
        exact ⟨⟨k + 1, A2, c2, by omega, by go_num, by rw [HAS.out]; rfl, HR6, HO6, HB6.out⟩, by simp [intOf]; omega⟩
      · by_cases c1 : 0 ≤ p
        · have c1T := decide_eq_true c1
          by_cases c2 : p ≤ 60
          · have c2T := decide_eq_true c2
            by_cases c3 : 25 ≤ dd
            · have c3T := decide_eq_true c3
              by_cases c4 : dd ≤ 28
              · have c4T := decide_eq_true c4
                have hthr : thr ⟨p, mm, dd, kk, s⟩ = true := by show (decide (0 ≤ p) && decide (p ≤ 60) && decide (25 ≤ dd) && decide (dd ≤ 28)) = _; rw [decide_eq_true c1, decide_eq_true c2, decide_eq_true c3, decide_eq_true c4]; rfl
                go_wp2_with (at_builtin; go_must (refine app_cellsA _ rfl _ _ _ 49 rfl Try.underlying38 infoTs rfl (by decide) rfl (HO2.out.alloc _) rfl (one_testb (wr.alloc (.cells #[.int .i64 p, .int .u32 mm, .int .i64 dd, .int .u32 kk, .bool s] 46)) ⟨p, mm, dd, kk, s⟩ 49 (wr.heap.size + 1) (by simp)) (fun i _ => tscell_one _ i) (by unfold maxLen; omega) (by omega) (by have := HB2.out.size; simp at this ⊢; omega) (k + 1) rfl (tscell G) HW.out ?_; rintro A2 c2 w5 hown2 hg5 _; have hrt5 := (HRT.out.alloc (.cells #[.int .i64 p, .int .u32 mm, .int .i64 dd, .int .u32 kk, .bool s] 49)).grown_ hg5 HNE.out; have hr5 := (HR2.out.alloc (.cells #[.int .i64 p, .int .u32 mm, .int .i64 dd, .int .u32 kk, .bool s] 49)).grown_ hg5 HN0.out; have hb5 := ((HB2.out.alloc HB2.out.size (.cells #[.int .i64 p, .int .u32 mm, .int .i64 dd, .int .u32 kk, .bool s] 49))).trans (((Below.refl (w0.heap.size + 1) _).grown hg5 (by have := HS0.out; simp <;> omega) (fun k hk => (World.ownsRow.lt (HO2.out.alloc (.cells #[.int .i64 p, .int .u32 mm, .int .i64 dd, .int .u32 kk, .bool s] 49)) k hk).1)).mono (Nat.le_succ _)); have d0 := hr5.cell 0 _ rfl; have f0 := hr5.frozen 0; have hrt6 := hrt5.aside (S := w0.heap.size) (by have := HS0.out; omega) 0 (.slice A2 (k + 1) c2); have HR6 : Hid (RowC (w5.setCell ⟨w0.heap.size, 0, none⟩ (.slice A2 (k + 1) c2)) w0.heap.size #[.slice A2 (k + 1) c2, .int .i64 0, .int .u32 0] 40) := Lib.hid (hr5.set 0 (.slice A2 (k + 1) c2)); have HO6 := Lib.hid (hown2.aside (S := w0.heap.size) (Nat.lt_succ_self _) 0 (.slice A2 (k + 1) c2)); have HB6 := Lib.hid (hb5.setCell (p := ⟨w0.heap.size, 0, none⟩) (Nat.le_refl _) (.slice A2 (k + 1) c2)); have u0 := hrt6.cell 0 _ rfl; have u2 := hrt6.cell 2 _ rfl; clear hrt5 hr5 hb5 hrt6 hown2 hg5))
                exact ⟨⟨k + 1, A2, c2, by omega, by go_num, by rw [HAS.out, hthr]; rfl, HR6, HO6, HB6.out⟩, by simp [intOf]; omega⟩
              · have hthr : thr ⟨p, mm, dd, kk, s⟩ = false := by show (decide (0 ≤ p) && decide (p ≤ 60) && decide (25 ≤ dd) && decide (dd ≤ 28)) = _; rw [decide_eq_true c1, decide_eq_true c2, decide_eq_true c3, decide_eq_false c4]; simp
                go_wp2_with (at_builtin; go_must (refine app_cellsA _ rfl _ _ _ 49 rfl Try.underlying38 infoTs rfl (by decide) rfl (HO2.out.alloc _) rfl (one_testb (wr.alloc (.cells #[.int .i64 p, .int .u32 mm, .int .i64 dd, .int .u32 kk, .bool s] 46)) ⟨p, mm, dd, kk, s⟩ 49 (wr.heap.size + 1) (by simp)) (fun i _ => tscell_one _ i) (by unfold maxLen; omega) (by omega) (by have := HB2.out.size; simp at this ⊢; omega) (k + 1) rfl (tscell G) HW.out ?_; rintro A2 c2 w5 hown2 hg5 _; have hrt5 := (HRT.out.alloc (.cells #[.int .i64 p, .int .u32 mm, .int .i64 dd, .int .u32 kk, .bool s] 49)).grown_ hg5 HNE.out; have hr5 := (HR2.out.alloc (.cells #[.int .i64 p, .int .u32 mm, .int .i64 dd, .int .u32 kk, .bool s] 49)).grown_ hg5 HN0.out; have hb5 := ((HB2.out.alloc HB2.out.size (.cells #[.int .i64 p, .int .u32 mm, .int .i64 dd, .int .u32 kk, .bool s] 49))).trans (((Below.refl (w0.heap.size + 1) _).grown hg5 (by have := HS0.out; simp <;> omega) (fun k hk => (World.ownsRow.lt (HO2.out.alloc (.cells #[.int .i64 p, .int .u32 mm, .int .i64 dd, .int .u32 kk, .bool s] 49)) k hk).1)).mono (Nat.le_succ _)); have d0 := hr5.cell 0 _ rfl; have f0 := hr5.frozen 0; have hrt6 := hrt5.aside (S := w0.heap.size) (by have := HS0.out; omega) 0 (.slice A2 (k + 1) c2); have HR6 : Hid (RowC (w5.setCell ⟨w0.heap.size, 0, none⟩ (.slice A2 (k + 1) c2)) w0.heap.size #[.slice A2 (k + 1) c2, .int .i64 0, .int .u32 0] 40) := Lib.hid (hr5.set 0 (.slice A2 (k + 1) c2)); have HO6 := Lib.hid (hown2.aside (S := w0.heap.size) (Nat.lt_succ_self _) 0 (.slice A2 (k + 1) c2)); have HB6 := Lib.hid (hb5.setCell (p := ⟨w0.heap.size, 0, none⟩) (Nat.le_refl _) (.slice A2 (k + 1) c2)); have u0 := hrt6.cell 0 _ rfl; have u2 := hrt6.cell 2 _ rfl; clear hrt5 hr5 hb5 hrt6 hown2 hg5))
                exact ⟨⟨k + 1, A2, c2, by omega, by go_num, by rw [HAS.out, hthr]; rfl, HR6, HO6, HB6.out⟩, by simp [intOf]; omega⟩
            · have hthr : thr ⟨p, mm, dd, kk, s⟩ = false := by show (decide (0 ≤ p) && decide (p ≤ 60) && decide (25 ≤ dd) && decide (dd ≤ 28)) = _; rw [decide_eq_true c1, decide_eq_true c2, decide_eq_false c3]; simp
              go_wp2_with (at_builtin; go_must (refine app_cellsA _ rfl _ _ _ 49 rfl Try.underlying38 infoTs rfl (by decide) rfl (HO2.out.alloc _) rfl (one_testb (wr.alloc (.cells #[.int .i64 p, .int .u32 mm, .int .i64 dd, .int .u32 kk, .bool s] 46)) ⟨p, mm, dd, kk, s⟩ 49 (wr.heap.size + 1) (by simp)) (fun i _ => tscell_one _ i) (by unfold maxLen; omega) (by omega) (by have := HB2.out.size; simp at this ⊢; omega) (k + 1) rfl (tscell G) HW.out ?_; rintro A2 c2 w5 hown2 hg5 _; have hrt5 := (HRT.out.alloc (.cells #[.int .i64 p, .int .u32 mm, .int .i64 dd, .int .u32 kk, .bool s] 49)).grown_ hg5 HNE.out; have hr5 := (HR2.out.alloc (.cells #[.int .i64 p, .int .u32 mm, .int .i64 dd, .int .u32 kk, .bool s] 49)).grown_ hg5 HN0.out; have hb5 := ((HB2.out.alloc HB2.out.size (.cells #[.int .i64 p, .int .u32 mm, .int .i64 dd, .int .u32 kk, .bool s] 49))).trans (((Below.refl (w0.heap.size + 1) _).grown hg5 (by have := HS0.out; simp <;> omega) (fun k hk => (World.ownsRow.lt (HO2.out.alloc (.cells #[.int .i64 p, .int .u32 mm, .int .i64 dd, .int .u32 kk, .bool s] 49)) k hk).1)).mono (Nat.le_succ _)); have d0 := hr5.cell 0 _ rfl; have f0 := hr5.frozen 0; have hrt6 := hrt5.aside (S := w0.heap.size) (by have := HS0.out; omega) 0 (.slice A2 (k + 1) c2); have HR6 : Hid (RowC (w5.setCell ⟨w0.heap.size, 0, none⟩ (.slice A2 (k + 1) c2)) w0.heap.size #[.slice A2 (k + 1) c2, .int .i64 0, .int .u32 0] 40) := Lib.hid (hr5.set 0 (.slice A2 (k + 1) c2)); have HO6 := Lib.hid (hown2.aside (S := w0.heap.size) (Nat.lt_succ_self _) 0 (.slice A2 (k + 1) c2)); have HB6 := Lib.hid (hb5.setCell (p := ⟨w0.heap.size, 0, none⟩) (Nat.le_refl _) (.slice A2 (k + 1) c2)); have u0 := hrt6.cell 0 _ rfl; have u2 := hrt6.cell 2 _ rfl; clear hrt5 hr5 hb5 hrt6 hown2 hg5))
              exact ⟨⟨k + 1, A2, c2, by omega, by go_num, by rw [HAS.out, hthr]; rfl, HR6, HO6, HB6.out⟩, by simp [intOf]; omega⟩
          · have hthr : thr ⟨p, mm, dd, kk, s⟩ = false := by show (decide (0 ≤ p) && decide (p ≤ 60) && decide (25 ≤ dd) && decide (dd ≤ 28)) = _; rw [decide_eq_true c1, decide_eq_false c2]; simp
            go_wp2_with (at_builtin; go_must (refine app_cellsA _ rfl _ _ _ 49 rfl Try.underlying38 infoTs rfl (by decide) rfl (HO2.out.alloc _) rfl (one_testb (wr.alloc (.cells #[.int .i64 p, .int .u32 mm, .int .i64 dd, .int .u32 kk, .bool s] 46)) ⟨p, mm, dd, kk, s⟩ 49 (wr.heap.size + 1) (by simp)) (fun i _ => tscell_one _ i) (by unfold maxLen; omega) (by omega) (by have := HB2.out.size; simp at this ⊢; omega) (k + 1) rfl (tscell G) HW.out ?_; rintro A2 c2 w5 hown2 hg5 _; have hrt5 := (HRT.out.alloc (.cells #[.int .i64 p, .int .u32 mm, .int .i64 dd, .int .u32 kk, .bool s] 49)).grown_ hg5 HNE.out; have hr5 := (HR2.out.alloc (.cells #[.int .i64 p, .int .u32 mm, .int .i64 dd, .int .u32 kk, .bool s] 49)).grown_ hg5 HN0.out; have hb5 := ((HB2.out.alloc HB2.out.size (.cells #[.int .i64 p, .int .u32 mm, .int .i64 dd, .int .u32 kk, .bool s] 49))).trans (((Below.refl (w0.heap.size + 1) _).grown hg5 (by have := HS0.out; simp <;> omega) (fun k hk => (World.ownsRow.lt (HO2.out.alloc (.cells #[.int .i64 p, .int .u32 mm, .int .i64 dd, .int .u32 kk, .bool s] 49)) k hk).1)).mono (Nat.le_succ _)); have d0 := hr5.cell 0 _ rfl; have f0 := hr5.frozen 0; have hrt6 := hrt5.aside (S := w0.heap.size) (by have := HS0.out; omega) 0 (.slice A2 (k + 1) c2); have HR6 : Hid (RowC (w5.setCell ⟨w0.heap.size, 0, none⟩ (.slice A2 (k + 1) c2)) w0.heap.size #[.slice A2 (k + 1) c2, .int .i64 0, .int .u32 0] 40) := Lib.hid (hr5.set 0 (.slice A2 (k + 1) c2)); have HO6 := Lib.hid (hown2.aside (S := w0.heap.size) (Nat.lt_succ_self _) 0 (.slice A2 (k + 1) c2)); have HB6 := Lib.hid (hb5.setCell (p := ⟨w0.heap.size, 0, none⟩) (Nat.le_refl _) (.slice A2 (k + 1) c2)); have u0 := hrt6.cell 0 _ rfl; have u2 := hrt6.cell 2 _ rfl; clear hrt5 hr5 hb5 hrt6 hown2 hg5))
            exact ⟨⟨k + 1, A2, c2, by omega, by go_num, by rw [HAS.out, hthr]; rfl, HR6, HO6, HB6.out⟩, by simp [intOf]; omega⟩
        · have hthr : thr ⟨p, mm, dd, kk, s⟩ = false := by show (decide (0 ≤ p) && decide (p ≤ 60) && decide (25 ≤ dd) && decide (dd ≤ 28)) = _; rw [decide_eq_false c1]; simp
          go_wp2_with (at_builtin; go_must (refine app_cellsA _ rfl _ _ _ 49 rfl Try.underlying38 infoTs rfl (by decide) rfl (HO2.out.alloc _) rfl (one_testb (wr.alloc (.cells #[.int .i64 p, .int .u32 mm, .int .i64 dd, .int .u32 kk, .bool s] 46)) ⟨p, mm, dd, kk, s⟩ 49 (wr.heap.size + 1) (by simp)) (fun i _ => tscell_one _ i) (by unfold maxLen; omega) (by omega) (by have := HB2.out.size; simp at this ⊢; omega) (k + 1) rfl (tscell G) HW.out ?_; rintro A2 c2 w5 hown2 hg5 _; have hrt5 := (HRT.out.alloc (.cells #[.int .i64 p, .int .u32 mm, .int .i64 dd, .int .u32 kk, .bool s] 49)).grown_ hg5 HNE.out; have hr5 := (HR2.out.alloc (.cells #[.int .i64 p, .int .u32 mm, .int .i64 dd, .int .u32 kk, .bool s] 49)).grown_ hg5 HN0.out; have hb5 := ((HB2.out.alloc HB2.out.size (.cells #[.int .i64 p, .int .u32 mm, .int .i64 dd, .int .u32 kk, .bool s] 49))).trans (((Below.refl (w0.heap.size + 1) _).grown hg5 (by have := HS0.out; simp <;> omega) (fun k hk => (World.ownsRow.lt (HO2.out.alloc (.cells #[.int .i64 p, .int .u32 mm, .int .i64 dd, .int .u32 kk, .bool s] 49)) k hk).1)).mono (Nat.le_succ _)); have d0 := hr5.cell 0 _ rfl; have f0 := hr5.frozen 0; have hrt6 := hrt5.aside (S := w0.heap.size) (by have := HS0.out; omega) 0 (.slice A2 (k + 1) c2); have HR6 : Hid (RowC (w5.setCell ⟨w0.heap.size, 0, none⟩ (.slice A2 (k + 1) c2)) w0.heap.size #[.slice A2 (k + 1) c2, .int .i64 0, .int .u32 0] 40) := Lib.hid (hr5.set 0 (.slice A2 (k + 1) c2)); have HO6 := Lib.hid (hown2.aside (S := w0.heap.size) (Nat.lt_succ_self _) 0 (.slice A2 (k + 1) c2)); have HB6 := Lib.hid (hb5.setCell (p := ⟨w0.heap.size, 0, none⟩) (Nat.le_refl _) (.slice A2 (k + 1) c2)); have u0 := hrt6.cell 0 _ rfl; have u2 := hrt6.cell 2 _ rfl; clear hrt5 hr5 hb5 hrt6 hown2 hg5))
          exact ⟨⟨k + 1, A2, c2, by omega, by go_num, by rw [HAS.out, hthr]; rfl, HR6, HO6, HB6.out⟩, by simp [intOf]; omega⟩
    · obtain rfl : k = m := by omega
      have i9 : ¬ (k : Int) < (k : Int) := by omega
      have HB := Lib.hid hB
      have b0 := HR.out.cell 0 _ rfl
      have b1 := HR.out.cell 1 _ rfl
      have b2 := HR.out.cell 2 _ rfl
      have hk20 : k ≤ 20 := by omega
      cases hth : allT b64 G k
      · have hz : ∃ f', Byt w0 w0.heap.size A n c f' ∧ (decide (n = 64) && allF n f' G k) = false := by
          by_cases h64 : n = 64
          · subst h64
            refine ⟨f, HBY.out, ?_⟩
            have hb : b64 = true := by rw [← H64.out]; rfl
            rw [hb] at hth
            unfold allT at hth
            rw [Bool.true_and, List.all_eq_false] at hth
            obtain ⟨i, hi, hne⟩ := hth
            rw [allF_not (List.mem_range.1 hi) (thr_no (by simpa using hne))]
            simp
          · exact ⟨f, HBY.out, by rw [decide_eq_false h64]; rfl⟩
        obtain ⟨f', hby', hv⟩ := hz
        have HTK := Lib.hid (taken_any A' k c' G 0 0 A n c f' wr (by omega) HO.out.cel HOK.out (by omega) ((hby'.below hB).more hB.size))
        rw [hv] at HTK
        clear hB hby' hv
        go_wp2_with (first
          | (go_at_call 15; refine HTK.out.mono ?_; rintro e w1 ⟨rfl, hB1⟩; have HB1 := Lib.hid (HB.out.trans (hB1.mono HB.out.size)); clear hB1)
          | (go_at_call 11; refine (HA.out _).mono ?_; rintro e w5 ⟨rfl, hB5⟩; have HB5 := Lib.hid (HB1.out.trans (hB5.mono HB1.out.size)); clear hB5))
        go_ret
        exact ⟨rfl, HB5.out⟩
      · have h64 : n = 64 := by
          by_cases h : n = 64
          · exact h
          · exfalso
            have hb : b64 = false := by rw [← H64.out, beq_eq_false_iff_ne]; omega
            rw [hb] at hth
            cases hth
        subst h64
        have hall : ∀ i, i < k → thr (G i) = true := by
          unfold allT at hth
          rw [Bool.and_eq_true, List.all_eq_true] at hth
          exact fun i hi => hth.2 i (List.mem_range.2 hi)
        obtain ⟨f', hf', hby'⟩ : ∃ f' : Nat → Nat, (∀ i, f' i < 256) ∧ Byt w0 w0.heap.size A 64 c f' := ⟨fun i => if i < 64 then f i else 0, fun i => by
          show (if i < 64 then f i else 0) < 256
          split
          · exact HBY.out.lt (by assumption)
          · decide, HBY.out.congr fun i hi => by rw [if_pos hi]⟩
        have HBYF := Lib.hid hby'
        have HTK := Lib.hid (taken_any A' k c' G 0 0 A 64 c f' wr (by omega) HO.out.cel HOK.out (by omega) ((hby'.below hB).more hB.size))
        have HRT : Hid (∀ W, Below w0.heap.size w0 W → Calls Try.prog 16 #[.agg #[.slice T k d, .int .i64 0, .int .u32 0], .slice A 64 c] W fun e w' => e = .returned (.bool (allF 64 f' G k)) ∧ Below W.heap.size W w') := Lib.hid fun W hW => rtaken_any T k d G 0 0 A c f' W (by omega) ((HT.out.below hW).more hW.size) (fun i hi => ⟨HOK.out i hi, thr_yes (hall i hi)⟩) ((HBYF.out.below hW).more hW.size) hf'
        have hv : (decide (64 = 64) && allF 64 f' G k) = allF 64 f' G k := by simp
        rw [hv] at HTK
        clear hB hby' hv hf' hall
        generalize allF 64 f' G k = q at *
        cases q
        all_goals
          go_wp2_with (first
            | (go_at_call 15; refine HTK.out.mono ?_; rintro e w1 ⟨rfl, hB1⟩; have HB1 := Lib.hid (HB.out.trans (hB1.mono HB.out.size)); clear hB1)
            | (go_at_call 16; refine (HRT.out _ HB1.out).mono ?_; rintro e w2 ⟨rfl, hB2⟩; have HB2 := Lib.hid (HB1.out.trans (hB2.mono HB1.out.size)); clear hB2)
            | (go_at_call 11; refine (HA.out _).mono ?_; rintro e w5 ⟨rfl, hB5⟩; have HB5 := Lib.hid (HB2.out.trans (hB5.mono HB2.out.size)); clear hB5))
          go_ret
          exact ⟨rfl, HB5.out⟩
end Go.Proofs.Ytgndfcjfajnemaa
