/-
  Layer 17, pure: what Judge tells, of records of no ABI, of x32, of no call, of other arguments; of a policy's normal form.
-/
import Derived.Test.YtcmdmnnkbliggaaGreatDoorP24
import Derived.Test.YtcmdmnnkbliggaaGreatDoorP23
import Derived.Deep.RegionHeld3
import Derived.Test.YtcmdmnnkbliggaaGreatDoorP2
import Derived.Test.YtcmdmnnkbliggaaGreatDoorP22
namespace Go.Proofs.YtcmdmnnkbliggaaGreatDoor
open Go.RowKit Go.Shelf
set_option linter.unusedVariables false

theorem CallP.uniq {T : Nat → SR} {n : Nat} {r : RecV} {sm sm' : Bool} {ab ab' : Nat} {nm nm' : ByteArray} {mu mu' : Bool} (h : CallP T n r sm ab nm mu) (h' : CallP T n r sm' ab' nm' mu') : sm = sm' ∧ ab = ab' ∧ nm = nm' ∧ mu = mu' := by
  rcases h with ⟨h1, rfl, rfl, rfl, rfl⟩ | ⟨h1, rfl, rfl, h2⟩ <;> rcases h' with ⟨g1, rfl, rfl, rfl, rfl⟩ | ⟨g1, rfl, rfl, g2⟩
  · exact ⟨rfl, rfl, rfl, rfl⟩
  · rw [h1] at g1; cases g1
  · rw [h1] at g1; cases g1
  · rcases h2 with ⟨h3, h4, rfl, h5⟩ | ⟨h3, rfl, h5⟩ <;> rcases g2 with ⟨g3, g4, rfl, g5⟩ | ⟨g3, rfl, g5⟩
    · exact ⟨rfl, rfl, NameOf.uniq h5 g5, rfl⟩
    · exact absurd ⟨h3, h4⟩ g3
    · exact absurd ⟨g3, g4⟩ h3
    · exact ⟨rfl, rfl, NameOf.uniq h5 g5, rfl⟩
theorem jud_ok {k u : Int} {x : Bool} {L : List RV} {T : Nat → SR} {tn : Nat} {r : RecV} {cc ee : Nat} (h : JudP k u x L T tn r cc ee) (he : ee = 0) : rightV k u L = true ∧ RightP T tn 0 0 ∧ ∃ sm ab nm mu, CallP T tn r sm ab nm mu ∧ cc = codeOf (actF k u x L sm ab nm mu r.q) := by
  rcases h with ⟨_, _, h⟩ | ⟨hr, ⟨_, _, h⟩ | ⟨ht, _, hc⟩⟩
  · omega
  · omega
  · exact ⟨hr, ht, hc⟩
theorem jud_err {k u : Int} {x : Bool} {L : List RV} {T : Nat → SR} {tn : Nat} {r : RecV} {cc ee : Nat} (h : JudP k u x L T tn r cc ee) (he : ee ≠ 0) : cc = 0 := by
  rcases h with ⟨_, h, _⟩ | ⟨hr, ⟨_, h, _⟩ | ⟨ht, h, _⟩⟩
  · exact h
  · exact h
  · exact absurd h he
theorem rightp_no {T : Nat → SR} {tn : Nat} (h : RightP T tn 0 0) : ¬ ∃ p q, RightP T tn p q ∧ q ≠ 0 := fun ⟨p, q, h1, h2⟩ => h2 (RightP.uniq h1 h).2
/-- Where policy and table are right there is no error. -/
theorem jud_zero {k u : Int} {x : Bool} {L : List RV} {T : Nat → SR} {tn : Nat} {r : RecV} {cc ee : Nat} (h : JudP k u x L T tn r cc ee) (hr : rightV k u L = true) (ht : RightP T tn 0 0) : ee = 0 := by
  rcases h with ⟨h, _⟩ | ⟨_, ⟨h, _⟩ | ⟨_, h, _⟩⟩
  · rw [hr] at h; cases h
  · exact absurd h (rightp_no ht)
  · exact h
theorem act_kill (k u : Int) (L : List RV) (ab : Nat) (nm : ByteArray) (mu x : Bool) (q : Nat → Nat) : actF k u x L false ab nm mu q = (1, 0) := rfl
theorem jud_none {k u : Int} {x : Bool} {L : List RV} {T : Nat → SR} {tn : Nat} {r : RecV} {cc ee : Nat} (h : JudP k u x L T tn r cc ee) (he : ee = 0) (hs : (selA r.a r.n).2 = false) : cc = 2147483648 := by
  obtain ⟨_, _, sm, ab, nm, mu, hc, rfl⟩ := jud_ok h he
  rcases hc with ⟨_, rfl, _⟩ | ⟨h1, _⟩
  · rw [act_kill]; rfl
  · rw [hs] at h1; cases h1
theorem jud_x32 {k u : Int} {x : Bool} {L : List RV} {T : Nat → SR} {tn : Nat} {r : RecV} {cc ee : Nat} (h : JudP k u x L T tn r cc ee) (he : ee = 0) (hs : selA r.a r.n = (1, true)) (hx : x = false) : cc = 2147483648 := by
  obtain ⟨_, _, sm, ab, nm, mu, hc, rfl⟩ := jud_ok h he
  rcases hc with ⟨_, rfl, _⟩ | ⟨_, rfl, h2, _⟩
  · rw [act_kill]; rfl
  · rw [hs] at h2
    subst h2 hx
    rfl
theorem no_num {T : Nat → SR} {tn : Nat} (ht : RightP T tn 0 0) {ab : Nat} (hab : ab < 5) {i : Nat} (hi : i < tn) : isNum T ab ((4294967295 : Nat) : Int) i = false := by
  have h0 : rowF T i = 0 := by
    rcases ht with ⟨_, _, h⟩ | ⟨_, _, _, h, h2⟩ | ⟨_, h, _⟩
    · cases h
    · exact absurd h2.symm h
    · exact h i hi
  have h1 := (row_ok h0).2.2.1 ab hab
  have h2 : ¬ numAt (T i) i ab = ((4294967295 : Nat) : Int) := by
    unfold numAt
    split <;> omega
  exact beq_eq_false_iff_ne.2 h2
theorem sel_nocall (a : Nat) : (selA a 4294967295).1 ≠ 1 := by
  unfold selA
  repeat' split
  all_goals first
    | decide
    | (rename_i h; exact absurd h (by decide))
theorem jud_nocall {k u : Int} {x : Bool} {L : List RV} {T : Nat → SR} {tn : Nat} {r : RecV} {cc ee : Nat} (h : JudP k u x L T tn r cc ee) (he : ee = 0) (hn : r.n = 4294967295) (hs : (selA r.a r.n).2 = true) : cc = codeOf (k, u) := by
  obtain ⟨_, ht, sm, ab, nm, mu, hc, rfl⟩ := jud_ok h he
  rcases hc with ⟨h1, _⟩ | ⟨_, rfl, h2, ⟨_, h3, _⟩ | ⟨_, rfl, h4⟩⟩
  · rw [hs] at h1; cases h1
  · rw [hn] at h3; exact absurd rfl h3
  · have hab : ab ≠ 1 := by rw [h2, hn]; exact sel_nocall r.a
    have hlt : ab < 5 := by rw [h2]; exact selA_lt _ _
    have ho : ownF ab r.n = 4294967295 := by unfold ownF; rw [if_neg (by omega), hn]
    rw [ho] at h4
    have hnm : nm = ⟨#[]⟩ := by
      rcases h4 with ⟨j, hj, h5, _⟩ | ⟨_, h5⟩
      · rw [no_num ht hlt hj] at h5; cases h5
      · exact h5
    subst hnm
    have hb : (ab == 1) = false := beq_eq_false_iff_ne.2 hab
    unfold actF
    rw [hb]
    rfl
/-! Other arguments. -/
theorem decF_args {k u : Int} {L : List RV} {nm : ByteArray} {f g : Nat → Nat} (h : ∀ r ∈ L, ∀ c ∈ r.L, f c.a.toNat = g c.a.toNat) : decF k u L nm f = decF k u L nm g := by
  unfold decF
  have he : L.find? (rulH nm f) = L.find? (rulH nm g) := by
    clear u k
    induction L with
    | nil => rfl
    | cons r t ih =>
      have h1 : rulH nm f r = rulH nm g r := by
        unfold rulH allC
        congr 1
        rw [Bool.eq_iff_iff, List.all_eq_true, List.all_eq_true]
        refine forall_congr' fun c => forall_congr' fun hc => ?_
        unfold hoC
        rw [h r (List.mem_cons_self ..) c hc]
      rw [List.find?_cons, List.find?_cons, h1, ih fun x hx => h x (List.mem_cons_of_mem _ hx)]
  rw [he]
/-- A record with another pointer, and other arguments that nothing asks. -/
theorem jud_blind {k u : Int} {x : Bool} {L : List RV} {T : Nat → SR} {tn : Nat} {r r' : RecV} {cc ee cc' ee' : Nat} (h : JudP k u x L T tn r cc ee) (h' : JudP k u x L T tn r' cc' ee') (ha : r'.a = r.a) (hn : r'.n = r.n)
    (hq : r'.q = r.q ∨ ((∀ sm ab nm mu, CallP T tn r sm ab nm mu → mu = false) ∧ ∀ v ∈ L, ∀ c ∈ v.L, r'.q c.a.toNat = r.q c.a.toNat)) : cc = cc' ∧ ee = ee' := by
  rcases h with ⟨h1, rfl, rfl⟩ | ⟨h1, ⟨h2, rfl, rfl⟩ | ⟨h2, rfl, sm, ab, nm, mu, h3, rfl⟩⟩ <;> rcases h' with ⟨g1, rfl, rfl⟩ | ⟨g1, ⟨g2, rfl, rfl⟩ | ⟨g2, rfl, sm', ab', nm', mu', g3, rfl⟩⟩
  · exact ⟨rfl, rfl⟩
  · rw [h1] at g1; cases g1
  · rw [h1] at g1; cases g1
  · rw [h1] at g1; cases g1
  · exact ⟨rfl, rfl⟩
  · exact absurd h2 (rightp_no g2)
  · rw [h1] at g1; cases g1
  · exact absurd g2 (rightp_no h2)
  · refine ⟨?_, rfl⟩
    rcases hq with hq | ⟨hm, hq⟩
    · have g4 : CallP T tn r sm' ab' nm' mu' := by
        unfold CallP at g3 ⊢
        rw [ha, hn, hq] at g3
        exact g3
      obtain ⟨rfl, rfl, rfl, rfl⟩ := CallP.uniq h3 g4
      rw [hq]
    · have hmu := hm sm ab nm mu h3
      subst hmu
      have g4 : CallP T tn r sm' ab' nm' mu' := by
        rcases g3 with ⟨b1, b2⟩ | ⟨b1, b2, b3, b4⟩
        · rw [ha, hn] at b1; exact .inl ⟨b1, b2⟩
        · rw [ha, hn] at b1 b3
          rcases b4 with ⟨c1, c2, c3, c4⟩ | ⟨c1, c2, c3⟩
          · exfalso
            rw [hn] at c2
            rcases h3 with ⟨a1, _⟩ | ⟨_, _, a3, ⟨_, _, a6, _⟩ | ⟨a4, _⟩⟩
            · rw [a1] at b1; cases b1
            · cases a6
            · exact a4 ⟨by rw [a3, ← b3]; exact c1, c2⟩
          · rw [hn] at c1 c3
            exact .inr ⟨b1, b2, b3, .inr ⟨c1, c2, c3⟩⟩
      obtain ⟨rfl, rfl, rfl, rfl⟩ := CallP.uniq h3 g4
      congr 1
      unfold actF
      rw [decF_args (f := fun i => argF ab (r.q i)) (g := fun i => argF ab (r'.q i)) fun v hv c hc => by simp only [hq v hv c hc]]
/-- A policy's normal form judges as it does. -/
theorem jud_norm {k u : Int} {x : Bool} {L : List RV} {T : Nat → SR} {tn : Nat} {r : RecV} {cc ee cc' ee' : Nat} (h : JudP k u x L T tn r cc ee) (he : ee = 0) (hs : ∀ v ∈ L, SmallV v) (hok : r.ok) (h' : JudP k u x (nP k u L) T tn r cc' ee') :
    ee' = 0 ∧ (cc' = cc ∨ ∃ sm ab nm, CallP T tn r sm ab nm true ∧ ¬ ∀ v ∈ L, v.nm = nm → v.L = []) := by
  obtain ⟨hr, ht, sm, ab, nm, mu, hc, rfl⟩ := jud_ok h he
  have hrn := (rightV_nP hr).1
  have he' := jud_zero h' hrn ht
  refine ⟨he', ?_⟩
  obtain ⟨_, _, sm', ab', nm', mu', hc', rfl⟩ := jud_ok h' he'
  obtain ⟨rfl, rfl, rfl, rfl⟩ := CallP.uniq hc hc'
  have hm : ∀ v ∈ L, mayV v = true := by
    unfold rightV at hr
    simp only [Bool.and_eq_true, decide_eq_true_eq, List.all_eq_true] at hr
    exact hr.2.2
  by_cases hb : mu = true ∧ ¬ ∀ v ∈ L, v.nm = nm → v.L = []
  · obtain ⟨rfl, hb⟩ := hb
    exact .inr ⟨sm, ab, nm, hc, hb⟩
  · left
    congr 1
    unfold actF
    split
    · rfl
    · split
      · rfl
      · split
        · rename_i hmu
          refine bliF_nP hm hs ?_
          exact Classical.byContradiction fun hn => hb ⟨hmu, hn⟩
        · exact decF_nP hm hs nm _ fun i => by
            have := hok.2.2.2 i
            unfold argF
            split <;> omega
end Go.Proofs.YtcmdmnnkbliggaaGreatDoor

/-
  Layer 17: the document's Judge.
-/
namespace Go.Proofs.YtcmdmnnkbliggaaGreatDoor
open Go.RowKit Go.Shelf
set_option linter.unusedVariables false

set_option maxRecDepth 100000 in
set_option maxHeartbeats 4000000 in
theorem base_at (j : Nat) (hj : j < 8) (w : World) : Calls Tryz.prog 117 #[.int .i64 ((j : Int) + 1)] w fun e w' => e = .returned (.int .i64 (kcA j)) ∧ Below w.heap.size w w' := by
  have hB : ∀ o, Below w.heap.size w (w.alloc o) := fun o => (Below.refl _ _).alloc (Nat.le_refl _) o
  have HB := Lib.hid hB
  clear hB
  have h : j = 0 ∨ j = 1 ∨ j = 2 ∨ j = 3 ∨ j = 4 ∨ j = 5 ∨ j = 6 ∨ j = 7 := by omega
  clear hj
  rcases h with rfl | rfl | rfl | rfl | rfl | rfl | rfl | rfl
  · show Calls Tryz.prog 117 #[.int .i64 1] w fun e w' => e = .returned (.int .i64 2147483648) ∧ Below w.heap.size w w'
    go_enter Tryz.func117, Tryz.ntmps117
    go_wp2
    go_ret
    exact ⟨rfl, HB.out _⟩
  · show Calls Tryz.prog 117 #[.int .i64 2] w fun e w' => e = .returned (.int .i64 0) ∧ Below w.heap.size w w'
    go_enter Tryz.func117, Tryz.ntmps117
    go_wp2
    go_ret
    exact ⟨rfl, HB.out _⟩
  · show Calls Tryz.prog 117 #[.int .i64 3] w fun e w' => e = .returned (.int .i64 196608) ∧ Below w.heap.size w w'
    go_enter Tryz.func117, Tryz.ntmps117
    go_wp2
    go_ret
    exact ⟨rfl, HB.out _⟩
  · show Calls Tryz.prog 117 #[.int .i64 4] w fun e w' => e = .returned (.int .i64 327680) ∧ Below w.heap.size w w'
    go_enter Tryz.func117, Tryz.ntmps117
    go_wp2
    go_ret
    exact ⟨rfl, HB.out _⟩
  · show Calls Tryz.prog 117 #[.int .i64 5] w fun e w' => e = .returned (.int .i64 2143289344) ∧ Below w.heap.size w w'
    go_enter Tryz.func117, Tryz.ntmps117
    go_wp2
    go_ret
    exact ⟨rfl, HB.out _⟩
  · show Calls Tryz.prog 117 #[.int .i64 6] w fun e w' => e = .returned (.int .i64 2146435072) ∧ Below w.heap.size w w'
    go_enter Tryz.func117, Tryz.ntmps117
    go_wp2
    go_ret
    exact ⟨rfl, HB.out _⟩
  · show Calls Tryz.prog 117 #[.int .i64 7] w fun e w' => e = .returned (.int .i64 2147221504) ∧ Below w.heap.size w w'
    go_enter Tryz.func117, Tryz.ntmps117
    go_wp2
    go_ret
    exact ⟨rfl, HB.out _⟩
  · show Calls Tryz.prog 117 #[.int .i64 8] w fun e w' => e = .returned (.int .i64 2147418112) ∧ Below w.heap.size w w'
    go_enter Tryz.func117, Tryz.ntmps117
    go_wp2
    go_ret
    exact ⟨rfl, HB.out _⟩
set_option maxRecDepth 100000 in
set_option maxHeartbeats 4000000 in
theorem code9_at (j : Nat) (hj : j < 8) (n : Int) (h0 : 0 ≤ n) (h1 : n ≤ 65535) (w : World) : Calls Tryz.prog 74 #[.agg #[.int .i64 ((j : Int) + 1), .int .i64 n]] w fun e w' => e = .returned (.int .i64 ((kcA j : Int) + n)) ∧ Below w.heap.size w w' := by
  have hr : RowC (w.alloc (.cells #[.int .i64 ((j : Int) + 1), .int .i64 n] 36)) w.heap.size #[.int .i64 ((j : Int) + 1), .int .i64 n] 36 := RowC.new _ _ _ _ rfl
  have hb : Below w.heap.size w (w.alloc (.cells #[.int .i64 ((j : Int) + 1), .int .i64 n] 36)) := (Below.refl _ _).alloc (Nat.le_refl _) _
  have hc := kcA_lt j
  have hc0 : kcA j ≤ 2147483648 := by unfold kcA; split <;> decide
  have v1 : IntKind.i64.wrap ((kcA j : Int) + n) = (kcA j : Int) + n := by rw [IntKind.wrap_i64]; omega
  have HC := Lib.hid fun W => base_at j hj W
  have HB := Lib.hid hb
  clear hj hb h0 h1 hc hc0
  go_enter Tryz.func74, Tryz.ntmps74
  go_wp2_with fail
  generalize w.alloc (.cells #[.int .i64 ((j : Int) + 1), .int .i64 n] 36) = W1 at *
  have hS : Hid (∀ W, Below W1.heap.size W1 W → W.cell? ⟨w.heap.size, 0, none⟩ = some (.int .i64 ((j : Int) + 1)) ∧ W.cell? ⟨w.heap.size, 1, none⟩ = some (.int .i64 n)) := Lib.hid fun W hW => ⟨(hr.below hW hr.lt).cell 0 _ rfl, (hr.below hW hr.lt).cell 1 _ rfl⟩
  have hk0 : Below W1.heap.size W1 W1.drew := (Below.refl _ W1).drew
  generalize (j : Int) + 1 = P1 at *
  clear hr
  go_region_held3 (fun w' => w'.cell? ⟨w.heap.size, 0, none⟩ = some (.int .i64 P1) ∧ w'.cell? ⟨w.heap.size, 1, none⟩ = some (.int .i64 n))
    (first | exact hS.out _ hk1 | exact hS.out _ hk0 | assumption | go_keep)
    (first
      | (go_at_call 117
         (with_reducible refine (HC.out _).mono ?_)
         rintro e w2 ⟨rfl, hB2⟩
         have hk1 := hk0.trans (hB2.mono hk0.size)))
  all_goals go_wp2
  all_goals go_ret
  all_goals exact ⟨rfl, HB.out.trans (hk1.mono HB.out.size)⟩
theorem at_name {P Q : Nat → Bool} {T : Nat → SR} {n : Nat} {nm : ByteArray} {p : Int} (h : NameOf P T n nm) (h' : AtP Q n p) (e : ∀ i, i < n → P i = Q i) :
    (∃ j, j < n ∧ p = (j : Nat) ∧ nm = (T j).nm) ∨ (p = -1 ∧ nm = ⟨#[]⟩) := by
  rcases h with ⟨j, h1, h2, h3, rfl⟩ | ⟨h1, rfl⟩ <;> rcases h' with ⟨k, k1, k2, k3, rfl⟩ | ⟨k1, rfl⟩
  · have : j = k := by
      rcases Nat.lt_trichotomy j k with h | h | h
      · have := k3 j h; rw [← e j h1, h2] at this; cases this
      · exact h
      · have := h3 k h; rw [e k k1, k2] at this; cases this
    subst this
    exact .inl ⟨j, h1, rfl, rfl⟩
  · have := k1 j h1; rw [← e j h1, h2] at this; cases this
  · have := h1 k k1; rw [e k k1, k2] at this; cases this
  · exact .inr ⟨rfl, rfl⟩
theorem sub_same {T : Nat → SR} {i : Nat} {k : Nat} {sb : Int} (hk : k = 1 ∨ k = 2) : isSub T (k : Nat) sb i = subR T (k : Nat) sb i := by
  rcases hk with rfl | rfl <;> simp [isSub, subR]
theorem num_same {T : Nat → SR} {i a : Nat} {x : Int} (ha : a < 5) (h : RngP (T i)) : isNum T a x i = (numR (T i) i a == x) := by
  have := (h a ha).1
  unfold isNum numAt numR
  by_cases h1 : numI (T i) a = -1
  · rw [if_pos h1, if_neg (by omega)]
  · rw [if_neg h1, if_pos (by omega)]
/-- What both say of a record. -/
theorem both_say {T : Nat → SR} {n : Nat} {r : RecV} {sm : Bool} {ab : Nat} {nm : ByteArray} {mu : Bool} {ab' p : Int} {mu' : Bool} (hok : OkT n T) (h : CallP T n r sm ab nm mu) (h' : RefP T n r ab' p mu') :
    (ab' = -1 ∧ sm = false ∧ ab = 0 ∧ nm = ⟨#[]⟩ ∧ mu = false) ∨ (ab' = (ab : Nat) ∧ sm = true ∧ mu' = mu ∧ ((∃ j, j < n ∧ p = (j : Nat) ∧ nm = (T j).nm) ∨ (p = -1 ∧ nm = ⟨#[]⟩))) := by
  rcases h with ⟨h1, h2, h3, h4, h5⟩ | ⟨h1, h2, h3, h4⟩ <;> rcases h' with ⟨k1, k2, k3, k4⟩ | ⟨k1, k2, k3⟩
  · exact .inl ⟨k2, h2, h3, h4, h5⟩
  · rw [h1] at k1; cases k1
  · rw [h1] at k1; cases k1
  · rw [← h3] at k2 k3
    have hab : ab < 5 := by rw [h3]; exact selA_lt _ _
    refine .inr ⟨k2, h2, ?_⟩
    rcases h4 with ⟨a1, a2, rfl, a4⟩ | ⟨a1, rfl, a3⟩ <;> rcases k3 with ⟨b1, b2, rfl, b4⟩ | ⟨b1, rfl, b3⟩
    · refine ⟨rfl, at_name a4 b4 fun i hi => sub_same ?_⟩
      unfold kindF at a2 ⊢
      split
      · exact .inl rfl
      · split
        · exact .inr rfl
        · rename_i x y; rw [if_neg x, if_neg y] at a2; exact absurd rfl a2
    · exact absurd ⟨a1, a2⟩ b1
    · exact absurd ⟨b1, b2⟩ a1
    · exact ⟨rfl, at_name a3 b3 fun i hi => num_same hab (row_ok (hok.2 i hi)).2.2.1⟩

theorem refCode_any {d : Int × Int} (h : actB d.1 d.2 = true) (w : World) : Calls Tryz.prog 74 #[.agg #[.int .i64 d.1, .int .i64 d.2]] w fun e w' => e = .returned (.int .i64 (codeOf d : Nat)) ∧ Below w.heap.size w w' := by
  obtain ⟨k, u⟩ := d
  obtain ⟨j, hj, hk, hm⟩ := actB_ok h
  have h2 := may_bd hm
  simp only at hk hm h2 ⊢
  subst hk
  have hc : ((codeOf ((j : Int) + 1, u) : Nat) : Int) = (kcA j : Int) + u := by
    unfold codeOf
    simp only
    rw [show ((j : Int) + 1 - 1).toNat = j by omega]
    omega
  rw [hc]
  exact code9_at j hj u (by omega) (by omega) w
/-- What is done with a record, by the document's call. -/
def actR (k u : Int) (x : Bool) (L : List RV) (T : Nat → SR) (ab p : Int) (mu : Bool) (q : Nat → Nat) : Int × Int :=
  if (decide (ab < 0) || (ab == 1 && !x)) = true then (1, 0) else if p < 0 then (k, u) else if mu = true then bliF k u L (T p.toNat).nm else decF k u L (T p.toNat).nm fun i => argF ab (q i)
theorem act_same {k u : Int} {x : Bool} {L : List RV} {T : Nat → SR} {n : Nat} {r : RecV} {sm : Bool} {ab : Nat} {nm : ByteArray} {mu : Bool} {ab' p : Int} {mu' : Bool} (hok : OkT n T) (h : CallP T n r sm ab nm mu) (h' : RefP T n r ab' p mu') (q : Nat → Nat) :
    actF k u x L sm ab nm mu q = actR k u x L T ab' p mu' q := by
  rcases both_say hok h h' with ⟨rfl, rfl, rfl, rfl, rfl⟩ | ⟨rfl, rfl, rfl, ⟨j, hj, rfl, rfl⟩ | ⟨rfl, rfl⟩⟩
  · rfl
  · have hne : (T j).nm ≠ ⟨#[]⟩ := fun e => (row_ok (hok.2 j hj)).1.1 (by rw [e]; rfl)
    have hb : ((ab : Int) == 1) = (ab == 1) := by rw [Bool.eq_iff_iff]; simp; omega
    unfold actF actR
    rw [hb, decide_eq_false (by omega : ¬ ((ab : Int) < 0)), if_neg hne, if_neg (by omega : ¬ ((j : Int) < 0)), show ((j : Int)).toNat = j by omega]
    rfl
  · have hb : ((ab : Int) == 1) = (ab == 1) := by rw [Bool.eq_iff_iff]; simp; omega
    unfold actF actR
    rw [hb, decide_eq_false (by omega : ¬ ((ab : Int) < 0)), if_pos rfl, if_pos (by decide : (-1 : Int) < 0)]
    rfl
theorem refp_at {T : Nat → SR} {n : Nat} {r : RecV} {ab p : Int} {mu : Bool} (h : RefP T n r ab p mu) : (p = -1 ∨ ∃ j : Nat, j < n ∧ p = j) ∧ (ab = -1 ∨ ∃ a : Nat, a < 5 ∧ ab = a) := by
  rcases h with ⟨_, rfl, rfl, _⟩ | ⟨_, rfl, h3⟩
  · exact ⟨.inl rfl, .inl rfl⟩
  · refine ⟨?_, .inr ⟨_, selA_lt _ _, rfl⟩⟩
    rcases h3 with ⟨_, _, _, ⟨j, hj, _, _, rfl⟩ | ⟨_, rfl⟩⟩ | ⟨_, _, ⟨j, hj, _, _, rfl⟩ | ⟨_, rfl⟩⟩
    · exact .inr ⟨j, hj, rfl⟩
    · exact .inl rfl
    · exact .inr ⟨j, hj, rfl⟩
    · exact .inl rfl
theorem actR_right {k u : Int} {L : List RV} (h : rightV k u L = true) (x : Bool) (T : Nat → SR) (ab p : Int) (mu : Bool) (q : Nat → Nat) : actB (actR k u x L T ab p mu q).1 (actR k u x L T ab p mu q).2 = true := by
  unfold actR
  repeat' split
  · decide
  · exact (act_mem h).1
  · exact bliF_right h _
  · exact decF_right h _ _
/-- What the document's Judge tells. -/
def RefJ (k u : Int) (x : Bool) (L : List RV) (T : Nat → SR) (tn : Nat) (r : RecV) (e : Ending) : Prop := ∃ ab p mu, RefP T tn r ab p mu ∧ e = .returned (.int .i64 (codeOf (actR k u x L T ab p mu r.q) : Nat))
set_option maxRecDepth 100000 in
set_option maxHeartbeats 8000000 in
theorem refJudge_any (k u : Int) (x : Bool) (A : Option Addr) (n c : Nat) (R : Nat → RL) (TA : Option Addr) (tn tcap : Nat) (T : Nat → SR) (r : RecV) (w : World) (hn : n ≤ 500) (h12 : ∀ i, i < n → (R i).n ≤ 1000) (hR : RlA w A n R) (hrv : rightV k u ((List.range n).map fun i => (R i).val) = true) (htn : tn ≤ 1000000) (ht : TbA w TA tn T) (hr : r.ok) :
    Calls Tryz.prog 42 #[.agg (polA k u x A n c), .slice TA tn tcap, .agg (rcells r)] w fun e w' => RefJ k u x ((List.range n).map fun i => (R i).val) T tn r e ∧ Below w.heap.size w w' := by
  obtain ⟨B, hBs⟩ : ∃ B, w.heap.size = B := ⟨_, rfl⟩
  obtain ⟨L, hL⟩ : ∃ L, (List.range n).map (fun i => (R i).val) = L := ⟨_, rfl⟩
  obtain ⟨W0, hW0⟩ : ∃ W, (w.alloc (.cells (polA k u x A n c) 39)).alloc (.cells (rcells r) 74) = W := ⟨_, rfl⟩
  have hb0 : Below B w W0 := by rw [← hW0, ← hBs]; exact ((Below.refl _ _).alloc (Nat.le_refl _) _).alloc (by simp) _
  have hp0 : RowC W0 B (polA k u x A n c) 39 := by rw [← hW0, ← hBs]; exact (RowC.new _ _ _ _ rfl).alloc _
  have hr0 : RowC W0 (B + 1) (rcells r) 74 := by rw [← hW0, ← hBs]; exact RowC.new _ _ _ _ (by simp)
  have hS0 : B + 2 = W0.heap.size := by rw [← hW0, ← hBs]; simp
  have hR0 := hR.below hb0 (Nat.le_of_eq hBs)
  have ht0 := ht.below hb0 (Nat.le_of_eq hBs)
  have hri : ∀ i, i < n → ∀ j, j < (R i).n → RiC ((R i).C j) := fun i hi j hj => by
    unfold rightV at hrv
    simp only [Bool.and_eq_true, decide_eq_true_eq, List.all_eq_true] at hrv
    have h := hrv.2.2 (R i).val (List.mem_map.2 ⟨i, List.mem_range.2 hi, rfl⟩)
    unfold mayV at h
    simp only [Bool.and_eq_true, decide_eq_true_eq, List.all_eq_true] at h
    exact h.2.2.2 ((R i).C j) (List.mem_map.2 ⟨j, List.mem_range.2 hj, rfl⟩)
  have kb := fun (W : World) (hW : Below W0.heap.size W0 W) (nm : ByteArray) => refBlind_any k u x A n c R nm W hn h12 (hR0.below hW (Nat.le_refl _))
  have kd := fun (W : World) (hW : Below W0.heap.size W0 W) (nm : ByteArray) (ab : Int) => refDecide_any k u x A n c R nm ab r.q W hn h12 (hR0.below hW (Nat.le_refl _)) hri hr.2.2.2
  rw [hL] at hrv kb kd ⊢
  have KB := Lib.hid kb
  have KD := Lib.hid kd
  have KC := Lib.hid fun (ab p : Int) (mu : Bool) (W : World) => refCode_any (actR_right hrv x T ab p mu r.q) W
  have KO := Lib.hid (refOf_any TA tn tcap T r hr W0 htn ht0)
  have HFX : Hid (∀ W, Below W0.heap.size W0 W → RowC W B (polA k u x A n c) 39 ∧ RowC W (B + 1) (rcells r) 74 ∧ TbA W TA tn T ∧ Below B w W) := Lib.hid fun W hW => ⟨hp0.below hW hp0.lt, hr0.below hW hr0.lt, ht0.below hW (Nat.le_refl _), hb0.trans (hW.mono (by omega))⟩
  have HW0 := Lib.hid hW0
  have HBS := Lib.hid hBs
  have HS0 := Lib.hid hS0
  have d0 := hr0.cell 0 (.int .u32 r.n) rfl
  have d1 := hr0.cell 1 (.int .u32 r.a) rfl
  have d2 := hr0.cell 2 (.int .u64 r.p) rfl
  have d3 := hr0.cell 3 (.int .u64 (r.q 0)) rfl
  have d4 := hr0.cell 4 (.int .u64 (r.q 1)) rfl
  have d5 := hr0.cell 5 (.int .u64 (r.q 2)) rfl
  have d6 := hr0.cell 6 (.int .u64 (r.q 3)) rfl
  have d7 := hr0.cell 7 (.int .u64 (r.q 4)) rfl
  have d8 := hr0.cell 8 (.int .u64 (r.q 5)) rfl
  clear hb0 hp0 hr0 hS0 hR0 ht0 hR ht hr hri hrv h12 hn kb kd hL
  unfold rcells at HW0 HFX KO hW0 ⊢
  go_enter Tryz.func42, Tryz.ntmps42
  go_upto_region 1 with fail
  (try rw [HW0.out])
  (try rw [hBs])
  clear hW0 hBs
  go_wp2_with fail
  refine KO.out.mono ?_
  rintro e w1 ⟨ab, p, mu, href, rfl, hB1⟩
  clear d0 d1 d2 d3 d4 d5 d6 d7 d8 KO
  have HREF := Lib.hid href
  have HAT := Lib.hid (refp_at href)
  clear href
  obtain ⟨C, hC⟩ : ∃ C, w1.heap.size = C := ⟨_, rfl⟩
  obtain ⟨W3, hW3⟩ : ∃ W, w1.alloc (.cells #[.int .i64 ab, .int .i64 p, .bool mu] 130) = W := ⟨_, rfl⟩
  have hB3 : Below w1.heap.size w1 W3 := by rw [← hW3]; exact (Below.refl _ _).alloc (Nat.le_refl _) _
  have hC3 : RowC W3 C #[.int .i64 ab, .int .i64 p, .bool mu] 130 := by rw [← hW3, ← hC]; exact RowC.new _ _ _ _ rfl
  have HB03 : Hid (Below W0.heap.size W0 W3) := Lib.hid (bTr hB1 hB3)
  have HC3 := Lib.hid hC3
  have HW3 := Lib.hid hW3
  have c0 := hC3.cell 0 (.int .i64 ab) rfl
  have c1 := hC3.cell 1 (.int .i64 p) rfl
  have c2 := hC3.cell 2 (.bool mu) rfl
  have hp3 := (HFX.out _ HB03.out).1
  have p0 := hp3.cell 0 (.int .i64 k) rfl
  have p1 := hp3.cell 1 (.int .i64 u) rfl
  have p2 := hp3.cell 2 (.bool x) rfl
  have p3 := hp3.cell 3 (.slice A n c) rfl
  obtain ⟨D, hD⟩ : ∃ D, actR k u x L T ab p mu r.q = D := ⟨_, rfl⟩
  have HEND : Hid (∀ W', Below W3.heap.size W3 W' → RefJ k u x L T tn r (.returned (.int .i64 (codeOf D : Nat))) ∧ Below w.heap.size w W') := Lib.hid fun W' hW' => ⟨⟨ab, p, mu, HREF.out, by rw [hD]⟩, by rw [HBS.out]; exact (HFX.out _ (bTr HB03.out hW')).2.2.2⟩
  have kc := KC.out ab p mu
  rw [hD] at kc
  have KC2 := Lib.hid kc
  clear kc KC hp3 hB3 hC3 hB1
  go_upto_region 2 with fail
  (try rw [hC])
  (try rw [HW3.out])
  clear hC hW3
  by_cases hk : (decide (ab < 0) || (ab == 1 && !x)) = true
  · have hd : D = (1, 0) := by rw [← hD]; unfold actR; rw [if_pos hk]
    subst hd
    clear hD
    rcases HAT.out.2 with rfl | ⟨a, ha, rfl⟩
    · clear hk
      go_wp2
      go_ret
      exact HEND.out W3 (Below.refl _ _)
    · have hk2 : ((a : Int) == 1) = true ∧ x = false := by
        have h0 : ¬ ((a : Int) < 0) := by omega
        rw [decide_eq_false h0] at hk
        simpa using hk
      obtain ⟨h1, rfl⟩ := hk2
      have g0 : decide ((a : Int) < 0) = false := decide_eq_false (by omega)
      clear hk
      go_wp2
      go_ret
      exact HEND.out W3 (Below.refl _ _)
  have hab : ∃ a : Nat, a < 5 ∧ ab = a := by
    rcases HAT.out.2 with rfl | h
    · exact absurd rfl hk
    · exact h
  obtain ⟨a, ha, rfl⟩ := hab
  unfold actR at hD
  rw [if_neg hk] at hD
  have g0 : decide ((a : Int) < 0) = false := decide_eq_false (by omega)
  rw [g0] at hk
  obtain ⟨b1, hb1⟩ : ∃ b1, ((a : Int) == 1) = b1 := ⟨_, rfl⟩
  rw [hb1] at hk
  have hkx : (b1 && !x) = false := by simpa using hk
  clear hk
  go_cut [23] from 11 to 23 (fun s wx => s = .bool false ∧ W3 = wx)
  case first =>
    cases b1 <;> cases x <;> simp only [Bool.true_and, Bool.false_and, Bool.not_false, Bool.not_true, reduceCtorEq] at hkx
    all_goals go_wp2
    all_goals go_meet
    all_goals exact ⟨rfl, rfl⟩
  case rest =>
  obtain ⟨rfl, rfl⟩ := hcut
  rcases HAT.out.1 with rfl | ⟨j, hj, rfl⟩
  · rw [if_pos (by decide : (-1 : Int) < 0)] at hD
    obtain ⟨D1, D2⟩ := D
    obtain ⟨rfl, rfl⟩ := Prod.mk.inj hD
    clear hD
    go_wp2_with fail
    refine (KC2.out _).mono ?_
    rintro e w9 ⟨rfl, hB9⟩
    go_wp2
    go_ret
    exact HEND.out _ hB9
  rw [if_neg (by omega : ¬ ((j : Int) < 0)), show ((j : Int)).toNat = j by omega] at hD
  have g1 : decide ((j : Int) < 0) = false := decide_eq_false (by omega)
  obtain ⟨b, o, rfl, htb⟩ := (HFX.out _ HB03.out).2.2.1.at_ hj
  have t0 := (htb.2 j hj).1
  have htl := htb.1
  obtain ⟨nm, hnm⟩ : ∃ nm, (T j).nm = nm := ⟨_, rfl⟩
  rw [hnm] at t0 hD
  have i1 : (0 : Int) ≤ (j : Int) := by omega
  have i2 : (j : Int) < (tn : Int) := by omega
  have HM : Hid (∀ w', Below W3.heap.size W3 w' → w'.cell? ⟨B, 0, none⟩ = some (.int .i64 k) ∧ w'.cell? ⟨B, 1, none⟩ = some (.int .i64 u) ∧ w'.cell? ⟨B, 2, none⟩ = some (.bool x) ∧ w'.cell? ⟨B, 3, none⟩ = some (.slice A n c) ∧ w'.cell? ⟨C, 0, none⟩ = some (.int .i64 (a : Nat)) ∧ w'.cell? ⟨C, 1, none⟩ = some (.int .i64 (j : Nat)) ∧ w'.cell? ⟨b, o + j * 8, none⟩ = some (.string nm) ∧ w'.cell? ⟨B + 1, 3, none⟩ = some (.int .u64 (r.q 0)) ∧ w'.cell? ⟨B + 1, 4, none⟩ = some (.int .u64 (r.q 1)) ∧ w'.cell? ⟨B + 1, 5, none⟩ = some (.int .u64 (r.q 2)) ∧ w'.cell? ⟨B + 1, 6, none⟩ = some (.int .u64 (r.q 3)) ∧ w'.cell? ⟨B + 1, 7, none⟩ = some (.int .u64 (r.q 4)) ∧ w'.cell? ⟨B + 1, 8, none⟩ = some (.int .u64 (r.q 5))) := Lib.hid fun W hW => by
    obtain ⟨h1, h2, _, _⟩ := HFX.out W (bTr HB03.out hW)
    have h3 := HC3.out.below hW HC3.out.lt
    exact ⟨h1.cell 0 _ rfl, h1.cell 1 _ rfl, h1.cell 2 _ rfl, h1.cell 3 _ rfl, h3.cell 0 _ rfl, h3.cell 1 _ rfl, (hW.cell (p := ⟨b, o + j * 8, none⟩) htl).trans t0, h2.cell 3 _ rfl, h2.cell 4 _ rfl, h2.cell 5 _ rfl, h2.cell 6 _ rfl, h2.cell 7 _ rfl, h2.cell 8 _ rfl⟩
  obtain ⟨_, _, _, _, _, m1, m2, m3, m4, m5, m6, m7, m8⟩ := HM.out W3 (Below.refl _ _)
  clear htb t0 htl hnm hj
  cases mu with
  | true =>
    rw [if_pos rfl] at hD
    have kb := fun W (hW : Below W3.heap.size W3 W) => KB.out W (bTr HB03.out hW) nm
    simp only [hD] at kb
    have KB2 := Lib.hid kb
    obtain ⟨D1, D2⟩ := D
    clear kb KB KD hD
    go_upto_region 7 with fail
    go_region_held3 (fun w' => w'.cell? ⟨B, 0, none⟩ = some (.int .i64 k) ∧ w'.cell? ⟨B, 1, none⟩ = some (.int .i64 u) ∧ w'.cell? ⟨B, 2, none⟩ = some (.bool x) ∧ w'.cell? ⟨B, 3, none⟩ = some (.slice A n c) ∧ w'.cell? ⟨C, 0, none⟩ = some (.int .i64 (a : Nat)) ∧ w'.cell? ⟨C, 1, none⟩ = some (.int .i64 (j : Nat)) ∧ w'.cell? ⟨b, o + j * 8, none⟩ = some (.string nm) ∧ w'.cell? ⟨B + 1, 3, none⟩ = some (.int .u64 (r.q 0)) ∧ w'.cell? ⟨B + 1, 4, none⟩ = some (.int .u64 (r.q 1)) ∧ w'.cell? ⟨B + 1, 5, none⟩ = some (.int .u64 (r.q 2)) ∧ w'.cell? ⟨B + 1, 6, none⟩ = some (.int .u64 (r.q 3)) ∧ w'.cell? ⟨B + 1, 7, none⟩ = some (.int .u64 (r.q 4)) ∧ w'.cell? ⟨B + 1, 8, none⟩ = some (.int .u64 (r.q 5)))
      (first | (with_reducible exact HM.out _ (by assumption)) | exact HM.out _ (Below.refl _ _) | exact HM.out _ (Below.refl _ _).drew)
      (first
        | (go_at_call 36
           refine (KB2.out _ (Below.refl _ _).drew).mono ?_
           rintro e w7 ⟨rfl, hB7⟩
           have hk7 : Below W3.heap.size W3 w7 := (Below.refl _ _).drew.trans hB7)
        | (go_at_call 74
           refine (KC2.out _).mono ?_
           rintro e w8 ⟨rfl, hB8⟩
           have hk8 : Below W3.heap.size W3 w8 := bTr hk7 hB8))
    all_goals go_wp2
    all_goals go_ret
    all_goals exact HEND.out _ hk8
  | false =>
    rw [if_neg (by decide)] at hD
    have kd := fun W (hW : Below W3.heap.size W3 W) => KD.out W (bTr HB03.out hW) nm (a : Nat)
    simp only [hD] at kd
    have KD2 := Lib.hid kd
    obtain ⟨D1, D2⟩ := D
    clear kd KB KD hD
    go_upto_region 8 with fail
    go_region_held3 (fun w' => w'.cell? ⟨B, 0, none⟩ = some (.int .i64 k) ∧ w'.cell? ⟨B, 1, none⟩ = some (.int .i64 u) ∧ w'.cell? ⟨B, 2, none⟩ = some (.bool x) ∧ w'.cell? ⟨B, 3, none⟩ = some (.slice A n c) ∧ w'.cell? ⟨C, 0, none⟩ = some (.int .i64 (a : Nat)) ∧ w'.cell? ⟨C, 1, none⟩ = some (.int .i64 (j : Nat)) ∧ w'.cell? ⟨b, o + j * 8, none⟩ = some (.string nm) ∧ w'.cell? ⟨B + 1, 3, none⟩ = some (.int .u64 (r.q 0)) ∧ w'.cell? ⟨B + 1, 4, none⟩ = some (.int .u64 (r.q 1)) ∧ w'.cell? ⟨B + 1, 5, none⟩ = some (.int .u64 (r.q 2)) ∧ w'.cell? ⟨B + 1, 6, none⟩ = some (.int .u64 (r.q 3)) ∧ w'.cell? ⟨B + 1, 7, none⟩ = some (.int .u64 (r.q 4)) ∧ w'.cell? ⟨B + 1, 8, none⟩ = some (.int .u64 (r.q 5)))
      (first | (with_reducible exact HM.out _ (by assumption)) | exact HM.out _ (Below.refl _ _) | exact HM.out _ (Below.refl _ _).drew)
      (first
        | (go_at_call 35
           refine (KD2.out _ (Below.refl _ _).drew).mono ?_
           rintro e w7 ⟨rfl, hB7⟩
           have hk7 : Below W3.heap.size W3 w7 := (Below.refl _ _).drew.trans hB7)
        | (go_at_call 74
           refine (KC2.out _).mono ?_
           rintro e w8 ⟨rfl, hB8⟩
           have hk8 : Below W3.heap.size W3 w8 := bTr hk7 hB8))
    all_goals go_wp2
    all_goals go_ret
    all_goals exact HEND.out _ hk8
end Go.Proofs.YtcmdmnnkbliggaaGreatDoor

/-
  How an argument that is a policy, a table, a record, a number and six more is opened; whether a condition asks an argument.
-/
namespace Go.Proofs.YtcmdmnnkbliggaaGreatDoor
open Go.ChangeShapes Go.WideShapes Go.RowKit Go.Deep Go.Shelf
set_option linter.unusedVariables false
set_option maxRecDepth 100000

section
variable {H : Type} {enc : TypeId × Value → H}
theorem pol_cells {w : World} {base : Nat} {spare : Nat → Bool} {held : Bool} {fuel : Nat} {cs : List Value} {y : DataW H × List MemPlace} (hf : DataW.trod enc Tryz.prog w base spare held fuel 39 cs = some y) :
    ∃ (k u : Int) (x : Bool) (A : Option Addr) (n c : Nat) (R : Nat → RL), cs = [.int .i64 k, .int .i64 u, .bool x, .slice A n c] ∧ (Lit.int .i64 k).wf = true ∧ (Lit.int .i64 u).wf = true ∧ n ≤ c ∧ c ≤ maxLen ∧ RlA w A n R := by
  have hC : Tryz.prog.cellsOf 39 = 4 := by kernel_rfl
  have hCb : Tryz.prog.cellsOf 4 = 1 := by kernel_rfl
  have hCa : Tryz.prog.cellsOf 36 = 2 := by kernel_rfl
  have hCl : Tryz.prog.cellsOf 37 = 1 := by kernel_rfl
  obtain ⟨xs, q, _, _, hl, hxl, hg⟩ := DataW.trod_struct Tryz.underlying39 hf
  rw [hC] at hl
  match cs, hl with
  | [c0, c1, c2, c3], _ =>
    have hx : ∀ j, j < 3 → ∃ y, xs[j]? = some y := fun j hj => ⟨xs[j]'(by rw [hxl]; exact hj), List.getElem?_eq_getElem _⟩
    obtain ⟨y0, z0⟩ := hx 0 (by decide)
    obtain ⟨y1, z1⟩ := hx 1 (by decide)
    obtain ⟨y2, z2⟩ := hx 2 (by decide)
    have g0 : DataW.trod enc Tryz.prog w base spare held q 36 [c0, c1] = some y0 := by
      have h : DataW.trod enc Tryz.prog w base spare held q 36 (([c0, c1, c2, c3].drop 0).take (Tryz.prog.cellsOf 36)) = xs[0]? := hg 0 _ rfl
      rw [hCa, z0] at h
      exact h
    have g1 : DataW.trod enc Tryz.prog w base spare held q 4 [c2] = some y1 := by
      have h : DataW.trod enc Tryz.prog w base spare held q 4 (([c0, c1, c2, c3].drop 2).take (Tryz.prog.cellsOf 4)) = xs[1]? := hg 1 _ rfl
      rw [hCb, z1] at h
      exact h
    have g2 : DataW.trod enc Tryz.prog w base spare held q 37 [c3] = some y2 := by
      have h : DataW.trod enc Tryz.prog w base spare held q 37 (([c0, c1, c2, c3].drop 3).take (Tryz.prog.cellsOf 37)) = xs[2]? := hg 2 _ rfl
      rw [hCl, z2] at h
      exact h
    obtain ⟨k, u, rfl, rfl, lk, lu⟩ := trodAct g0
    obtain ⟨x, rfl⟩ := trodB g1
    obtain ⟨A, n, c, R, rfl, l3, l4, l5⟩ := trodRules g2
    exact ⟨k, u, x, A, n, c, R, rfl, lk, lu, l3, l4, l5⟩
set_option maxHeartbeats 1000000 in
theorem open_blind17 {r : Reach} {w : World} {b0 base : Nat} {spare : Nat → Bool} {held : Bool} {v : Value} {d : DataW H} {p : List MemPlace} (hv : Value.okWide Tryz.prog w r b0 91 v) (h : DataW.Trod enc Tryz.prog w base spare held 91 v d p) :
    ∃ (k u : Int) (x : Bool) (A : Option Addr) (n c : Nat) (R : Nat → RL) (TA : Option Addr) (tn tcap : Nat) (T : Nat → SR) (g : RecV) (z : Nat) (f : Nat → Nat), v = .agg #[.int .i64 k, .int .i64 u, .bool x, .slice A n c, .slice TA tn tcap, .int .u32 g.n, .int .u32 g.a, .int .u64 g.p, .int .u64 (g.q 0), .int .u64 (g.q 1), .int .u64 (g.q 2), .int .u64 (g.q 3), .int .u64 (g.q 4), .int .u64 (g.q 5), .int .u64 z, .int .u64 (f 0), .int .u64 (f 1), .int .u64 (f 2), .int .u64 (f 3), .int .u64 (f 4), .int .u64 (f 5)] ∧ n ≤ c ∧ c ≤ maxLen ∧ RlA w A n R ∧ TbA w TA tn T ∧ g.ok ∧ z < 18446744073709551616 ∧ ∀ i, f i < 18446744073709551616 := by
  have hC : Tryz.prog.cellsOf 91 = 21 := by kernel_rfl
  obtain ⟨cs, rfl, hsz⟩ := okWide_struct Tryz.underlying91 hv
  obtain ⟨l⟩ := cs
  match l, hsz.trans hC with
  | [c0, c1, c2, c3, c4, c5, c6, c7, c8, c9, c10, c11, c12, c13, c14, c15, c16, c17, c18, c19, c20], _ =>
    obtain ⟨fuel, hf⟩ := h
    obtain ⟨xs, n, _, _, _, hlen, hg⟩ := DataW.trod_struct Tryz.underlying91 hf
    have k0 : Tryz.prog.cellsOf 39 = 4 := by kernel_rfl
    have k1 : Tryz.prog.cellsOf 44 = 1 := by kernel_rfl
    have k2 : Tryz.prog.cellsOf 74 = 9 := by kernel_rfl
    have k3 : Tryz.prog.cellsOf 59 = 1 := by kernel_rfl
    have k4 : Tryz.prog.cellsOf 66 = 6 := by kernel_rfl
    have hx : ∀ j, j < 5 → ∃ y, xs[j]? = some y := fun j hj => ⟨xs[j]'(by rw [hlen]; exact hj), List.getElem?_eq_getElem _⟩
    obtain ⟨y0, z0⟩ := hx 0 (by decide)
    obtain ⟨y1, z1⟩ := hx 1 (by decide)
    obtain ⟨y2, z2⟩ := hx 2 (by decide)
    obtain ⟨y3, z3⟩ := hx 3 (by decide)
    obtain ⟨y4, z4⟩ := hx 4 (by decide)
    have g0 : DataW.trod enc Tryz.prog w base spare held n 39 [c0, c1, c2, c3] = some y0 := by
      have h : DataW.trod enc Tryz.prog w base spare held n 39 (([c0, c1, c2, c3, c4, c5, c6, c7, c8, c9, c10, c11, c12, c13, c14, c15, c16, c17, c18, c19, c20].drop 0).take (Tryz.prog.cellsOf 39)) = xs[0]? := hg 0 _ rfl
      rw [k0, z0] at h
      exact h
    have g1 : DataW.trod enc Tryz.prog w base spare held n 44 [c4] = some y1 := by
      have h : DataW.trod enc Tryz.prog w base spare held n 44 (([c0, c1, c2, c3, c4, c5, c6, c7, c8, c9, c10, c11, c12, c13, c14, c15, c16, c17, c18, c19, c20].drop 4).take (Tryz.prog.cellsOf 44)) = xs[1]? := hg 1 _ rfl
      rw [k1, z1] at h
      exact h
    have g2 : DataW.trod enc Tryz.prog w base spare held n 74 [c5, c6, c7, c8, c9, c10, c11, c12, c13] = some y2 := by
      have h : DataW.trod enc Tryz.prog w base spare held n 74 (([c0, c1, c2, c3, c4, c5, c6, c7, c8, c9, c10, c11, c12, c13, c14, c15, c16, c17, c18, c19, c20].drop 5).take (Tryz.prog.cellsOf 74)) = xs[2]? := hg 2 _ rfl
      rw [k2, z2] at h
      exact h
    have g3 : DataW.trod enc Tryz.prog w base spare held n 59 [c14] = some y3 := by
      have h : DataW.trod enc Tryz.prog w base spare held n 59 (([c0, c1, c2, c3, c4, c5, c6, c7, c8, c9, c10, c11, c12, c13, c14, c15, c16, c17, c18, c19, c20].drop 14).take (Tryz.prog.cellsOf 59)) = xs[3]? := hg 3 _ rfl
      rw [k3, z3] at h
      exact h
    have g4 : DataW.trod enc Tryz.prog w base spare held n 66 [c15, c16, c17, c18, c19, c20] = some y4 := by
      have h : DataW.trod enc Tryz.prog w base spare held n 66 (([c0, c1, c2, c3, c4, c5, c6, c7, c8, c9, c10, c11, c12, c13, c14, c15, c16, c17, c18, c19, c20].drop 15).take (Tryz.prog.cellsOf 66)) = xs[4]? := hg 4 _ rfl
      rw [k4, z4] at h
      exact h
    obtain ⟨k, u, x, A, n9, c9, R, hpc, _, _, l3, l4, l5⟩ := pol_cells g0
    simp only [List.cons.injEq, and_true] at hpc
    obtain ⟨rfl, rfl, rfl, rfl⟩ := hpc
    obtain ⟨TA, tn, tcap, hA⟩ : ∃ A m c, c4 = .slice A m c := by
      rcases open_slice Tryz.underlying44 g1 with ⟨hcs, _⟩ | ⟨a, len, cap, m, k, D, Pl, hcs, _⟩
      · exact ⟨_, _, _, (List.cons.injEq _ _ _ _ ▸ hcs).1⟩
      · exact ⟨_, _, _, (List.cons.injEq _ _ _ _ ▸ hcs).1⟩
    subst hA
    obtain ⟨T, hT⟩ := open_rows (A := TA) (n := tn) (c := tcap) ⟨n, g1⟩
    obtain ⟨g, hgc, hgo⟩ := rec_cells g2
    simp only [rcells, List.cons.injEq, and_true] at hgc
    obtain ⟨rfl, rfl, rfl, rfl, rfl, rfl, rfl, rfl, rfl⟩ := hgc
    obtain ⟨n2, e2, _, w2⟩ := DataW.trod_int Tryz.underlying59 g3
    simp only [List.cons.injEq, and_true] at e2
    subst e2
    have hq := arr_ints Tryz.underlying66 Tryz.underlying59 k3 g4
    obtain ⟨n3, e3, w3⟩ := hq 0 (by decide)
    obtain ⟨n4, e4, w4⟩ := hq 1 (by decide)
    obtain ⟨n5, e5, w5⟩ := hq 2 (by decide)
    obtain ⟨n6, e6, w6⟩ := hq 3 (by decide)
    obtain ⟨n7, e7, w7⟩ := hq 4 (by decide)
    obtain ⟨n8, e8, w8⟩ := hq 5 (by decide)
    simp only [List.getElem?_cons_zero, List.getElem?_cons_succ, Option.some.injEq] at e3 e4 e5 e6 e7 e8
    subst e3 e4 e5 e6 e7 e8
    simp [Lit.wf, IntKind.min, IntKind.max, IntKind.signed, IntKind.bits] at w2 w3 w4 w5 w6 w7 w8
    obtain ⟨x2, rfl⟩ := Int.eq_ofNat_of_zero_le w2.1
    obtain ⟨x3, rfl⟩ := Int.eq_ofNat_of_zero_le w3.1
    obtain ⟨x4, rfl⟩ := Int.eq_ofNat_of_zero_le w4.1
    obtain ⟨x5, rfl⟩ := Int.eq_ofNat_of_zero_le w5.1
    obtain ⟨x6, rfl⟩ := Int.eq_ofNat_of_zero_le w6.1
    obtain ⟨x7, rfl⟩ := Int.eq_ofNat_of_zero_le w7.1
    obtain ⟨x8, rfl⟩ := Int.eq_ofNat_of_zero_le w8.1
    have b2 : x2 < 18446744073709551616 := by omega
    have b3 : x3 < 18446744073709551616 := by omega
    have b4 : x4 < 18446744073709551616 := by omega
    have b5 : x5 < 18446744073709551616 := by omega
    have b6 : x6 < 18446744073709551616 := by omega
    have b7 : x7 < 18446744073709551616 := by omega
    have b8 : x8 < 18446744073709551616 := by omega
    refine ⟨k, u, x, A, n9, c9, R, TA, tn, tcap, T, g, x2, fun i => match i with | 0 => x3 | 1 => x4 | 2 => x5 | 3 => x6 | 4 => x7 | _ => x8, rfl, l3, l4, l5, hT, hgo, b2, fun i => ?_⟩
    match i with
    | 0 => exact b3
    | 1 => exact b4
    | 2 => exact b5
    | 3 => exact b6
    | 4 => exact b7
    | (_ + 5) => exact b8
end
theorem fld3 (a b c d : Value) (W : World) : (Instr.field 88 (.agg #[a, b, c, d]) 3).run Tryz.prog W = .ok d W := by kernel_rfl
/-- Does a condition ask an argument? -/
def askF (L : List RV) (a : Int) : Bool := L.any fun v => v.L.any fun c => decide (c.a = a)
theorem askF_range (R : Nat → RL) (n : Nat) (a : Int) : askF ((List.range n).map fun i => (R i).val) a = (List.range n).any fun i => (List.range (R i).n).any fun j => decide (((R i).C j).a = a) := by
  unfold askF
  rw [List.any_map]
  refine congrArg (fun p => List.any (List.range n) p) (funext fun i => ?_)
  show ((List.range (R i).n).map (R i).C).any _ = _
  rw [List.any_map]
  rfl
theorem any_snoc17 (g : Nat → Bool) (t : Nat) : (List.range (t + 1)).any g = ((List.range t).any g || g t) := by
  rw [List.range_succ, List.any_append]
  simp
set_option maxHeartbeats 8000000 in
theorem asked_any (k u : Int) (x : Bool) (A : Option Addr) (n c : Nat) (R : Nat → RL) (a : Int) (w : World) (hn : n ≤ 500) (h12 : ∀ i, i < n → (R i).n ≤ 1000) (hR : RlA w A n R) :
    Calls Tryz.prog 47 #[.agg (polA k u x A n c), .int .i64 a] w fun e w' => e = .returned (.bool (askF ((List.range n).map fun i => (R i).val) a)) ∧ Below w.heap.size w w' := by
  obtain ⟨W0, hW0⟩ : ∃ W, w.alloc (.cells (polA k u x A n c) 39) = W := ⟨_, rfl⟩
  have hb0 : Below w.heap.size w W0 := by rw [← hW0]; exact (Below.refl _ _).alloc (Nat.le_refl _) _
  have hp0 : RowC W0 w.heap.size (polA k u x A n c) 39 := by rw [← hW0]; exact RowC.new _ _ _ _ rfl
  rw [askF_range]
  obtain ⟨rv, hrv⟩ : ∃ rv, ((List.range n).any fun i => (List.range (R i).n).any fun j => decide (((R i).C j).a = a)) = rv := ⟨_, rfl⟩
  rw [hrv]
  have HRV := Lib.hid hrv
  have HB0 := Lib.hid hb0
  have HW0 := Lib.hid hW0
  have HR0 := Lib.hid (hR.below hb0 (Nat.le_refl _))
  have H12 := Lib.hid h12
  have p3 := hp0.cell 3 (.slice A n c) rfl
  clear hb0 hp0 hR hrv hW0 h12
  go_enter Tryz.func47, Tryz.ntmps47
  go_upto_region 1 with fail
  rw [HW0.out]
  go_wp2
  go_loopw [5] (fun s wr => ∃ i : Nat, i ≤ n ∧ s = .int .i64 i ∧ wr = W0 ∧ Hid (((List.range i).any fun i => (List.range (R i).n).any fun j => decide (((R i).C j).a = a)) = false)) (fun s _ => n - (intOf s).toNat)
  case atStart => exact ⟨0, Nat.zero_le _, rfl, rfl, Lib.hid rfl⟩
  case round =>
    obtain ⟨i, hi, rfl, rfl, HI⟩ := hrel
    by_cases hlt : i < n
    · rcases HR0.out with h0 | ⟨b2, o2, rfl, hbl, hc⟩
      · omega
      obtain ⟨_, _, _, q3, hrest⟩ := hc i hlt
      have hcon := hrest.2.2.2.2.2
      have hrn := H12.out i hlt
      obtain ⟨r, hr⟩ : ∃ r, R i = r := ⟨_, rfl⟩
      rw [hr] at q3 hcon hrn
      have HR := Lib.hid hr
      have HCON := Lib.hid hcon
      have i1 : (0 : Int) ≤ (i : Int) := by omega
      have i2 : (i : Int) < (n : Int) := by omega
      clear hc hbl hrest hcon hr
      go_wp2
      go_loopw [6] (fun s wr' => ∃ j : Nat, j ≤ r.n ∧ s = .int .i64 j ∧ wr' = wr ∧ Hid (((List.range j).any fun j => decide ((r.C j).a = a)) = false)) (fun s _ => r.n - (intOf s).toNat)
      case atStart => exact ⟨0, Nat.zero_le _, rfl, rfl, Lib.hid rfl⟩
      case round =>
        obtain ⟨j, hj, rfl, rfl, HJ⟩ := hrel
        by_cases hlj : j < r.n
        · rcases HCON.out with h0 | ⟨b3, o3, hA3, hbl, hcs⟩
          · omega
          obtain ⟨d0, _⟩ := hcs j hlj
          rw [Nat.add_zero] at d0
          rw [hA3] at q3
          have j1 : (0 : Int) ≤ (j : Int) := by omega
          have j2 : (j : Int) < (r.n : Int) := by omega
          obtain ⟨t, ht⟩ : ∃ t, ((r.C j).a == a) = t := ⟨_, rfl⟩
          have HT := Lib.hid ht
          clear hcs hbl
          cases t with
          | false =>
            have hne : decide ((r.C j).a = a) = false := decide_eq_false (by simpa using ht)
            have HJ2 : Hid (((List.range (j + 1)).any fun j => decide ((r.C j).a = a)) = false) := Lib.hid (by rw [any_snoc17, HJ.out, hne]; rfl)
            go_wp2
            exact ⟨⟨j + 1, by omega, by go_num, trivial, HJ2⟩, by simp [intOf]; omega⟩
          | true =>
            have hne : decide ((r.C j).a = a) = true := decide_eq_true (by simpa using ht)
            have HE : Hid (rv = true) := Lib.hid (by
              rw [← HRV.out]
              refine List.any_eq_true.2 ⟨i, List.mem_range.2 hlt, ?_⟩
              rw [HR.out]
              exact List.any_eq_true.2 ⟨j, List.mem_range.2 hlj, hne⟩)
            go_wp2
            go_ret
            exact ⟨by rw [HE.out]; rfl, HB0.out⟩
        · obtain rfl : j = r.n := by omega
          have HI2 : Hid (((List.range (i + 1)).any fun i => (List.range (R i).n).any fun j => decide (((R i).C j).a = a)) = false) := Lib.hid (by rw [any_snoc17, HI.out, HR.out, HJ.out]; rfl)
          go_wp2
          exact ⟨⟨i + 1, by omega, by go_num, trivial, HI2⟩, by simp [intOf]; omega⟩
    · obtain rfl : i = n := by omega
      have HE : Hid (rv = false) := Lib.hid (by rw [← HRV.out]; exact HI.out)
      go_wp2
      go_ret
      exact ⟨by rw [HE.out]; rfl, HB0.out⟩
end Go.Proofs.YtcmdmnnkbliggaaGreatDoor
