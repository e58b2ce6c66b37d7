/-
  Words for CheckFree: whether what a program may do hangs on no number of an instruction; the contract of the law's own free.
-/
import Derived.Test.YtdkmomdekngpnabKr
namespace Go.Proofs.Ytdkmomdekngpnab
open Go.RowKit

def freeB (K : Int) (X : Bool) : Bool := (K == 2 || K == 5 || K == 14 || K == 15 || X) || (decide (K ≥ 16) && K != 19 && K != 22 && K != 23)
def freeV (v : IV) : Bool := freeB (kd v) (xx v)
theorem ofF_x (c : Int) (h : (ofF c).2.1 = true) : 16 ≤ (ofF c).1 := by
  unfold ofF at h ⊢
  rcases ha : assoc codesKV c with _ | k
  · rw [ha] at h
    dsimp only at h ⊢
    split
    · assumption
    · rename_i hn; rw [if_neg hn] at h; cases h
  · rw [ha] at h; cases h
theorem free_fin : ∀ K : Fin 29, ∀ X : Bool, (X = true → 16 ≤ K.val) → freeB (K.val : Int) X = true →
    K.val ≠ 1 ∧ K.val ≠ 3 ∧ K.val ≠ 6 ∧ K.val ≠ 8 ∧ K.val ≠ 9 ∧ K.val ≠ 13 ∧ ¬(K.val = 19 ∧ X = false) ∧ ¬((K.val = 22 ∨ K.val = 23) ∧ X = false) := by decide
theorem free_facts (v : IV) (h : freeV v = true) : ¬ kd v = 1 ∧ isLd v = false ∧ isSt v = false ∧ ¬ kd v = 13 ∧ ¬(kd v = 19 ∧ xx v = false) ∧ ¬((kd v = 22 ∨ kd v = 23) ∧ xx v = false) := by
  have hx : xx v = true → 16 ≤ kd v := ofF_x v.c
  have hr := kd_range v
  unfold freeV at h
  unfold isLd isSt
  obtain ⟨K, hK⟩ : ∃ K : Nat, kd v = (K : Int) := ⟨(kd v).toNat, by omega⟩
  rw [hK] at h hx hr ⊢
  obtain ⟨f1, f2, f3, f4, f5, f6, f7, f8⟩ := free_fin ⟨K, by omega⟩ (xx v) (fun hh => by have := hx hh; show 16 ≤ K; omega) h
  dsimp only at f1 f2 f3 f4 f5 f6 f7 f8
  refine ⟨by omega, ?_, ?_, by omega, fun hh => f7 ⟨by omega, hh.2⟩, fun hh => f8 ⟨by omega, hh.2⟩⟩
  · have e1 : ((K : Int) == 3) = false := by simp; omega
    have e2 : ((K : Int) == 6) = false := by simp; omega
    rw [e1, e2]; rfl
  · have e1 : ((K : Int) == 8) = false := by simp; omega
    have e2 : ((K : Int) == 9) = false := by simp; omega
    rw [e1, e2]; rfl
theorem alone_free (v : IV) (r : Nat) (h : freeV v = true) : alone v r = if kd v = 0 then 5 else if isBr v = true ∧ (r ≤ v.t ∨ r ≤ v.f) then 10 else 0 := by
  obtain ⟨f1, f2, f3, f4, f5, f6⟩ := free_facts v h
  have e1 : ¬ (kd v = 1 ∧ (v.k % 4 ≠ 0 ∨ 64 ≤ v.k)) := fun hh => f1 hh.1
  have e2 : ¬ ((isLd v = true ∨ isSt v = true) ∧ 16 ≤ v.k) := fun hh => by rw [f2, f3] at hh; simp at hh
  have e3 : ¬ (kd v = 19 ∧ xx v = false ∧ v.k = 0) := fun hh => f5 ⟨hh.1, hh.2.1⟩
  have e4 : ¬ ((kd v = 22 ∨ kd v = 23) ∧ xx v = false ∧ 31 < v.k) := fun hh => f6 ⟨hh.1, hh.2.1⟩
  unfold alone
  rw [if_neg e1, if_neg e2, if_neg e3, if_neg e4]
  simp only [f4, false_and, false_or]

/-- The program with other numbers at the free ones below j. -/
def gk (g : Nat → IV) (N : Nat → Nat) (j i : Nat) : IV := if i < j ∧ freeV (g i) = true then ⟨(g i).c, (g i).t, (g i).f, N i⟩ else g i
theorem gk_kd (g : Nat → IV) (N : Nat → Nat) (j i : Nat) : kd (gk g N j i) = kd (g i) ∧ xx (gk g N j i) = xx (g i) ∧ (gk g N j i).t = (g i).t ∧ (gk g N j i).f = (g i).f ∧ (gk g N j i).c = (g i).c := by
  unfold gk; split <;> exact ⟨rfl, rfl, rfl, rfl, rfl⟩
theorem gk_alone (g : Nat → IV) (N : Nat → Nat) (j i r : Nat) : alone (gk g N j i) r = alone (g i) r := by
  by_cases h : i < j ∧ freeV (g i) = true
  · obtain ⟨h1, h2, h3, h4, _⟩ := gk_kd g N j i
    have hf : freeV (gk g N j i) = true := by unfold freeV; rw [h1, h2]; exact h.2
    rw [alone_free _ _ hf, alone_free _ _ h.2]
    unfold isBr
    rw [h1, h3, h4]
  · unfold gk; rw [if_neg h]
theorem gk_st (g : Nat → IV) (N : Nat → Nat) (j i : Nat) (h : isSt (g i) = true ∨ isLd (g i) = true ∨ kd (g i) = 13) : gk g N j i = g i := by
  unfold gk
  rw [if_neg]
  rintro ⟨_, hf⟩
  obtain ⟨_, f2, f3, f4, _⟩ := free_facts _ hf
  rcases h with h | h | h
  · rw [f3] at h; cases h
  · rw [f2] at h; cases h
  · exact f4 h
theorem gk_fars (g : Nat → IV) (N : Nat → Nat) (j i : Nat) : fars (gk g N j i) = fars (g i) := by
  obtain ⟨h1, _, h3, h4, _⟩ := gk_kd g N j i
  by_cases h : kd (g i) = 13
  · rw [gk_st g N j i (.inr (.inr h))]
  · have hr : isRet (gk g N j i) = isRet (g i) := by unfold isRet; rw [h1]
    have hb : isBr (gk g N j i) = isBr (g i) := by unfold isBr; rw [h1]
    unfold fars
    rw [hr, hb, h1, h3, h4, if_neg h, if_neg h]
theorem gk_stk (g : Nat → IV) (N : Nat → Nat) (j i c : Nat) : (isSt (gk g N j i) && (gk g N j i).k == c) = (isSt (g i) && (g i).k == c) := by
  have hs : isSt (gk g N j i) = isSt (g i) := by unfold isSt; rw [(gk_kd g N j i).1]
  cases h : isSt (g i)
  · rw [hs, h]; rfl
  · rw [gk_st g N j i (.inl h), h]
theorem gk_reach (g : Nat → IV) (N : Nat → Nat) (j c : Nat) : ∀ t i, reach (gk g N j) c t i = reach g c t i
  | 0, _ => rfl
  | t + 1, i => by
    show (reach (gk g N j) c t i || (reach (gk g N j) c t t && !(isSt (gk g N j t) && (gk g N j t).k == c) && (fars (gk g N j t)).any (fun f => i == t + 1 + f))) = (reach g c t i || (reach g c t t && !(isSt (g t) && (g t).k == c) && (fars (g t)).any (fun f => i == t + 1 + f)))
    rw [gk_reach g N j c t i, gk_reach g N j c t t, gk_stk, gk_fars]
theorem gk_check (g : Nat → IV) (N : Nat → Nat) (j n : Nat) : checkF (gk g N j) n = checkF g n := by
  have hf : formedF (gk g N j) n = formedF g n := by
    have h1 : (fun i => alone (gk g N j i) (n - 1 - i)) = fun i => alone (g i) (n - 1 - i) := funext fun i => gk_alone g N j i _
    have h2 : isRet (gk g N j (n - 1)) = isRet (g (n - 1)) := by unfold isRet; rw [(gk_kd g N j (n - 1)).1]
    unfold formedF
    rw [h1, h2]
  have hi : (fun i => if isLd (gk g N j i) = true ∧ reach (gk g N j) (gk g N j i).k n i = true then 12 else 0) = fun i => if isLd (g i) = true ∧ reach g (g i).k n i = true then 12 else 0 := funext fun i => by
    have hl : isLd (gk g N j i) = isLd (g i) := by unfold isLd; rw [(gk_kd g N j i).1]
    rw [gk_reach, hl]
    cases h : isLd (g i)
    · rfl
    · rw [gk_st g N j i (.inr (.inl h))]
  unfold checkF
  rw [hf, hi]
theorem gk_ok (g : Nat → IV) (N : Nat → Nat) (j i : Nat) (h : (g i).ok) (hN : i < j → N i < 4294967296) : (gk g N j i).ok := by
  unfold gk
  split
  · rename_i hh; exact ⟨h.1, h.2.1, h.2.2.1, hN hh.1⟩
  · exact h
theorem gk_step (g : Nat → IV) (N : Nat → Nat) (j : Nat) (hf : freeV (g j) = true) (i : Nat) : (if i = j * 4 + 3 then Value.int .u32 (N j : Nat) else icell (gk g N j) i) = icell (gk g N (j + 1)) i := by
  by_cases h : i / 4 = j
  · have e1 : gk g N (j + 1) (i / 4) = ⟨(g j).c, (g j).t, (g j).f, N j⟩ := by unfold gk; rw [h, if_pos ⟨by omega, hf⟩]
    have e2 : gk g N j (i / 4) = g j := by unfold gk; rw [h, if_neg (by omega)]
    unfold icell
    rw [e1, e2]
    by_cases h3 : i = j * 4 + 3
    · rw [if_pos h3, if_neg (by omega), if_neg (by omega), if_neg (by omega)]
    · rw [if_neg h3]
      by_cases c0 : i % 4 = 0
      · rw [if_pos c0, if_pos c0]
      · rw [if_neg c0, if_neg c0]
        by_cases c1 : i % 4 = 1
        · rw [if_pos c1, if_pos c1]
        · rw [if_neg c1, if_neg c1]
          by_cases c2 : i % 4 = 2
          · rw [if_pos c2, if_pos c2]
          · omega
  · have e1 : gk g N (j + 1) (i / 4) = gk g N j (i / 4) := by
      unfold gk
      by_cases hh : i / 4 < j
      · by_cases hfr : freeV (g (i / 4)) = true
        · rw [if_pos ⟨by omega, hfr⟩, if_pos ⟨hh, hfr⟩]
        · rw [if_neg (fun x => hfr x.2), if_neg (fun x => hfr x.2)]
      · rw [if_neg (by omega), if_neg (by omega)]
    rw [if_neg (by omega)]
    unfold icell
    rw [e1]
theorem gk_skip (g : Nat → IV) (N : Nat → Nat) (j : Nat) (hf : freeV (g j) = false) (i : Nat) : gk g N (j + 1) i = gk g N j i := by
  unfold gk
  by_cases h : i = j
  · subst h; rw [hf]; simp
  · by_cases hh : i < j
    · by_cases hfr : freeV (g i) = true
      · rw [if_pos ⟨by omega, hfr⟩, if_pos ⟨hh, hfr⟩]
      · rw [if_neg (fun x => hfr x.2), if_neg (fun x => hfr x.2)]
    · rw [if_neg (by omega), if_neg (by omega)]

/-- A slice that reads as numbers of thirty-two bits. -/
def U32a (w : World) (A : Option Addr) (n c : Nat) (N : Nat → Nat) : Prop := Cel w w.heap.size 1 A n c (fun i => .int .u32 (N i : Nat)) ∧ ∀ i, i < n → N i < 4294967296
theorem u32_of_ints {w : World} {x : Addr} {n c : Nat} {zs : List Int} (h1 : n ≤ c) (h2 : c ≤ maxLen) (hz : n ≤ zs.length) (hc : ∀ i, i < zs.length → w.cell? (x.add i) = some (.int .u32 (zs.getD i 0))) (hw : ∀ z ∈ zs, (Lit.int .u32 z).wf = true) :
    U32a w (some x) n c (fun i => (zs.getD i 0).toNat) := by
  have hb : ∀ i, i < n → 0 ≤ zs.getD i 0 ∧ zs.getD i 0 < 4294967296 := fun i hi => by
    have hi' : i < zs.length := by omega
    have hmem : zs.getD i 0 ∈ zs := by rw [List.getD_eq_getElem?_getD, List.getElem?_eq_getElem hi']; exact List.getElem_mem hi'
    have hwf := hw _ hmem
    simp [Lit.wf, IntKind.min, IntKind.max, IntKind.signed, IntKind.bits] at hwf
    constructor
    · simpa using hwf.1
    · have := hwf.2
      simp only [List.getD_eq_getElem?_getD] at this ⊢
      omega
  refine ⟨.inr ⟨x, rfl, h1, h2, fun i hi => ?_⟩, fun i hi => by have := hb i hi; show (zs.getD i 0).toNat < 4294967296; omega⟩
  have hin : i < n := by omega
  have hcell := hc i (by omega)
  have hlt := World.block_lt_of_cell? w _ hcell
  have eb : (x.add i).block = x.block := by unfold Addr.add; split <;> rfl
  rw [eb] at hlt
  refine ⟨hlt, ?_⟩
  rw [hcell]
  show some (Value.int .u32 _) = some (Value.int .u32 _)
  rw [Int.toNat_of_nonneg (hb i hin).1]

set_option maxRecDepth 100000 in
set_option maxHeartbeats 4000000 in
theorem free_any (v : IV) (hv : v.ok) (w : World) : Calls Try.prog 17 #[.int .u16 v.c] w fun e w' => e = .returned (.bool (freeV v)) ∧ Below w.heap.size w w' := by
  unfold freeV
  have HV := Lib.hid hv
  obtain ⟨K, hK⟩ : ∃ K, kd v = K := ⟨_, rfl⟩
  obtain ⟨X, hX⟩ : ∃ X, xx v = X := ⟨_, rfl⟩
  have HK := Lib.hid hK
  have HX := Lib.hid hX
  rw [hK, hX]
  clear hv hK hX
  cases t2 : (K == 2)
  case true =>
    have e : freeB K X = true := by unfold freeB; rw [t2]; rfl
    rw [e]
    clear e
    go_enter Try.func17, Try.ntmps17
    go_wp2_with (go_at_call 18; refine (refOf_v v HV.out _).mono ?_; rw [HK.out, HX.out]; rintro e w1 ⟨rfl, hB1⟩)
    go_ret
    exact ⟨rfl, hB1⟩
  case false =>
    cases t5 : (K == 5)
    case true =>
      have e : freeB K X = true := by unfold freeB; rw [t2, t5]; rfl
      rw [e]
      clear e
      go_enter Try.func17, Try.ntmps17
      go_wp2_with (go_at_call 18; refine (refOf_v v HV.out _).mono ?_; rw [HK.out, HX.out]; rintro e w1 ⟨rfl, hB1⟩)
      go_ret
      exact ⟨rfl, hB1⟩
    case false =>
      cases t14 : (K == 14)
      case true =>
        have e : freeB K X = true := by unfold freeB; rw [t2, t5, t14]; rfl
        rw [e]
        clear e
        go_enter Try.func17, Try.ntmps17
        go_wp2_with (go_at_call 18; refine (refOf_v v HV.out _).mono ?_; rw [HK.out, HX.out]; rintro e w1 ⟨rfl, hB1⟩)
        go_ret
        exact ⟨rfl, hB1⟩
      case false =>
        cases t15 : (K == 15)
        case true =>
          have e : freeB K X = true := by unfold freeB; rw [t2, t5, t14, t15]; rfl
          rw [e]
          clear e
          go_enter Try.func17, Try.ntmps17
          go_wp2_with (go_at_call 18; refine (refOf_v v HV.out _).mono ?_; rw [HK.out, HX.out]; rintro e w1 ⟨rfl, hB1⟩)
          go_ret
          exact ⟨rfl, hB1⟩
        case false =>
          cases X
          case true =>
            have e : freeB K true = true := by unfold freeB; rw [t2, t5, t14, t15]; rfl
            rw [e]
            clear e
            go_enter Try.func17, Try.ntmps17
            go_wp2_with (go_at_call 18; refine (refOf_v v HV.out _).mono ?_; rw [HK.out, HX.out]; rintro e w1 ⟨rfl, hB1⟩)
            go_ret
            exact ⟨rfl, hB1⟩
          case false =>
            by_cases h16 : K ≥ 16
            · have d16 : decide (K ≥ 16) = true := by simpa using h16
              cases t19 : (K != 19)
              case false =>
                have e : freeB K false = false := by unfold freeB; rw [t2, t5, t14, t15, d16, t19]; rfl
                rw [e]
                clear e d16
                go_enter Try.func17, Try.ntmps17
                go_wp2_with (go_at_call 18; refine (refOf_v v HV.out _).mono ?_; rw [HK.out, HX.out]; rintro e w1 ⟨rfl, hB1⟩)
                go_ret
                exact ⟨rfl, hB1⟩
              case true =>
                cases t22 : (K != 22)
                case false =>
                  have e : freeB K false = false := by unfold freeB; rw [t2, t5, t14, t15, d16, t19, t22]; rfl
                  rw [e]
                  clear e d16
                  go_enter Try.func17, Try.ntmps17
                  go_wp2_with (go_at_call 18; refine (refOf_v v HV.out _).mono ?_; rw [HK.out, HX.out]; rintro e w1 ⟨rfl, hB1⟩)
                  go_ret
                  exact ⟨rfl, hB1⟩
                case true =>
                  cases t23 : (K != 23)
                  case false =>
                    have e : freeB K false = false := by unfold freeB; rw [t2, t5, t14, t15, d16, t19, t22, t23]; rfl
                    rw [e]
                    clear e d16
                    go_enter Try.func17, Try.ntmps17
                    go_wp2_with (go_at_call 18; refine (refOf_v v HV.out _).mono ?_; rw [HK.out, HX.out]; rintro e w1 ⟨rfl, hB1⟩)
                    go_ret
                    exact ⟨rfl, hB1⟩
                  case true =>
                    have e : freeB K false = true := by unfold freeB; rw [t2, t5, t14, t15, d16, t19, t22, t23]; rfl
                    rw [e]
                    clear e d16
                    go_enter Try.func17, Try.ntmps17
                    go_wp2_with (go_at_call 18; refine (refOf_v v HV.out _).mono ?_; rw [HK.out, HX.out]; rintro e w1 ⟨rfl, hB1⟩)
                    go_ret
                    exact ⟨rfl, hB1⟩
            · have d16 : decide (K ≥ 16) = false := by simpa using h16
              have e : freeB K false = false := by unfold freeB; rw [t2, t5, t14, t15, d16]; rfl
              rw [e]
              clear e d16
              go_enter Try.func17, Try.ntmps17
              go_wp2_with (go_at_call 18; refine (refOf_v v HV.out _).mono ?_; rw [HK.out, HX.out]; rintro e w1 ⟨rfl, hB1⟩)
              go_ret
              exact ⟨rfl, hB1⟩
end Go.Proofs.Ytdkmomdekngpnab
