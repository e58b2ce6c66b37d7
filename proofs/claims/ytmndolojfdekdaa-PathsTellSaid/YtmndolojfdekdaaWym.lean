/-
  Layer 27: of all paths of a plain program just one is taken, and a run is that one.
-/
import Derived.Test.YtmndolojfdekdaaWz1
import Derived.Test.YtmndolojfdekdaaVn
namespace Go.Proofs.Ytmndolojfdekdaa
open Go.RowKit Go.Shelf
set_option linter.unusedVariables false

/-- Does a record take a path? -/
def tkB (f : Nat → Nat) (v : PV) : Bool := v.ts.all fun x => holdF 64 f x
theorem allF_list (f : Nat → Nat) (l : List TV) : allF 64 f (fun j => l[j]!) l.length = l.all fun x => holdF 64 f x := by
  unfold allF
  rw [Bool.eq_iff_iff, List.all_eq_true, List.all_eq_true]
  constructor
  · intro h x hx
    obtain ⟨i, hi, rfl⟩ := List.mem_iff_getElem.1 hx
    have := h i (List.mem_range.2 hi)
    have e : l[i]! = l[i] := getElem!_pos l i hi
    rw [← e]
    exact this
  · intro h i hi
    have hi := List.mem_range.1 hi
    have e : l[i]! = l[i] := getElem!_pos l i hi
    show holdF 64 f l[i]! = true
    rw [e]
    exact h _ (List.getElem_mem _)
/-- A path's tests begin with those that were asked ahead. -/
theorem pF_pre (g : Nat → IV) : ∀ (m i p q : Nat) (ts : List TV) (s : Nat), ∀ v ∈ pF g m i p q ts s, ∃ us, v.ts = ts ++ us := by
  intro m
  induction m with
  | zero => intro i p q ts s v hv; cases hv
  | succ m ih =>
    intro i p q ts s v hv
    unfold pF at hv
    by_cases h1 : kd (g i) = 14
    · rw [if_pos h1, List.mem_singleton] at hv; subst hv; exact ⟨[], by simp⟩
    rw [if_neg h1] at hv
    by_cases h2 : brK (kd (g i)) = true
    · rw [if_pos h2] at hv
      rcases List.mem_append.1 hv with hv | hv
      · obtain ⟨us, e⟩ := ih _ _ _ _ _ v hv
        exact ⟨_ :: us, by rw [e, List.append_assoc]; rfl⟩
      · obtain ⟨us, e⟩ := ih _ _ _ _ _ v hv
        exact ⟨_ :: us, by rw [e, List.append_assoc]; rfl⟩
    rw [if_neg h2] at hv
    by_cases h3 : kd (g i) = 13
    · rw [if_pos h3] at hv; exact ih _ _ _ _ _ v hv
    rw [if_neg h3] at hv
    split at hv
    · exact ih _ _ _ _ _ v hv
    · exact ih _ _ _ _ _ v hv
theorem pF_none (g : Nat → IV) (f : Nat → Nat) (m i p q : Nat) (ts : List TV) (s : Nat) (h : (ts.all fun x => holdF 64 f x) = false) : (pF g m i p q ts s).filter (tkB f) = [] := by
  rw [List.filter_eq_nil_iff]
  intro v hv
  obtain ⟨us, e⟩ := pF_pre g m i p q ts s v hv
  unfold tkB
  rw [e, List.all_append, h]
  simp
theorem num4_lt (f : Nat → Nat) (hf : ∀ i, f i < 256) (k : Nat) : num (fun i => f (k + i)) 4 < 4294967296 := by
  have h0 := hf (k + 0)
  have h1 := hf (k + 1)
  have h2 := hf (k + 2)
  have h3 := hf (k + 3)
  simp only [num]
  omega
theorem and_full {a : Nat} (h : a < 4294967296) : a &&& 4294967295 = a := by
  have := Nat.and_two_pow_sub_one_eq_mod a 32
  simp only [Nat.reducePow, Nat.reduceSub] at this
  rw [this, Nat.mod_eq_of_lt h]
theorem flt_p {p : Nat} (h : p ≤ 60) : flt ((64 : Nat) : Int) (p : Int) 4 = 0 := by
  unfold flt
  rw [if_pos (by omega), if_neg (by omega)]
/-- What a branch asks. -/
def askB (K : Int) (a k : Nat) : Bool := if K = 25 then decide (a = k) else if K = 26 then decide (k < a) else if K = 27 then decide (k ≤ a) else decide (a &&& k ≠ 0)
theorem holdV_ask (a k : Nat) (p : Int) (q : Nat) (K : Int) (hK : brK K = true) (s : Bool) : holdV a ⟨p, q, K, k, s⟩ = (askB K a k == s) := by
  unfold brK at hK
  simp only [Bool.or_eq_true, beq_iff_eq] at hK
  unfold holdV askB
  rcases hK with ((rfl | rfl) | rfl) | rfl
  · rw [if_pos rfl, if_pos rfl]
  · rw [if_neg (show ¬ ((26 : Int) = 25) by decide), if_neg (show ¬ ((26 : Int) = 25) by decide), if_pos rfl, if_pos rfl]
  · rw [if_neg (show ¬ ((27 : Int) = 25) by decide), if_neg (show ¬ ((27 : Int) = 25) by decide), if_neg (show ¬ ((27 : Int) = 26) by decide), if_neg (show ¬ ((27 : Int) = 26) by decide), if_pos rfl, if_pos rfl]
  · rw [if_neg (show ¬ ((28 : Int) = 25) by decide), if_neg (show ¬ ((28 : Int) = 25) by decide), if_neg (show ¬ ((28 : Int) = 26) by decide), if_neg (show ¬ ((28 : Int) = 26) by decide), if_neg (show ¬ ((28 : Int) = 27) by decide), if_neg (show ¬ ((28 : Int) = 27) by decide), if_pos rfl]
theorem hold_ask (f : Nat → Nat) (p q k : Nat) (K : Int) (hK : brK K = true) (hp : p ≤ 60) (s : Bool) : holdF 64 f ⟨(p : Int), q, K, k, s⟩ = (askB K (num (fun i => f (p + i)) 4 &&& q) k == s) := by
  unfold holdF
  show (if flt ((64 : Nat) : Int) (p : Int) 4 = 0 then _ else _) = _
  rw [if_pos (flt_p hp)]
  exact holdV_ask _ k _ q K hK s
theorem step_br (f : Nat → Nat) (v : IV) (s : VS) (hb : brK (kd v) = true) (hx : xx v = false) : step f v s = .go ⟨s.a, s.x, s.cl, s.nx + 1 + (if askB (kd v) s.a v.k = true then v.t else v.f), s.st + 1, s.ld⟩ := by
  unfold step
  have ho : oth v s = v.k := by unfold oth; rw [hx]; rfl
  rw [ho]
  unfold brK at hb
  simp only [Bool.or_eq_true, beq_iff_eq] at hb
  unfold askB
  rcases hb with ((h | h) | h) | h
  · rw [h]; by_cases hc : s.a = v.k <;> simp [doK, VS.setn, VS.tick, hc]
  · rw [h]; by_cases hc : v.k < s.a <;> simp [doK, VS.setn, VS.tick, hc]
  · rw [h]; by_cases hc : v.k ≤ s.a <;> simp [doK, VS.setn, VS.tick, hc]
  · rw [h]; by_cases hc : s.a &&& v.k = 0 <;> simp [doK, VS.setn, VS.tick, hc]
/-- The tests of a path are tests, and not too many. -/
theorem pF_ok {g : Nat → IV} {n : Nat} (F : Fmd g n) (hk : ∀ i, i < n → okI (g i) = true) (hv : ∀ i, i < n → (g i).ok) : ∀ (m i p q : Nat) (ts : List TV) (s : Nat), i < n → p < 4294967296 → q < 4294967296 → (∀ x ∈ ts, x.ok) →
    ∀ v ∈ pF g m i p q ts s, (∀ x ∈ v.ts, x.ok) ∧ v.ts.length ≤ ts.length + m ∧ v.st ≤ s + m := by
  intro m
  induction m with
  | zero => intro i p q ts s _ _ _ _ v hv; cases hv
  | succ m ih =>
    intro i p q ts s hi hp hq hts v hm
    have hgk := (hv i hi).2.2.2
    unfold pF at hm
    by_cases h1 : kd (g i) = 14
    · rw [if_pos h1, List.mem_singleton] at hm; subst hm
      exact ⟨hts, by show ts.length ≤ ts.length + (m + 1); omega, by show s + 1 ≤ s + (m + 1); omega⟩
    rw [if_neg h1] at hm
    by_cases h2 : brK (kd (g i)) = true
    · rw [if_pos h2] at hm
      have e := nx_br h2 i
      have hts2 : ∀ b, ∀ x ∈ ts ++ [(⟨(p : Int), q, kd (g i), (g i).k, b⟩ : TV)], x.ok := fun b x hx => by
        rcases List.mem_append.1 hx with hx | hx
        · exact hts x hx
        · rw [List.mem_singleton] at hx; subst hx
          exact ⟨⟨by show (-9223372036854775808 : Int) ≤ (p : Int); omega, by show (p : Int) ≤ (9223372036854775807 : Int); omega⟩, hq, hgk⟩
      rcases List.mem_append.1 hm with hm | hm
      · obtain ⟨a, b, c⟩ := ih _ _ _ _ _ (next_lt F hi (by rw [e]; simp)) hp hq (hts2 _) v hm
        exact ⟨a, by simp at b; omega, by omega⟩
      · obtain ⟨a, b, c⟩ := ih _ _ _ _ _ (next_lt F hi (by rw [e]; simp)) hp hq (hts2 _) v hm
        exact ⟨a, by simp at b; omega, by omega⟩
    rw [if_neg h2] at hm
    by_cases h3 : kd (g i) = 13
    · rw [if_pos h3] at hm
      have e := nx_ja h3 i
      obtain ⟨a, b, c⟩ := ih _ _ _ _ _ (next_lt F hi (by rw [e]; simp)) hp hq hts v hm
      exact ⟨a, by omega, by omega⟩
    rw [if_neg h3] at hm
    have e := nx_on h1 (okI_15 (hk i hi)) (by simpa using h2) h3 i
    have hn : i + 1 < n := next_lt F hi (by rw [e]; simp)
    split at hm
    · obtain ⟨a, b, c⟩ := ih _ _ _ _ _ hn hgk (by decide) hts v hm
      exact ⟨a, by omega, by omega⟩
    · obtain ⟨a, b, c⟩ := ih _ _ _ _ _ hn hp (Nat.lt_of_le_of_lt Nat.and_le_left hq) hts v hm
      exact ⟨a, by omega, by omega⟩
/-- The run is the one path that is taken. -/
theorem run_path {g : Nat → IV} {n : Nat} (F : Fmd g n) (hk : ∀ i, i < n → okI (g i) = true) (f : Nat → Nat) (hf : ∀ i, f i < 256) : ∀ (m : Nat) (s : VS) (p q : Nat) (ts : List TV), s.nx < n → n - s.nx ≤ m → p ≤ 60 → s.a = num (fun i => f (p + i)) 4 &&& q →
    (ts.all fun x => holdF 64 f x) = true → ∃ val sF ts', runF g f m s = some (val, sF) ∧ (pF g m s.nx p q ts s.st).filter (tkB f) = [⟨ts', sF.st, val⟩] := by
  intro m
  induction m with
  | zero => intro s p q ts h1 h2; omega
  | succ m ih =>
    intro s p q ts hi hm hp ha hts
    obtain ⟨i, hsi⟩ : ∃ i, s.nx = i := ⟨_, rfl⟩
    rw [hsi] at hi hm ⊢
    have hki := hk i hi
    have hx : xx (g i) = false := by unfold okI at hki; simp only [Bool.and_eq_true, Bool.not_eq_true'] at hki; exact hki.1
    have ho : oth (g i) s = (g i).k := by unfold oth; rw [hx]; rfl
    unfold runF pF
    rw [hsi]
    by_cases h1 : kd (g i) = 14
    · rw [if_pos h1]
      have hs : step f (g i) s = .stop (g i).k s.tick := by unfold step; rw [h1]; rfl
      rw [hs]
      refine ⟨_, _, ts, rfl, ?_⟩
      have : tkB f ⟨ts, s.st + 1, (g i).k⟩ = true := hts
      rw [List.filter_cons, if_pos this]
      rfl
    rw [if_neg h1]
    by_cases h2 : brK (kd (g i)) = true
    · rw [if_pos h2, step_br f (g i) s h2 hx, List.filter_append]
      have e := nx_br h2 i
      have l1 : i + 1 + (g i).t < n := next_lt F hi (by rw [e]; simp)
      have l2 : i + 1 + (g i).f < n := next_lt F hi (by rw [e]; simp)
      have hT := hold_ask f p q (g i).k (kd (g i)) h2 hp
      rw [← ha] at hT
      by_cases hc : askB (kd (g i)) s.a (g i).k = true
      · rw [if_pos hc]
        rw [pF_none g f m (i + 1 + (g i).f) p q _ _ (by rw [List.all_append, hts]; simp [hT, hc]), List.append_nil, hsi]
        exact ih ⟨s.a, s.x, s.cl, i + 1 + (g i).t, s.st + 1, s.ld⟩ p q _ l1 (by show n - (i + 1 + (g i).t) ≤ m; omega) hp ha (by rw [List.all_append, hts]; simp [hT, hc])
      · have hc' : askB (kd (g i)) s.a (g i).k = false := by simpa using hc
        rw [if_neg hc]
        rw [pF_none g f m (i + 1 + (g i).t) p q _ _ (by rw [List.all_append, hts]; simp [hT, hc']), List.nil_append, hsi]
        exact ih ⟨s.a, s.x, s.cl, i + 1 + (g i).f, s.st + 1, s.ld⟩ p q _ l2 (by show n - (i + 1 + (g i).f) ≤ m; omega) hp ha (by rw [List.all_append, hts]; simp [hT, hc'])
    rw [if_neg h2]
    by_cases h3 : kd (g i) = 13
    · rw [if_pos h3]
      have e := nx_ja h3 i
      have l1 : i + 1 + (g i).k < n := next_lt F hi (by rw [e]; simp)
      have hs : step f (g i) s = .go ⟨s.a, s.x, s.cl, i + 1 + (g i).k, s.st + 1, s.ld⟩ := by unfold step; rw [h3, ← hsi]; rfl
      rw [hs]
      exact ih ⟨s.a, s.x, s.cl, i + 1 + (g i).k, s.st + 1, s.ld⟩ p q ts l1 (by show n - (i + 1 + (g i).k) ≤ m; omega) hp ha hts
    rw [if_neg h3]
    have e := nx_on h1 (okI_15 hki) (by simpa using h2) h3 i
    have l1 : i + 1 < n := next_lt F hi (by rw [e]; simp)
    by_cases h4 : kd (g i) = 1
    · rw [if_pos h4]
      have hal := (alone_facts _ _ (F.al i hi)).2.1 h4
      have hs : step f (g i) s = .go ⟨num (fun j => f ((g i).k + j)) 4, s.x, s.cl, i + 1, s.st + 1, s.ld ++ [(g i).k]⟩ := by unfold step; rw [h4, ← hsi]; rfl
      rw [hs]
      exact ih ⟨num (fun j => f ((g i).k + j)) 4, s.x, s.cl, i + 1, s.st + 1, s.ld ++ [(g i).k]⟩ (g i).k 4294967295 ts l1 (by show n - (i + 1) ≤ m; omega) (by omega) (by show num _ 4 = _; rw [and_full (num4_lt f hf _)]) hts
    · rw [if_neg h4]
      have h21 : kd (g i) = 21 := by
        have hm : mayS (kd (g i)) = true := by unfold okI at hki; simp only [Bool.and_eq_true] at hki; exact hki.2
        unfold mayS at hm
        simp only [Bool.or_eq_true, beq_iff_eq] at hm
        have h2' : ¬ brK (kd (g i)) = true := h2
        rcases hm with (((h | h) | h) | h) | h
        · exact absurd h h4
        · exact h
        · exact absurd h h3
        · exact absurd h h1
        · exact absurd h h2'
      have hs : step f (g i) s = .go ⟨s.a &&& (g i).k, s.x, s.cl, i + 1, s.st + 1, s.ld⟩ := by unfold step; rw [h21, ho, ← hsi]; rfl
      rw [hs]
      exact ih ⟨s.a &&& (g i).k, s.x, s.cl, i + 1, s.st + 1, s.ld⟩ p (q &&& (g i).k) ts l1 (by show n - (i + 1) ≤ m; omega) hp (by show s.a &&& (g i).k = _; rw [ha, Nat.and_assoc]) hts
theorem run_one {g : Nat → IV} {n : Nat} (F : Fmd g n) (hk : ∀ i, i < n → okI (g i) = true) (f : Nat → Nat) (hf : ∀ i, f i < 256) : ∃ val sF ts', runF g f n zst = some (val, sF) ∧ (pF g n 0 0 0 [] 0).filter (tkB f) = [⟨ts', sF.st, val⟩] :=
  run_path F hk f hf n zst 0 0 [] F.pos (by show n - 0 ≤ n; omega) (by decide) (by show 0 = _; simp) rfl
/-- How many of the first paths are taken. -/
def tkN (f : Nat → Nat) (L : List PV) (i : Nat) : Nat := ((L.take i).filter (tkB f)).length
theorem tkN_succ (f : Nat → Nat) (L : List PV) (i : Nat) (hi : i < L.length) : tkN f L (i + 1) = tkN f L i + if tkB f L[i]! = true then 1 else 0 := by
  unfold tkN
  rw [List.take_succ_eq_append_getElem hi, List.filter_append, List.length_append, getElem!_pos L i hi]
  congr 1
  rw [List.filter_cons]
  split <;> rfl
theorem tk_same {f : Nat → Nat} {L : List PV} {v : PV} (h : L.filter (tkB f) = [v]) {i : Nat} (hi : i < L.length) (ht : tkB f L[i]! = true) : L[i]! = v := by
  have : L[i]! ∈ L.filter (tkB f) := List.mem_filter.2 ⟨by rw [getElem!_pos L i hi]; exact List.getElem_mem _, ht⟩
  rw [h] at this
  exact List.mem_singleton.1 this
theorem tkN_all {f : Nat → Nat} {L : List PV} {v : PV} (h : L.filter (tkB f) = [v]) : tkN f L L.length = 1 := by
  unfold tkN
  rw [List.take_of_length_le (Nat.le_refl _), h]
  rfl
theorem Pths.keep {w w' : World} {A : Option Addr} {c : Nat} {L : List PV} {S : Nat → Option Addr × Nat} (h : Pths w A c L S) (hB : Below w.heap.size w w') : Pths w' A c L S :=
  ⟨(h.1.below hB).more hB.size, fun i hi => ((h.2 i hi).below hB).more hB.size⟩
set_option maxRecDepth 100000 in
set_option maxHeartbeats 4000000 in
theorem all27_any (A : Option Addr) (n c : Nat) (g : Nat → IV) (w : World) (hn : n ≤ 1000000) (hr : Ins w w.heap.size A n c g) :
    Calls Try.prog 19 #[.slice A n c] w fun e w' => ∃ A' c', e = .returned (.slice A' n c') ∧ OwnC w' w.heap.size 71 4 A' n c' (icell g) ∧ Below w.heap.size w w' := by
  go_enter Try.func19, Try.ntmps19
  go_wp2
  go_loopw [3, 4] (fun v i wr => ∃ (k : Nat) (A' : Option Addr) (c' : Nat), k ≤ n ∧ i = .int .i64 k ∧ v = .slice A' k c' ∧ OwnC wr w.heap.size 71 4 A' k c' (icell g) ∧ Below w.heap.size w wr)
    (fun _ i _ => n - (intOf i).toNat)
  case atStart => exact ⟨0, none, 0, Nat.zero_le _, rfl, rfl, OwnC.nil_, Below.refl _ _⟩
  case round =>
    obtain ⟨k, A', c', hk, rfl, rfl, hown, hB⟩ := hrel
    by_cases hlt : k < n
    · obtain ⟨b, off, rfl, hb, hc⟩ := (hr.below hB).at_ (by omega)
      obtain ⟨q0, q1, q2, q3⟩ := hc k hlt
      have HW := Lib.hid (icell_cat g k)
      generalize g k = v at *
      have i1 : (0 : Int) ≤ (k : Int) := by omega
      have i2 : (k : Int) < (n : Int) := by omega
      clear hc
      go_wp2
      go_region_held3 (fun w' => w'.cell? ⟨b, off + k * 4, none⟩ = some (.int .u16 v.c) ∧ w'.cell? ⟨b, off + k * 4 + 1, none⟩ = some (.int .u8 v.t) ∧ w'.cell? ⟨b, off + k * 4 + 2, none⟩ = some (.int .u8 v.f) ∧ w'.cell? ⟨b, off + k * 4 + 3, none⟩ = some (.int .u32 v.k))
        (first
          | go_keep
          | exact ⟨(hK.cell (p := ⟨b, off + k * 4, none⟩) hb).trans q0, (hK.cell (p := ⟨b, off + k * 4 + 1, none⟩) hb).trans q1, (hK.cell (p := ⟨b, off + k * 4 + 2, none⟩) hb).trans q2, (hK.cell (p := ⟨b, off + k * 4 + 3, none⟩) hb).trans q3⟩)
        (first | (refine step_cells2 (by rfl) _ _ _ 71 (by rfl) Try.underlying23 infoI (by rfl) (by decide) (by rfl) (hown.alloc _).drew (by rfl) (one_inst wr v 71) (fun i _ => icell_one _ i) (by unfold maxLen; omega) (by omega) (by have := hB.size; simp; omega) (k + 1) rfl (icell g) HW.out ?_; rintro A2 c2 w2 hown2 hB2; have hK : Below w.heap.size wr w2 := ((Below.refl _ _).alloc hB.size _).drew.trans hB2))
      go_wp2
      exact ⟨⟨k + 1, A2, c2, by omega, by go_num, rfl, hown2, hB.trans hK⟩, by simp [intOf]; omega⟩
    · obtain rfl : k = n := by omega
      go_wp2
      go_ret
      exact ⟨_, _, rfl, hown, hB⟩
end Go.Proofs.Ytmndolojfdekdaa
