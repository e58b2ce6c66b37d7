/-
  Layer 16, pure: sorted and made compact, conditions are in order, each once; and in memory.
-/
import Derived.Test.YtcmdmnnkbliggaaGreatDoorRdk
namespace Go.Proofs.YtcmdmnnkbliggaaGreatDoor
open Go.RowKit Go.Shelf Go.Lib Go.Sort
set_option linter.unusedVariables false

def cvOf (c : CD) : CV := (c.a, c.o, (c.m : Int), (c.v : Int))
theorem cvOf_inj {c d : CD} (h : cvOf c = cvOf d) : c = d := by
  obtain ⟨a, o, m, v⟩ := c
  obtain ⟨a', o', m', v'⟩ := d
  simp only [cvOf, Prod.mk.injEq] at h
  obtain ⟨rfl, rfl, h1, h2⟩ := h
  obtain rfl : m = m' := by omega
  obtain rfl : v = v' := by omega
  rfl
theorem ltC_cv (c d : CD) : ltOf cfC (cvOf c) (cvOf d) = true ↔ ltD c d := by
  rw [ltC_iff]
  unfold ltC ltD cvOf
  simp only [Int.ofNat_lt]
  omega
theorem enc_cv (c : CD) : encC (cvOf c) = crow c := rfl
theorem mem_compact (d : Array CV) (x : CV) : x ∈ compactUpTo d d.size ↔ x ∈ d.toList := by
  unfold compactUpTo
  rw [List.mem_map]
  constructor
  · rintro ⟨i, hi, rfl⟩
    have hi' : i < d.size := List.mem_range.1 (List.mem_filter.1 hi).1
    rw [getElem!_pos d i hi']
    simp
  · intro hx
    obtain ⟨i, hi, rfl⟩ := List.getElem_of_mem hx
    have hi0 : i < d.size := by simpa using hi
    have key : ∀ i, i < d.size → ∃ a ∈ (List.range d.size).filter (keeps d), d[a]! = d[i]! := by
      intro i
      induction i with
      | zero => exact fun h => ⟨0, List.mem_filter.2 ⟨List.mem_range.2 h, by simp [keeps]⟩, rfl⟩
      | succ n ih =>
        intro h
        by_cases e : d[n + 1]! = d[n]!
        · obtain ⟨a, ha, hv⟩ := ih (by omega)
          exact ⟨a, ha, hv.trans e.symm⟩
        · exact ⟨n + 1, List.mem_filter.2 ⟨List.mem_range.2 h, keeps_pos e⟩, rfl⟩
    obtain ⟨a, ha, hv⟩ := key i hi0
    refine ⟨a, ha, ?_⟩
    rw [hv, getElem!_pos d i hi0]
    simp
theorem pw_compact (d : Array CV) (hs : SortedIn (ltOf cfC) 0 d.size d) : (compactUpTo d d.size).Pairwise fun x y => ltOf cfC x y = true := by
  unfold compactUpTo
  rw [List.pairwise_map]
  refine ((List.pairwise_lt_range (n := d.size)).filter _).imp_of_mem fun {i j} hi hj hij => ?_
  have hj' := List.mem_filter.1 hj
  have hjs : j < d.size := List.mem_range.1 hj'.1
  have hne : d[j]! ≠ d[j - 1]! := by
    have := hj'.2
    simp only [keeps, decide_eq_true_eq] at this
    exact this.resolve_left (by omega)
  have h1 : ltOf cfC d[j]! d[i]! = false := hs i j (Nat.zero_le _) hij hjs
  rcases hb : ltOf cfC d[i]! d[j]! with _ | _
  · exfalso
    have e : d[i]! = d[j]! := ltC_total _ _ hb h1
    have h2 : ltOf cfC d[j]! d[j - 1]! = false := hs (j - 1) j (Nat.zero_le _) (by omega) hjs
    have h3 : ltOf cfC d[j - 1]! d[j]! = false := by
      rcases Nat.lt_or_ge i (j - 1) with h | h
      · rw [← e]; exact hs i (j - 1) (Nat.zero_le _) h (by omega)
      · have : j - 1 = i := by omega
        rw [this]; exact hb
    exact hne (ltC_total _ _ h2 h3)
  · rfl
theorem compact_srt (M : List CD) (d : Array CV) (hp : PermIn 0 d.size (M.map cvOf).toArray d) (hs : SortedIn (ltOf cfC) 0 d.size d) : compactUpTo d d.size = (srt M).map cvOf := by
  have hm : ∀ x, x ∈ compactUpTo d d.size ↔ x ∈ (srt M).map cvOf := fun x => by
    rw [mem_compact]
    have h3 := hp.2.2
    have e1 : (d.extract 0 d.size).toList = d.toList := by simp
    have e2 : ((M.map cvOf).toArray.extract 0 d.size).toList = M.map cvOf := by
      have : (M.map cvOf).toArray.size = d.size := hp.1.symm
      rw [← this]; simp [List.take_of_length_le]
    rw [e1, e2] at h3
    rw [h3.mem_iff, List.mem_map, List.mem_map]
    constructor
    · rintro ⟨c, hc, rfl⟩; exact ⟨c, (mem_srt c M).2 hc, rfl⟩
    · rintro ⟨c, hc, rfl⟩; exact ⟨c, (mem_srt c M).1 hc, rfl⟩
  refine pw_uniq (R := fun x y => ltOf cfC x y = true) (fun a h => by rw [swoC.irrefl] at h; cases h) (fun a b h h' => by have := swoC.trans _ _ _ h h'; rw [swoC.irrefl] at this; cases this) _ _ (pw_compact d hs) ?_ hm
  rw [List.pairwise_map]
  exact (pw_srt M).imp fun {a b} h => (ltC_cv a b).2 h
theorem below_sorted (w : World) (b off n : Nat) (d : Array CV) (os : Array Obj) (hb : b < w.heap.size) : Below b w (sortWorldK encC 4 w b off n d os) := by
  refine ⟨rfl, rfl, rfl, by simp [sortWorldK, grow, putRowK, putRow, mapBlock, Sort.ahead], fun k hk => ?_⟩
  unfold sortWorldK putRowK putRow grow
  simp only
  rw [Array.getElem?_append_left (by simp [mapBlock, Sort.ahead]; omega)]
  have : b ≠ k := by omega
  simp [mapBlock, Sort.ahead, Array.getElem?_modify, this]
/-- The call's own row of conditions. -/
def RowK (w : World) (base : Nat) (A : Option Addr) (M : List CD) (c : Nat) : Prop := w.ownsRow base 61 4 (.slice A M.length c) M.length (M.flatMap crow) ∧ (M = [] → A = none ∧ c = 0)
theorem RowK.nil_ (w : World) (base : Nat) : RowK w base none [] 0 := ⟨World.ownsRow_nil _ _ _ _, fun _ => ⟨rfl, rfl⟩⟩
theorem RowK.below {w w' : World} {base : Nat} {A : Option Addr} {M : List CD} {c B : Nat} (h : RowK w base A M c) (hb : Below B w w') (hB : w.heap.size ≤ B) : RowK w' base A M c := by
  refine ⟨?_, h.2⟩
  obtain ⟨h1, h2⟩ := h.1
  refine ⟨h1, ?_⟩
  rcases h2 with h2 | ⟨gg, cap, cur, hv, hg, hh, r⟩
  · exact Or.inl h2
  · exact Or.inr ⟨gg, cap, cur, hv, hg, (hb.block gg (Nat.lt_of_lt_of_le (Array.getElem?_eq_some_iff.1 hh).1 hB)).trans hh, r⟩
theorem RowK.alloc {w : World} {base : Nat} {A : Option Addr} {M : List CD} {c : Nat} (h : RowK w base A M c) (o : Obj) : RowK (w.alloc o) base A M c := h.below ((Below.refl w.heap.size w).alloc (Nat.le_refl _) o) (Nat.le_refl _)
/-- A row that is not empty, as the sort wants it. -/
theorem RowK.holds {w : World} {base : Nat} {A : Option Addr} {M : List CD} {c : Nat} (h : RowK w base A M c) (hM : M ≠ []) : ∃ g, A = some ⟨g, 0, none⟩ ∧ base ≤ g ∧ g < w.heap.size ∧ TyAt w g 61 ∧ M.length ≤ c ∧ c ≤ maxLen ∧ HoldsK encC 4 w g 0 (M.map cvOf).toArray := by
  have hp : 0 < M.length := List.length_pos_iff.2 hM
  have hown := h.1
  rcases hown.2 with ⟨_, h0⟩ | ⟨g, cap, cur, hv, hg, hh, h1, h2, _⟩
  · omega
  · injection hv with e1 e2 e3
    subst e1 e3
    refine ⟨g, rfl, hg, (Array.getElem?_eq_some_iff.1 hh).1, ⟨cur, _, hh⟩, h1, h2, fun t ht => ?_⟩
    have ht' : t < M.length * 4 := by simpa using ht
    obtain ⟨i, j, hi, hj, rfl⟩ : ∃ i j, i < M.length ∧ j < 4 ∧ t = i * 4 + j := ⟨t / 4, t % 4, by omega, by omega, by omega⟩
    refine ⟨?_, hown.frozenAt _⟩
    rw [get_flatK _ _ _ _ (by simpa using ht'), (divmod4 i j hj).1, (divmod4 i j hj).2, Nat.zero_add]
    have hat := flat_at crow (fun _ => rfl) M i j hi hj
    have hd : (M.map cvOf).toArray[i]! = cvOf M[i]! := by
      rw [getElem!_pos (M.map cvOf).toArray i (by simpa using hi), getElem!_pos M i hi]
      simp
    rw [hd, enc_cv]
    have hj' : j < (crow M[i]!).length := hj
    rw [List.getElem?_eq_getElem hj'] at hat
    rw [hown.cellAt (i * 4 + j) ht', hat]
    show some _ = some (id _)
    rw [getElem!_pos (crow M[i]!) j hj']
    rfl
theorem app_cond {w : World} {ops : Array Oper} {rest : List Oper} {o : Oper} {a : Act} {Q : Exit → Act → World → Prop} (hgd : o.guard = none) (s x : Operand)
    (ho : o.op = .call { callee := .builtin .append, args := #[s, x], argTypes := #[55, 55] })
    {base c d g1 : Nat} {A : Option Addr} {M : List CD} (hs : a.eval s = .slice A M.length c) (hown : RowK w base A M c) {r : CD} (hx : a.eval x = .slice (some ⟨g1, 0, none⟩) 1 d) (hg1 : RowC w g1 (crow r).toArray 61)
    (hn : M.length ≤ 100000) (hbase : base ≤ w.heap.size)
    (h : ∀ A' c' w', RowK w' base A' (M ++ [r]) c' → Below base w w' → wpList Tryz.prog ops Q rest (a.put o.dst (.slice A' (M.length + 1) c')) w') : wpList Tryz.prog ops Q (o :: rest) a w := by
  obtain ⟨i, hi, hz, hsz, hby⟩ := info_parts infoC2
  refine wpList_append_lies w hgd s x 55 ho base 61 i _ 4 32 Tryz.underlying55 hi hz hsz hby (by rfl) (by decide) _ M.length _ hs hown.1 ⟨g1, 0, none⟩ 1 d (crow r) hx (by rfl) (World.news_of_block hg1) (crowL_one r) (by decide) (by unfold maxLen; omega) (by omega) hbase _ rfl ?_
  intro g cap w' h1 h2 h3 h4
  refine h (some ⟨g, 0, none⟩) cap w' ⟨?_, fun e => absurd e (by simp)⟩ ((Below.refl _ _).grown h2 hbase (fun k hk => (hown.1.lt k hk).1))
  have e : M.flatMap crow ++ crow r = (M ++ [r]).flatMap crow := by simp
  rw [e] at h1
  simpa using h1
end Go.Proofs.YtcmdmnnkbliggaaGreatDoor
