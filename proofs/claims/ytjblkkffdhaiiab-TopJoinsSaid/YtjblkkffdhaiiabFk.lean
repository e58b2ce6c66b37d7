/-
  The pruned program by a plain function; the iterator flow.seen.
-/
import Derived.Test.YtjblkkffdhaiiabFg
namespace Go.Proofs.Ytjblkkffdhaiiab
open Go.RowKit Go.Shelf
attribute [local go_sem] Oper.semAt_some

/-- How many of the first i are reached. -/
def cnt (g : Nat → IV) (n : Nat) : Nat → Nat
  | 0 => 0
  | i + 1 => cnt g n i + (if way g n i = true then 1 else 0)
theorem cnt_mono (g : Nat → IV) (n : Nat) : ∀ j i, i ≤ j → cnt g n i ≤ cnt g n j := by
  intro j
  induction j with
  | zero => intro i h; obtain rfl : i = 0 := by omega
            exact Nat.le_refl _
  | succ j ih =>
    intro i h
    by_cases e : i = j + 1
    · subst e; exact Nat.le_refl _
    · have := ih i (by omega)
      show _ ≤ cnt g n j + _
      omega
theorem cnt_le (g : Nat → IV) (n : Nat) : ∀ i, cnt g n i ≤ i
  | 0 => Nat.le_refl _
  | i + 1 => by
    have := cnt_le g n i
    show cnt g n i + (if way g n i = true then 1 else 0) ≤ i + 1
    split <;> omega
theorem cnt_at {g : Nat → IV} {n i : Nat} (h : way g n i = true) : cnt g n (i + 1) = cnt g n i + 1 := by
  show cnt g n i + (if way g n i = true then 1 else 0) = _
  rw [if_pos h]
theorem cnt_far (g : Nat → IV) (n i : Nat) : ∀ f, cnt g n (i + f) ≤ cnt g n i + f
  | 0 => Nat.le_refl _
  | f + 1 => by
    have := cnt_far g n i f
    show cnt g n (i + f) + (if way g n (i + f) = true then 1 else 0) ≤ _
    split <;> omega
/-- A reached place. -/
abbrev Rch (g : Nat → IV) (n : Nat) := { i : Nat // i < n ∧ way g n i = true }
/-- The reached ones of the first k, in order. -/
def rupto (g : Nat → IV) (n : Nat) : (k : Nat) → k ≤ n → List (Rch g n)
  | 0, _ => []
  | k + 1, h => rupto g n k (by omega) ++ (if hw : way g n k = true then [⟨k, by omega, hw⟩] else [])
theorem rupto_length (g : Nat → IV) (n : Nat) : ∀ k h, (rupto g n k h).length = cnt g n k
  | 0, _ => rfl
  | k + 1, h => by
    unfold rupto cnt
    rw [List.length_append, rupto_length g n k]
    by_cases hw : way g n k = true
    · rw [dif_pos hw, if_pos hw]; rfl
    · rw [dif_neg hw, if_neg hw]; rfl

set_option maxRecDepth 100000 in
set_option maxHeartbeats 4000000 in
theorem seen1_in (F : Fence) (N : Nat) (h8 : F.fn 73) (hro : F.round = none) (hn : 1 ≤ N) (g : Nat → IV) (m cp l Bx Mx pb off mb : Nat) (hm : m ≤ 4096) (J Jx : List (Rch g m) → World → Prop)
    (hY : ∀ pre x W, J pre W → pre.length < cnt g m m → YieldAt F (N - 1) Try.prog l #[flV (g x.1) x.1] W fun e W' =>
      (e = .returned (.bool true) ∧ J (pre ++ [x]) W' ∧ ((W'.heap[Bx]? = W.heap[Bx]? ∧ W'.heap[pb]? = W.heap[pb]?) ∧ (W'.heap[Mx]? = W.heap[Mx]? ∧ W'.heap[mb]? = W.heap[mb]?))) ∨ (e = .returned (.bool false) ∧ Jx (pre ++ [x]) W'))
    (hJal : ∀ pre W o, J pre W → J pre (W.alloc o))
    (W : World) (h1 : W.cell? ⟨Bx, 0, none⟩ = some (.slice (some ⟨pb, off, none⟩) m cp)) (h2 : ∀ i, i < m * 6 → W.cell? ⟨pb, off + i, none⟩ = some (fcell g i)) (h3 : W.cell? ⟨Mx, 0, none⟩ = some (.slice (some ⟨mb, 0, none⟩) m m)) (h4 : RowAt W mb (boolRow m (way g m)) 4)
    (h0 : J [] W) :
    CallsIn F N Try.prog 73 #[.func (.yield l) #[] #[], .pointer (some ⟨Bx, 0, none⟩), .pointer (some ⟨Mx, 0, none⟩)] W fun e W' => (∃ v, e = .returned v) ∧
      ((∃ ys, ys = rupto g m m (Nat.le_refl _) ∧ J ys W') ∨ (∃ pre, True ∧ Jx pre W')) := by
  refine callsIn_of_wp Try.func73 rfl h8 ?_ hro
  simp only [Try.ntmps73, List.size_toArray, List.length_cons, List.length_nil, Nat.reduceAdd, Nat.reduceSub, Array.replicate_succ, Array.replicate_zero, List.push_toArray, List.append_toArray, List.nil_append, List.cons_append]
  gi_wp2
  gi_loopw [8] (fun i wr => ∃ (k : Nat) (hk : k ≤ m), i = .int .i64 (k : Nat) ∧ J (rupto g m k hk) wr ∧ ((wr.heap[Bx]? = W.heap[Bx]? ∧ wr.heap[pb]? = W.heap[pb]?) ∧ (wr.heap[Mx]? = W.heap[Mx]? ∧ wr.heap[mb]? = W.heap[mb]?)))
    (fun i _ => m - (intOf i).toNat)
  case atStart => exact ⟨0, Nat.zero_le _, rfl, h0, ⟨rfl, rfl⟩, rfl, rfl⟩
  case round =>
    obtain ⟨k, hk, rfl, hJs, ⟨n1, n2⟩, n3, n4⟩ := hrel
    have g1 := (World.cell?_of_block (w := W) (a := ⟨Bx, 0, none⟩) n1).trans h1
    have g3 := (World.cell?_of_block (w := W) (a := ⟨Mx, 0, none⟩) n3).trans h3
    have g4 : RowAt wr mb (boolRow m (way g m)) 4 := n4.trans h4
    by_cases hlt : k < m
    · have hcell : ∀ j, j < 6 → wr.cell? ⟨pb, off + (k * 6 + j), none⟩ = some ((flA (g k) k).getD j undef) := fun j hj => by
        rw [(World.cell?_of_block (w := W) (a := ⟨pb, off + (k * 6 + j), none⟩) n2), h2 _ (by omega), fcell_at g _ j hj]
      have v0 : wr.cell? ⟨pb, off + k * 6, none⟩ = some (.int .u16 (g k).c) := hcell 0 (by decide)
      have v1 : wr.cell? ⟨pb, off + k * 6 + 1, none⟩ = some (.int .u8 (g k).t) := by rw [Nat.add_assoc]; exact hcell 1 (by decide)
      have v2 : wr.cell? ⟨pb, off + k * 6 + 2, none⟩ = some (.int .u8 (g k).f) := by rw [Nat.add_assoc]; exact hcell 2 (by decide)
      have v3 : wr.cell? ⟨pb, off + k * 6 + 3, none⟩ = some (.int .u32 (g k).k) := by rw [Nat.add_assoc]; exact hcell 3 (by decide)
      have v4 : wr.cell? ⟨pb, off + k * 6 + 4, none⟩ = some (.int .i64 (kd (g k))) := by rw [Nat.add_assoc]; exact hcell 4 (by decide)
      have v5 : wr.cell? ⟨pb, off + k * 6 + 5, none⟩ = some (.int .i64 k) := by rw [Nat.add_assoc]; exact hcell 5 (by decide)
      have i1 : (0 : Int) ≤ (k : Int) := by omega
      have i2 : (k : Int) < (m : Int) := by omega
      have g5 := g4.cell k _ (boolRow_at m _ k hlt)
      have hl1 := World.block_lt_of_cell? _ _ g1
      have hl2 := World.block_lt_of_cell? _ _ v0
      have hl3 := World.block_lt_of_cell? _ _ g3
      have hl4 := g4.lt
      clear hcell
      cases hw : way g m k
      · rw [hw] at g5
        have HRU : Hid (rupto g m (k + 1) (by omega) = rupto g m k hk) := Lib.hid (by show rupto g m k _ ++ _ = _; rw [dif_neg (by rw [hw]; decide), List.append_nil])
        clear hw h2 h4 g4
        gi_wp2
        refine ⟨fun _ h => (by cases h), ?_⟩
        gi_wp2
        go_roundw
        case rel => exact ⟨k + 1, by omega, by go_num, by rw [HRU.out]; exact hJal _ _ _ hJs, ⟨(Below.heap_alloc _ _ _ hl1).trans n1, (Below.heap_alloc _ _ _ hl2).trans n2⟩, (Below.heap_alloc _ _ _ hl3).trans n3, (Below.heap_alloc _ _ _ hl4).trans n4⟩
        case measure => simp [intOf] <;> omega
      · rw [hw] at g5
        have HRU : Hid (rupto g m (k + 1) (by omega) = rupto g m k hk ++ [⟨k, hlt, hw⟩]) := Lib.hid (by show rupto g m k _ ++ _ = _; rw [dif_pos hw])
        obtain ⟨fn, tmps, assign, body, hy, hR⟩ := hY (rupto g m k hk) ⟨k, hlt, hw⟩ (wr.alloc (.cells #[.int .u16 (g k).c, .int .u8 (g k).t, .int .u8 (g k).f, .int .u32 (g k).k, .int .i64 (kd (g k)), .int .i64 k] 85)) (hJal _ _ _ hJs) (by rw [rupto_length]; have h1 := cnt_at hw; have h2 := cnt_mono g m m (k + 1) (by omega); omega)
        dsimp only at hy
        clear h2 h4 g4
        gi_wp2
        refine hR.mono ?_
        rintro e W3 (⟨rfl, hJ3, ⟨k1, k2⟩, k3, k4⟩ | ⟨rfl, hJx3⟩)
        · gi_wp2
          go_roundw
          case rel => exact ⟨k + 1, by omega, by go_num, by rw [HRU.out]; exact hJ3, ⟨(k1.trans (Below.heap_alloc _ _ _ hl1)).trans n1, (k2.trans (Below.heap_alloc _ _ _ hl2)).trans n2⟩, (k3.trans (Below.heap_alloc _ _ _ hl3)).trans n3, (k4.trans (Below.heap_alloc _ _ _ hl4)).trans n4⟩
          case measure => simp [intOf] <;> omega
        · gi_wp2
          refine bodyPost_ret (results_none rfl _ _ _) rfl ?_
          exact ⟨⟨_, rfl⟩, .inr ⟨_, trivial, hJx3⟩⟩
    · obtain rfl : k = m := by omega
      gi_wp2
      go_end0
      exact ⟨⟨_, rfl⟩, .inl ⟨_, rfl, hJs⟩⟩
end Go.Proofs.Ytjblkkffdhaiiab
