/-
  The contracts of abi.each, an iterator, and of abi.Named and abi.Select, which range over it.
-/
import Derived.Test.YtjblkkffdhaiiaaAb
namespace Go.Proofs.Ytjblkkffdhaiiaa
open Go.RowKit Go.Shelf
attribute [local go_sem] Oper.semAt_some

/-- The first k of five, in order. -/
def upA : (k : Nat) → k ≤ 5 → List (Fin 5)
  | 0, _ => []
  | k + 1, h => upA k (by omega) ++ [⟨k, by omega⟩]
theorem upA_length : ∀ k h, (upA k h).length = k
  | 0, _ => rfl
  | k + 1, h => by unfold upA; rw [List.length_append, upA_length k]; rfl
theorem upA_all : upA 5 (Nat.le_refl _) = List.finRange 5 := rfl

set_option maxRecDepth 100000 in
set_option maxHeartbeats 4000000 in
theorem each_in (l : Nat) (J Jx : List (Fin 5) → World → Prop)
    (hY : ∀ pre x W, J pre W → pre.length < 5 → YieldAt Fence.wide (6 - 1 - 1) Try.prog l #[.int .i64 (x.1 : Int), .agg (infA x.1)] W fun e W' =>
      (e = .returned (.bool true) ∧ J (pre ++ [x]) W' ∧ True) ∨ (e = .returned (.bool false) ∧ Jx (pre ++ [x]) W'))
    (hJ : ∀ pre W o, J pre W → J pre (W.alloc o))
    (W : World) (h0 : J [] W) :
    CallsIn Fence.wide (6 - 1) Try.prog 24 #[.func (.yield l) #[] #[]] W fun e W' => (∃ v, e = .returned v) ∧
      ((∃ ys, ys = List.finRange 5 ∧ J ys W') ∨ (∃ pre, True ∧ Jx pre W')) := by
  have hro : (Fence.wide).round = none := rfl
  refine callsIn_of_wp Try.func24 rfl trivial ?_ hro
  simp only [Try.ntmps24, List.size_toArray, List.length_cons, List.length_nil, Nat.reduceAdd, Nat.reduceSub, Array.replicate_succ, Array.replicate_zero, List.push_toArray, List.append_toArray, List.nil_append, List.cons_append]
  gi_wp2_with (refine ⟨trivial, ?_⟩; gi_at_call 23; refine (callsIn_wide.2 (rows_w _)).mono ?_; rintro e w1 ⟨rfl, rfl⟩)

  gi_loopw [5] (fun i wr => ∃ (k : Nat) (hk : k ≤ 5), i = .int .i64 (k : Nat) ∧ J (upA k hk) wr)
    (fun i _ => 5 - (intOf i).toNat)
  case atStart => exact ⟨0, by omega, rfl, hJ _ _ _ h0⟩
  case round =>
    obtain ⟨k, hk, rfl, hJs⟩ := hrel
    by_cases hlt : k < 5
    · have hix := ixA k hlt
      have i1 : (0 : Int) ≤ (k : Int) := by omega
      have i2 : (k : Int) < 5 := by omega
      obtain ⟨fn, tmps, assign, body, hy, hR⟩ := hY (upA k hk) ⟨k, hlt⟩ (wr.alloc (.cells (infA k) 24)) (hJ _ _ _ hJs) (by rw [upA_length]; exact hlt)
      dsimp only at hy
      gi_wp2
      refine hR.mono ?_
      rintro e W3 (⟨rfl, hJ3, _⟩ | ⟨rfl, hJx3⟩)
      · gi_wp2
        go_roundw
        case rel => exact ⟨k + 1, by omega, by go_num, hJ3⟩
        case measure => simp [intOf] <;> omega
      · gi_wp2
        refine bodyPost_ret (results_none rfl _ _ _) rfl ?_
        exact ⟨⟨_, rfl⟩, .inr ⟨_, trivial, hJx3⟩⟩
    · obtain rfl : k = 5 := by omega
      gi_wp2
      go_end0
      exact ⟨⟨_, rfl⟩, .inl ⟨_, rfl, hJs⟩⟩

theorem each_stops (w : World) :
    SeqStopsK Fence.wide (6 - 1) Try.prog 24 #[] (fun x : Fin 5 => #[.int .i64 (x.1 : Int), .agg (infA x.1)]) (fun _ _ => True) (fun ys => ys = List.finRange 5) (fun _ => True) 5 w := fun l J Jx W hW hJ _ hY h0 =>
  each_in l J Jx hY (fun pre W o h => hJ pre W _ none h (World.grownBy_alloc W o none) (fun r e => by cases e)) W h0

/-- The block b holds just these cells. -/
def RowB (w : World) (b : Nat) (cs : Array Value) (T : TypeId) : Prop := w.heap[b]? = some (.cells cs T)
section
variable {b : Nat} {w w' : World} {cs : Array Value} {T : TypeId}
theorem RowB.lt (h : RowB w b cs T) : b < w.heap.size := (Array.getElem?_eq_some_iff.1 h).1
theorem RowB.below {N : Nat} (h : RowB w b cs T) (hb : Below N w w') (hB : b < N) : RowB w' b cs T := (hb.block b hB).trans h
theorem RowB.cell (h : RowB w b cs T) (i : Nat) (v : Value) (hv : cs[i]? = some v) : w.cell? ⟨b, i, none⟩ = some v := by
  rw [cell_of_row w b i _ _ (0, 0) h, hv]
theorem RowB.frozen (h : RowB w b cs T) (i : Nat) : w.frozen? ⟨b, i, none⟩ = false := by
  have h' : w.heap[b]? = some (.cells cs T) := h
  simp [World.frozen?, h']
theorem RowB.set (h : RowB w b cs T) (i : Nat) (v : Value) : RowB (w.setCell ⟨b, i, none⟩ v) b (cs.setIfInBounds i v) T := by
  unfold RowB
  rw [setCell_eq_setRow w b i _ _ (0, 0) _ h]
  exact setRow_heap w b _ _ _ _ h
theorem RowB.setOther {g : Nat} (h : RowB w b cs T) (i : Nat) (v : Value) (hn : b ≠ g) : RowB (w.setCell ⟨g, i, none⟩ v) b cs T := (Below.heap_setCell _ _ _ _ hn).trans h
theorem RowB.kept {row : Option Nat} (h : RowB w b cs T) (hg : w.grownBy w' row) (hrow : ∀ r, row = some r → ∃ o : Obj, w.heap[r]? = some o ∧ o.isCells = false) : RowB w' b cs T :=
  (grownBy_keeps_cells hg hrow h rfl).trans h
theorem RowB.alloc (h : RowB w b cs T) (o : Obj) : RowB (w.alloc o) b cs T := (Below.heap_alloc _ _ _ h.lt).trans h
end
theorem RowB.new (w : World) (cs : Array Value) (T : TypeId) (k : Nat) (hk : k = w.heap.size) : RowB (w.alloc (.cells cs T)) k cs T := by subst hk; exact heap_alloc_last w _

set_option maxRecDepth 100000 in
theorem named_res (V : World) (s : ByteArray) (b0 b1 b2 : Nat) (v er : Int) (h1 : RowB V b1 #[.int .i64 v] 3) (h2 : RowB V b2 #[.int .i64 er] 25) :
    (results Try.f10 #[.string s, .pointer (some ⟨b0, 0, none⟩), .pointer (some ⟨b1, 0, none⟩), .pointer (some ⟨b2, 0, none⟩), undef, undef, undef, undef, undef, undef, undef, undef, undef]).run Try.prog V = .ok (.tuple #[.int .i64 v, .int .i64 er]) V := by
  have c1 : V.cell? ⟨b1, 0, none⟩ = some (.int .i64 v) := h1.cell 0 _ rfl
  have c2 : V.cell? ⟨b2, 0, none⟩ = some (.int .i64 er) := h2.cell 0 _ rfl
  simp [results, Try.results10, go_sem, c1, c2]
theorem RowB.putObj {W : World} {b D : Nat} {cs : Array Value} {T : TypeId} (h : RowB W b cs T) (o : Obj) (hn : b ≠ D) : RowB (W.putObj D o) b cs T := (World.putObj_heap_other hn).trans h

/-- What a look for a name gives. -/
def NmR (P : Fin 5 → Bool) (w : World) (e : Ending) (w' : World) : Prop :=
  ∃ (v er : Int), ((∃ x, P x = true ∧ v = x.1 ∧ er = 0) ∨ ((∀ x, P x = false) ∧ v = 0 ∧ er = 14)) ∧ e = .returned (.tuple #[.int .i64 v, .int .i64 er]) ∧ Below w.heap.size w w'
set_option maxRecDepth 100000 in
set_option maxHeartbeats 4000000 in
theorem named_any (s : ByteArray) (P : Fin 5 → Bool) (w : World) (hP : ∀ x : Fin 5, ((nmA x.1).toList == s.toList) = P x) :
    Calls Try.prog 10 #[.string s] w (NmR P w) := by
  have HP := Lib.hid hP
  clear hP
  refine (callsIn_wide (n := 6)).1 ?_
  have hro : (Fence.wide).round = none := rfl
  refine callsIn_of_wp_marks Try.func10 rfl trivial ?_ hro
  simp only [Try.ntmps10, List.size_toArray, List.length_cons, List.length_nil, Nat.reduceAdd, Nat.reduceSub, Array.replicate_succ, Array.replicate_zero, List.push_toArray, List.append_toArray, List.nil_append, List.cons_append]
  gi_wp2
  have r1 : RowB (((w.alloc (.cells #[.string s] 9)).alloc (.cells #[.int .i64 0] 3)).alloc (.cells #[.int .i64 0] 25)) w.heap.size #[.string s] 9 := ((RowB.new _ _ _ _ rfl).alloc _).alloc _
  have r2 : RowB (((w.alloc (.cells #[.string s] 9)).alloc (.cells #[.int .i64 0] 3)).alloc (.cells #[.int .i64 0] 25)) (w.heap.size + 1) #[.int .i64 0] 3 := (RowB.new _ _ _ _ (by simp)).alloc _
  have r3 : RowB (((w.alloc (.cells #[.string s] 9)).alloc (.cells #[.int .i64 0] 3)).alloc (.cells #[.int .i64 0] 25)) (w.heap.size + 1 + 1) #[.int .i64 0] 25 := RowB.new _ _ _ _ (by simp)
  have hbw : Below w.heap.size w (((w.alloc (.cells #[.string s] 9)).alloc (.cells #[.int .i64 0] 3)).alloc (.cells #[.int .i64 0] 25)) := (((Below.refl _ _).alloc (Nat.le_refl _) _).alloc (by simp) _).alloc (by simp; omega) _
  have hsz : (((w.alloc (.cells #[.string s] 9)).alloc (.cells #[.int .i64 0] 3)).alloc (.cells #[.int .i64 0] 25)).heap.size = w.heap.size + 3 := by simp
  generalize (((w.alloc (.cells #[.string s] 9)).alloc (.cells #[.int .i64 0] 3)).alloc (.cells #[.int .i64 0] 25)) = w3 at *
  refine wpIn_rangeFunc_ownH hro (by decide) (gf := 24) (lb := #[]) rfl trivial (enters_of Try.func24 (by kernel_rfl) rfl)
    (each_stops w3) (fun _ _ => trivial) (fun _ _ _ _ _ _ _ _ => trivial) (Below.refl _ _) (fun _ => rfl)
    (fun pre W => ((RowB W w.heap.size #[.string s] 9 ∧ RowB W (w.heap.size + 1) #[.int .i64 0] 3 ∧ RowB W (w.heap.size + 1 + 1) #[.int .i64 0] 25) ∧ ∀ x ∈ pre, P x = false) ∧ Below w.heap.size w W)
    (fun c _ W => (c = .ret ∧ ∃ x, P x = true ∧ RowB W (w.heap.size + 1) #[.int .i64 (x.1 : Int)] 3 ∧ RowB W (w.heap.size + 1 + 1) #[.int .i64 0] 25) ∧ Below w.heap.size w W)
    (OwnFrom.and (Own.from (fun s A B row hs hg hr => ⟨⟨hs.1.1.kept hg hr, hs.1.2.1.kept hg hr, hs.1.2.2.kept hg hr⟩, hs.2⟩) _) (ownFrom_below (Nat.le_refl _) (by omega)))
    (fun c => OwnFrom.and (Own.from (fun s A B row hs hg hr => by
      obtain ⟨h1, x, h2, h3, h4⟩ := hs
      exact ⟨h1, x, h2, h3.kept hg hr, h4.kept hg hr⟩) _) (ownFrom_below (Nat.le_refl _) (by omega)))
    ⟨⟨⟨r1, r2, r3⟩, fun x h => (by cases h)⟩, hbw⟩
    (fun x a' W => ∃ Bx, w3.heap.size ≤ Bx ∧ RowB W Bx (infA x.1) 24 ∧ a' = { tmps := #[.string s, .pointer (some ⟨w.heap.size, 0, none⟩), .pointer (some ⟨w.heap.size + 1, 0, none⟩), .pointer (some ⟨w.heap.size + 1 + 1, 0, none⟩), .int .i64 (x.1 : Int), .pointer (some ⟨Bx, 0, none⟩), .int .i64 (x.1 : Int), .agg (infA x.1), undef, undef, undef, undef, undef], defers := [] })
    (fun x a' => Own.from (fun s A B row hs hg hr => by
      obtain ⟨Bx, h1, h2, h3⟩ := hs
      exact ⟨Bx, h1, h2.kept hg hr, h3⟩) _) ?assign ?body ?done ?stop
  case assign =>
    rintro l pre x W K ⟨⟨⟨h1, h2, h3⟩, hpre⟩, hB⟩ hK
    have hWs : w3.heap.size ≤ W.heap.size := by have := h3.lt; omega
    gi_wp2
    exact hK _ _ ((KeepsOthers.alloc _ _).from _) trivial ⟨⟨⟨h1.alloc _, h2.alloc _, h3.alloc _⟩, hpre⟩, hB.alloc hB.size _⟩ ⟨W.heap.size, hWs, RowB.new _ _ _ _ rfl, rfl⟩
  case body =>
    rintro l pre x a' W hl hr ⟨⟨⟨h1, h2, h3⟩, hpre⟩, hB⟩ ⟨Bx, hBx, hrx, rfl⟩ hlen
    have p0 := hrx.cell 0 _ rfl
    have q0 := h1.cell 0 _ rfl
    have q1 := h2.cell 0 _ rfl
    have q2 := h3.cell 0 _ rfl
    have f1 := h2.frozen 0
    have f2 := h3.frozen 0
    cases hx : P x
    · have ht := (HP.out x).trans hx
      gi_wp2
      refine ⟨KeepsFrom.refl _ _, trivial, ⟨⟨h1, h2, h3⟩, fun y hy => ?_⟩, hB⟩
      rcases List.mem_append.1 hy with hy | hy
      · exact hpre y hy
      · rw [List.mem_singleton] at hy; subst hy; exact hx
    · have ht := (HP.out x).trans hx
      gi_wp2
      refine ⟨((KeepsOthers.setCell _ _ _).trans (KeepsOthers.setCell _ _ _)).from _, ⟨rfl, x, hx, (h2.set 0 _).setOther 0 _ (by omega), (h3.setOther 0 _ (by omega)).set 0 _⟩, (hB.setCell (by simp) _).setCell (by simp; omega) _⟩
  case done =>
    rintro D ys W hD rfl ⟨⟨⟨h1, h2, h3⟩, hpre⟩, hB⟩ hK
    have q1 := h2.cell 0 _ rfl
    have q2 := h3.cell 0 _ rfl
    have f1 := h2.frozen 0
    have f2 := h3.frozen 0
    gi_wp2
    have hD1 : w.heap.size + 1 ≠ D := by omega
    have hD2 : w.heap.size + 1 + 1 ≠ D := by omega
    have hK2 : ((W.setCell ⟨w.heap.size + 1, 0, none⟩ (.int .i64 0)).setCell ⟨w.heap.size + 1 + 1, 0, none⟩ (.int .i64 14)).heap[D]? = some (.deferred (some [])) := (Below.heap_setCell _ _ _ _ (by show D ≠ w.heap.size + 1 + 1; omega)).trans ((Below.heap_setCell _ _ _ _ (by show D ≠ w.heap.size + 1; omega)).trans hK)
    refine ⟨by simp, .inl ⟨_, _, rfl, run_takeDeferred hK2, ?_⟩⟩
    exact ⟨_, named_res _ _ _ _ _ _ _ (((h2.set 0 _).setOther 0 _ (by omega)).putObj _ hD1) (((h3.setOther 0 _ (by omega)).set 0 _).putObj _ hD2), _, _, .inr ⟨fun x => hpre x (List.mem_finRange x), rfl, rfl⟩, rfl, ((hB.setCell (by simp) _).setCell (by simp; omega) _).trans (belowK_b (w := w) (Nat.le_refl _) _ D _ _ (by omega) hK2 rfl rfl)⟩
  case stop =>
    rintro D c pre W hD _ ⟨⟨rfl, x, hx, h2, h3⟩, hB⟩ hK
    gi_wp2
    have hD1 : w.heap.size + 1 ≠ D := by omega
    have hD2 : w.heap.size + 1 + 1 ≠ D := by omega
    refine ⟨by simp, .inl ⟨_, _, rfl, run_takeDeferred hK, ?_⟩⟩
    exact ⟨_, named_res _ _ _ _ _ _ _ (h2.putObj _ hD1) (h3.putObj _ hD2), _, _, .inl ⟨x, hx, rfl, rfl⟩, rfl, hB.trans (belowK_b (w := w) (Nat.le_refl _) _ D _ _ (by omega) hK rfl rfl)⟩

/-- No two names are the same. -/
theorem nmA_apart : ∀ x y : Fin 5, ((nmA x.1).toList == (nmA y.1).toList) = (x == y) := by
  have h : ((List.finRange 5).all fun x => (List.finRange 5).all fun y => ((nmA x.1).toList == (nmA y.1).toList) == (x == y)) = true := by kernel_rfl
  intro x y
  have h1 := List.all_eq_true.1 (List.all_eq_true.1 h x (List.mem_finRange x)) y (List.mem_finRange y)
  simpa using h1
theorem named_ok (k : Nat) (hk : k < 5) (s : ByteArray) (hs : s = nmA k) (w : World) :
    Calls Try.prog 10 #[.string s] w fun e w' => e = .returned (.tuple #[.int .i64 k, .int .i64 0]) ∧ Below w.heap.size w w' := by
  subst hs
  refine (named_any (nmA k) (fun x => x == ⟨k, hk⟩) w (fun x => nmA_apart x ⟨k, hk⟩)).mono ?_
  rintro e w' ⟨v, er, h | h, rfl, hb⟩
  · obtain ⟨x, hx, rfl, rfl⟩ := h
    have : x = ⟨k, hk⟩ := by simpa using hx
    subst this
    exact ⟨rfl, hb⟩
  · have := h.1 ⟨k, hk⟩
    simp at this
theorem named_no (s : ByteArray) (w : World) (hs : ∀ k, k < 5 → ((nmA k).toList == s.toList) = false) :
    Calls Try.prog 10 #[.string s] w fun e w' => e = .returned (.tuple #[.int .i64 0, .int .i64 14]) ∧ Below w.heap.size w w' := by
  refine (named_any s (fun _ => false) w (fun x => hs x.1 x.2)).mono ?_
  rintro e w' ⟨v, er, h | h, rfl, hb⟩
  · obtain ⟨x, hx, _⟩ := h
    cases hx
  · obtain ⟨_, rfl, rfl⟩ := h
    exact ⟨rfl, hb⟩
end Go.Proofs.Ytjblkkffdhaiiaa
